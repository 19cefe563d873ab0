/- What happens to a drive, as an argument: a slice of structs of four cells. No program is named here. -/
import Derived.Test.YthlonnbafekjbaaTrod
import Derived.Deep.Fields
namespace Go.Mem
open Go.RowKit Go.WideShapes Go.ChangeShapes Go.Deep
/-- what happens to a drive -/
structure ActD where
  what : Int
  slot : Int
  b : List Nat
  keep : Nat
def ActD.ok (x : ActD) : Prop := -9223372036854775808 ≤ x.what ∧ x.what ≤ 9223372036854775807 ∧ -9223372036854775808 ≤ x.slot ∧ x.slot ≤ 9223372036854775807 ∧ x.keep < 18446744073709551616
/-- v is a slice of structs of four cells that read as L -/
def Acts (w : World) (v : Value) (L : List ActD) : Prop :=
  ∃ (A : Option Addr) (n C : Nat), v = .slice A n C ∧ n = L.length ∧ n ≤ C ∧ C ≤ maxLen ∧ (A = none → C = 0) ∧
    ∀ i (h : i < L.length), ∃ b o u, A = some ⟨b, o, none⟩ ∧ w.cell? ⟨b, o + i * 4, none⟩ = some (.int .i64 L[i].what) ∧ w.cell? ⟨b, o + i * 4 + 1, none⟩ = some (.int .i64 L[i].slot) ∧
      w.cell? ⟨b, o + i * 4 + 2, none⟩ = some u ∧ w.cell? ⟨b, o + i * 4 + 3, none⟩ = some (.int .u64 (L[i].keep : Nat)) ∧ Bytes w u L[i].b ∧ L[i].ok
theorem Acts.below {w w' : World} {v : Value} {L : List ActD} (h : Acts w v L) (hb : Below w.heap.size w w') : Acts w' v L := by
  obtain ⟨A, n, C, h1, h2, h3, h4, h5, h6⟩ := h
  refine ⟨A, n, C, h1, h2, h3, h4, h5, fun i hi => ?_⟩
  obtain ⟨b, o, u, e, c0, c1, c2, c3, hu, hk⟩ := h6 i hi
  exact ⟨b, o, u, e, below_cell hb _ _ c0, below_cell hb _ _ c1, below_cell hb _ _ c2, below_cell hb _ _ c3, hu.below hb, hk⟩
theorem Acts.shape {w : World} {v : Value} {L : List ActD} (h : Acts w v L) : ∃ A C, v = .slice A L.length C ∧ L.length ≤ C ∧ C ≤ 9223372036854775807 ∧ (A = none → C = 0) := by
  obtain ⟨A, n, C, h1, h2, h3, h4, h5, _⟩ := h
  subst h2; unfold maxLen at h4
  exact ⟨A, C, h1, h3, h4, h5⟩
theorem Acts.at {w : World} {A : Option Addr} {n C : Nat} {L : List ActD} (h : Acts w (.slice A n C) L) {i : Nat} (hi : i < L.length) :
    ∃ b o A' C', A = some ⟨b, o, none⟩ ∧ w.cell? ⟨b, o + i * 4, none⟩ = some (.int .i64 L[i].what) ∧ w.cell? ⟨b, o + i * 4 + 1, none⟩ = some (.int .i64 L[i].slot) ∧
      w.cell? ⟨b, o + i * 4 + 2, none⟩ = some (.slice A' L[i].b.length C') ∧ w.cell? ⟨b, o + i * 4 + 3, none⟩ = some (.int .u64 (L[i].keep : Nat)) ∧ Bytes w (.slice A' L[i].b.length C') L[i].b ∧ L[i].ok := by
  obtain ⟨A1, n1, C1, h1, _, _, _, _, h6⟩ := h
  cases h1
  obtain ⟨b, o, u, e, c0, c1, c2, c3, hu, hk⟩ := h6 i hi
  obtain ⟨A', C', rfl, _⟩ := hu.shape
  exact ⟨b, o, A', C', e, c0, c1, c2, c3, hu, hk⟩
theorem one_cell {α : Type} {l : List α} {i : Nat} (h : i < l.length) : (l.drop i).take 1 = [l[i]] := by
  rw [List.drop_eq_getElem_cons h]; rfl
instance : Inhabited ActD := ⟨⟨0, 0, [], 0⟩⟩
theorem acts_of {H : Type} {enc : TypeId × Value → H} {P : Program} {w : World} {held : Bool} {t e tb : TypeId} {f0 f1 f2 f3 : Field} {v : Value} {d : DataW H} {ps : List MemPlace} (ht : P.underlying t = some (.slice e)) (he : P.underlying e = some (.struct #[f0, f1, f2, f3]))
    (hone : oneCellFields P #[f0, f1, f2, f3] = true) (hC : P.cellsOf e = 4) (h0 : P.underlying f0.type = some (.int .i64)) (h1 : P.underlying f1.type = some (.int .i64)) (h2 : P.underlying f2.type = some (.slice tb)) (hb : P.underlying tb = some (.int .u8)) (cb : P.cellsOf tb = 1)
    (h3 : P.underlying f3.type = some (.int .u64)) (hv : ∃ A n C, v = .slice A n C) (h : DataW.Trod enc P w 0 (fun _ => true) held t v d ps) : ∃ L, Acts w v L := by
  obtain ⟨A0, n0, C0, rfl⟩ := hv
  obtain ⟨fuel, hf⟩ := h
  rcases Deep.open_slice ht hf with ⟨k1, _⟩ | ⟨a, len, cap, m, n, D, Pl, k1, _, hl, hm, hmm, _, hel⟩
  · have k1' : [Value.slice A0 n0 C0] = [.slice none 0 0] := k1
    cases k1'
    exact ⟨[], none, 0, 0, rfl, rfl, Nat.le_refl _, Nat.zero_le _, fun _ => rfl, fun i hi => absurd hi (by simp)⟩
  · have k1' : [Value.slice A0 n0 C0] = [.slice (some a) len cap] := k1
    cases k1'
    simp only [if_true] at hmm
    have each : ∀ i, i < n0 → ∃ x : ActD, ∃ u, w.cell? (a.add (i * 4)) = some (.int .i64 x.what) ∧ w.cell? ((a.add (i * 4)).add 1) = some (.int .i64 x.slot) ∧ w.cell? ((a.add (i * 4)).add 2) = some u ∧ w.cell? ((a.add (i * 4)).add 3) = some (.int .u64 (x.keep : Nat)) ∧ Bytes w u x.b ∧ x.ok := by
      intro i hi
      obtain ⟨cs, hc, htr⟩ := hel i (by omega)
      rw [hC] at hc
      obtain ⟨_, hlen, hat⟩ := World.cells?_some hc
      obtain ⟨xs, q, _, _, _, hxl, hg⟩ := DataW.trod_struct he htr
      obtain ⟨o0, z0⟩ := hone_of hone 0 f0 rfl
      obtain ⟨o1, z1⟩ := hone_of hone 1 f1 rfl
      obtain ⟨o2, z2⟩ := hone_of hone 2 f2 rfl
      obtain ⟨o3, z3⟩ := hone_of hone 3 f3 rfl
      have g0 := hg 0 f0 rfl
      have g1 := hg 1 f1 rfl
      have g2 := hg 2 f2 rfl
      have g3 := hg 3 f3 rfl
      rw [o0, z0, one_cell (by omega)] at g0
      rw [o1, z1, one_cell (by omega)] at g1
      rw [o2, z2, one_cell (by omega)] at g2
      rw [o3, z3, one_cell (by omega)] at g3
      have some_of : ∀ (j : Nat), j < 4 → ∃ y, xs[j]? = some y := by
        intro j hj
        have : j < xs.length := by rw [hxl]; exact hj
        exact ⟨_, List.getElem?_eq_getElem this⟩
      obtain ⟨y0, e0⟩ := some_of 0 (by omega)
      obtain ⟨y1, e1⟩ := some_of 1 (by omega)
      obtain ⟨y2, e2⟩ := some_of 2 (by omega)
      obtain ⟨y3, e3⟩ := some_of 3 (by omega)
      rw [e0] at g0
      rw [e1] at g1
      rw [e2] at g2
      rw [e3] at g3
      obtain ⟨i0, w0, _, b0⟩ := DataW.trod_int h0 g0
      obtain ⟨i1, w1, _, b1⟩ := DataW.trod_int h1 g1
      obtain ⟨i3, w3, _, b3⟩ := DataW.trod_int h3 g3
      obtain ⟨A2, n2, C2, w2⟩ : ∃ A n C, cs[2] = Value.slice A n C := by
        rcases Deep.open_slice h2 g2 with ⟨k, _⟩ | ⟨a', len', cap', _, _, _, _, k, _⟩
        · exact ⟨none, 0, 0, by simpa using k⟩
        · exact ⟨some a', len', cap', by simpa using k⟩
      obtain ⟨l2, hl2⟩ := bytes_of (enc := enc) (held := held) (v := cs[2]) (d := y2.1) (ps := y2.2) h2 hb cb ⟨A2, n2, C2, w2⟩ ⟨q, by rw [w2] at g2 ⊢; exact g2⟩
      have q0 := bounds_i64 b0
      have q1 := bounds_i64 b1
      have q3 := bounds_u64 b3
      have c0 := hat 0 (by omega)
      have c1 := hat 1 (by omega)
      have c2 := hat 2 (by omega)
      have c3 := hat 3 (by omega)
      rw [List.getElem?_eq_getElem (by omega)] at c0 c1 c2 c3
      have w0' : cs[0] = .int .i64 i0 := by simpa using w0
      have w1' : cs[1] = .int .i64 i1 := by simpa using w1
      have w3' : cs[3] = .int .u64 i3 := by simpa using w3
      rw [w0'] at c0
      rw [w1'] at c1
      rw [w3'] at c3
      refine ⟨⟨i0, i1, l2, i3.toNat⟩, cs[2], by simpa [Addr.add] using c0, c1, c2, ?_, hl2, ⟨q0.1, q0.2, q1.1, q1.2, by show i3.toNat < _; omega⟩⟩
      rw [c3]
      show some (Value.int .u64 i3) = some (.int .u64 ((i3.toNat : Nat) : Int))
      rw [Int.toNat_of_nonneg q3.1]
    obtain ⟨f, hf2⟩ := Deep.choose_lt each
    refine ⟨(List.range n0).map f, some a, n0, C0, rfl, by simp, hl, hm, (fun q => by cases q), fun i hi => ?_⟩
    have hi' : i < n0 := by simpa using hi
    obtain ⟨u, c0, c1, c2, c3, hu, hk⟩ := hf2 i hi'
    obtain ⟨_, c00, _⟩ := hf2 0 (by omega)
    rw [Nat.zero_mul] at c00
    obtain ⟨b, o, rfl⟩ := spot_none c00
    rw [addr_add] at c0
    rw [addr_add, addr_add] at c1 c2 c3
    simp only [List.getElem_map, List.getElem_range]
    exact ⟨b, o, u, rfl, c0, c1, c2, c3, hu, hk⟩
end Go.Mem
