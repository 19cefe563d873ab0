/- What happens to tapes, as an argument: a slice of structs of three cells. No program is named here. -/
import Derived.Test.YtndponihilfidaaTrod
import Derived.Deep.Fields
namespace Go.Mem
open Go.RowKit Go.WideShapes Go.ChangeShapes Go.Deep
/-- what happens to tapes -/
structure TAct where
  what : Int
  n : Int
  b : List Nat
def TAct.ok (x : TAct) : Prop := -9223372036854775808 ≤ x.what ∧ x.what ≤ 9223372036854775807 ∧ -9223372036854775808 ≤ x.n ∧ x.n ≤ 9223372036854775807
/-- v is a slice of structs of three cells that read as L -/
def TActs (w : World) (v : Value) (L : List TAct) : Prop :=
  ∃ (A : Option Addr) (n C : Nat), v = .slice A n C ∧ n = L.length ∧ n ≤ C ∧ C ≤ maxLen ∧ (A = none → C = 0) ∧
    ∀ i (h : i < L.length), ∃ b o u, A = some ⟨b, o, none⟩ ∧ w.cell? ⟨b, o + i * 3, none⟩ = some (.int .i64 L[i].what) ∧ w.cell? ⟨b, o + i * 3 + 1, none⟩ = some (.int .i64 L[i].n) ∧
      w.cell? ⟨b, o + i * 3 + 2, none⟩ = some u ∧ Bytes w u L[i].b ∧ L[i].ok
theorem TActs.below {w w' : World} {v : Value} {L : List TAct} (h : TActs w v L) (hb : Below w.heap.size w w') : TActs w' v L := by
  obtain ⟨A, n, C, h1, h2, h3, h4, h5, h6⟩ := h
  refine ⟨A, n, C, h1, h2, h3, h4, h5, fun i hi => ?_⟩
  obtain ⟨b, o, u, e, c0, c1, c2, hu, hk⟩ := h6 i hi
  exact ⟨b, o, u, e, below_cell hb _ _ c0, below_cell hb _ _ c1, below_cell hb _ _ c2, hu.below hb, hk⟩
theorem TActs.shape {w : World} {v : Value} {L : List TAct} (h : TActs w v L) : ∃ A C, v = .slice A L.length C ∧ L.length ≤ C ∧ C ≤ 9223372036854775807 ∧ (A = none → C = 0) := by
  obtain ⟨A, n, C, h1, h2, h3, h4, h5, _⟩ := h
  subst h2; unfold maxLen at h4
  exact ⟨A, C, h1, h3, h4, h5⟩
theorem TActs.at {w : World} {A : Option Addr} {n C : Nat} {L : List TAct} (h : TActs w (.slice A n C) L) {i : Nat} (hi : i < L.length) :
    ∃ b o A' C', A = some ⟨b, o, none⟩ ∧ w.cell? ⟨b, o + i * 3, none⟩ = some (.int .i64 L[i].what) ∧ w.cell? ⟨b, o + i * 3 + 1, none⟩ = some (.int .i64 L[i].n) ∧
      w.cell? ⟨b, o + i * 3 + 2, none⟩ = some (.slice A' L[i].b.length C') ∧ Bytes w (.slice A' L[i].b.length C') L[i].b ∧ L[i].ok := by
  obtain ⟨A1, n1, C1, h1, _, _, _, _, h6⟩ := h
  cases h1
  obtain ⟨b, o, u, e, c0, c1, c2, hu, hk⟩ := h6 i hi
  obtain ⟨A', C', rfl, _⟩ := hu.shape
  exact ⟨b, o, A', C', e, c0, c1, c2, hu, hk⟩
theorem one_cell' {α : Type} {l : List α} {i : Nat} (h : i < l.length) : (l.drop i).take 1 = [l[i]] := by
  rw [List.drop_eq_getElem_cons h]; rfl
instance : Inhabited TAct := ⟨⟨0, 0, []⟩⟩
theorem tacts_of {H : Type} {enc : TypeId × Value → H} {P : Program} {w : World} {held : Bool} {t e tb : TypeId} {f0 f1 f2 : Field} {v : Value} {d : DataW H} {ps : List MemPlace} (ht : P.underlying t = some (.slice e)) (he : P.underlying e = some (.struct #[f0, f1, f2]))
    (hone : oneCellFields P #[f0, f1, f2] = true) (hC : P.cellsOf e = 3) (h0 : P.underlying f0.type = some (.int .i64)) (h1 : P.underlying f1.type = some (.int .i64)) (h2 : P.underlying f2.type = some (.slice tb)) (hb : P.underlying tb = some (.int .u8)) (cb : P.cellsOf tb = 1)
    (hv : ∃ A n C, v = .slice A n C) (h : DataW.Trod enc P w 0 (fun _ => true) held t v d ps) : ∃ L, TActs w v L := by
  obtain ⟨A0, n0, C0, rfl⟩ := hv
  obtain ⟨fuel, hf⟩ := h
  rcases Deep.open_slice ht hf with ⟨k1, _⟩ | ⟨a, len, cap, m, n, D, Pl, k1, _, hl, hm, hmm, _, hel⟩
  · have k1' : [Value.slice A0 n0 C0] = [.slice none 0 0] := k1
    cases k1'
    exact ⟨[], none, 0, 0, rfl, rfl, Nat.le_refl _, Nat.zero_le _, fun _ => rfl, fun i hi => absurd hi (by simp)⟩
  · have k1' : [Value.slice A0 n0 C0] = [.slice (some a) len cap] := k1
    cases k1'
    simp only [if_true] at hmm
    have each : ∀ i, i < n0 → ∃ x : TAct, ∃ u, w.cell? (a.add (i * 3)) = some (.int .i64 x.what) ∧ w.cell? ((a.add (i * 3)).add 1) = some (.int .i64 x.n) ∧ w.cell? ((a.add (i * 3)).add 2) = some u ∧ Bytes w u x.b ∧ x.ok := by
      intro i hi
      obtain ⟨cs, hc, htr⟩ := hel i (by omega)
      rw [hC] at hc
      obtain ⟨_, hlen, hat⟩ := World.cells?_some hc
      obtain ⟨xs, q, _, _, _, hxl, hg⟩ := DataW.trod_struct he htr
      obtain ⟨o0, z0⟩ := hone_of hone 0 f0 rfl
      obtain ⟨o1, z1⟩ := hone_of hone 1 f1 rfl
      obtain ⟨o2, z2⟩ := hone_of hone 2 f2 rfl
      have g0 := hg 0 f0 rfl
      have g1 := hg 1 f1 rfl
      have g2 := hg 2 f2 rfl
      rw [o0, z0, one_cell' (by omega)] at g0
      rw [o1, z1, one_cell' (by omega)] at g1
      rw [o2, z2, one_cell' (by omega)] at g2
      have some_of : ∀ (j : Nat), j < 3 → ∃ y, xs[j]? = some y := by
        intro j hj
        have : j < xs.length := by rw [hxl]; exact hj
        exact ⟨_, List.getElem?_eq_getElem this⟩
      obtain ⟨y0, e0⟩ := some_of 0 (by omega)
      obtain ⟨y1, e1⟩ := some_of 1 (by omega)
      obtain ⟨y2, e2⟩ := some_of 2 (by omega)
      rw [e0] at g0
      rw [e1] at g1
      rw [e2] at g2
      obtain ⟨i0, w0, _, b0⟩ := DataW.trod_int h0 g0
      obtain ⟨i1, w1, _, b1⟩ := DataW.trod_int h1 g1
      obtain ⟨A2, n2, C2, w2⟩ : ∃ A n C, cs[2] = Value.slice A n C := by
        rcases Deep.open_slice h2 g2 with ⟨k, _⟩ | ⟨a', len', cap', _, _, _, _, k, _⟩
        · exact ⟨none, 0, 0, by simpa using k⟩
        · exact ⟨some a', len', cap', by simpa using k⟩
      obtain ⟨l2, hl2⟩ := bytes_of (enc := enc) (held := held) (v := cs[2]) (d := y2.1) (ps := y2.2) h2 hb cb ⟨A2, n2, C2, w2⟩ ⟨q, by rw [w2] at g2 ⊢; exact g2⟩
      have q0 := bounds_i64 b0
      have q1 := bounds_i64 b1
      have c0 := hat 0 (by omega)
      have c1 := hat 1 (by omega)
      have c2 := hat 2 (by omega)
      rw [List.getElem?_eq_getElem (by omega)] at c0 c1 c2
      have w0' : cs[0] = .int .i64 i0 := by simpa using w0
      have w1' : cs[1] = .int .i64 i1 := by simpa using w1
      rw [w0'] at c0
      rw [w1'] at c1
      exact ⟨⟨i0, i1, l2⟩, cs[2], by simpa [Addr.add] using c0, c1, c2, hl2, ⟨q0.1, q0.2, q1.1, q1.2⟩⟩
    obtain ⟨f, hf2⟩ := Deep.choose_lt each
    refine ⟨(List.range n0).map f, some a, n0, C0, rfl, by simp, hl, hm, (fun q => by cases q), fun i hi => ?_⟩
    have hi' : i < n0 := by simpa using hi
    obtain ⟨u, c0, c1, c2, hu, hk⟩ := hf2 i hi'
    obtain ⟨_, c00, _⟩ := hf2 0 (by omega)
    rw [Nat.zero_mul] at c00
    obtain ⟨b, o, rfl⟩ := spot_none c00
    rw [addr_add] at c0
    rw [addr_add, addr_add] at c1 c2
    simp only [List.getElem_map, List.getElem_range]
    exact ⟨b, o, u, rfl, c0, c1, c2, hu, hk⟩
end Go.Mem
