/- Slices of calls as arguments, in this place's words. -/
import Derived.Test.YtkibnpienbchaaaLnMem
import Derived.Test.YtkibnpienbchaaaTrod
import Derived.Deep.Fields
import Derived.Deep.Slices
import Derived.SizedLaws
namespace Go.Proofs.Ytkibnpienbchaaa.Lnr
set_option linter.unusedVariables false
open Go.ChangeShapes Go.WideShapes Go.ChangeAt Go.RowKit Go.Deep
open Go.Mem Ln
variable {H : Type} {enc : TypeId × Value → H} {P : Program} {w : World} {held : Bool}
theorem one_in {α : Type} {l : List α} {i : Nat} (h : i < l.length) : (l.drop i).take 1 = [l[i]] := by
  rw [List.drop_eq_getElem_cons h]; rfl
/-- a struct of one-cell fields, field by field -/
theorem fields_plain {t : TypeId} {fs : Array Field} {fuel : Nat} {cs : List Value} {x : DataW H × List MemPlace} (ht : P.underlying t = some (.struct fs)) (hone : oneCellFields P fs = true) (hC : P.cellsOf t = fs.size)
    (h : DataW.trod enc P w 0 (fun _ => true) held fuel t cs = some x) :
    cs.length = fs.size ∧ ∃ n, ∀ (j : Nat) (f : Field), fs[j]? = some f → ∃ y, DataW.trod enc P w 0 (fun _ => true) held n f.type [cs.getD j undef] = some y := by
  obtain ⟨xs, q, _, hx, hl, hxl, hg⟩ := DataW.trod_struct ht h
  rw [hC] at hl
  refine ⟨hl, q, fun j f hj => ?_⟩
  obtain ⟨o, z⟩ := hone_of hone j f hj
  have hjl : j < fs.size := (Array.getElem?_eq_some_iff.1 hj).1
  have g := hg j f hj
  have hxj : j < xs.length := by omega
  rw [o, z, one_in (by omega), List.getElem?_eq_getElem hxj] at g
  refine ⟨xs[j], ?_⟩
  rw [List.getD_eq_getElem?_getD, List.getElem?_eq_getElem (show j < cs.length by omega)]
  exact g
theorem slice_in {t e : TypeId} {n : Nat} {v : Value} {y : DataW H × List MemPlace} (ht : P.underlying t = some (.slice e)) (h : DataW.trod enc P w 0 (fun _ => true) held n t [v] = some y) : ∃ A m C, v = .slice A m C := by
  rcases open_slice ht h with ⟨k, _⟩ | ⟨a', len', cap', _, _, _, _, k, _⟩
  · exact ⟨none, 0, 0, by simpa using k⟩
  · exact ⟨some a', len', cap', by simpa using k⟩
/-- the types of a call -/
structure CallT (P : Program) (e : TypeId) (t3 t8 t9 : TypeId) (f0 f1 f2 f3 f4 f5 f6 f7 f8 f9 : Field) : Prop where
  he : P.underlying e = some (.struct #[f0, f1, f2, f3, f4, f5, f6, f7, f8, f9])
  one : oneCellFields P #[f0, f1, f2, f3, f4, f5, f6, f7, f8, f9] = true
  c : P.cellsOf e = 10
  h0 : P.underlying f0.type = some (.int .i64)
  h1 : P.underlying f1.type = some (.int .i64)
  h2 : P.underlying f2.type = some .string
  h3 : P.underlying f3.type = some (.slice t3)
  h4 : P.underlying f4.type = some (.int .i64)
  h5 : P.underlying f5.type = some (.int .i64)
  h6 : P.underlying f6.type = some (.int .i64)
  h7 : P.underlying f7.type = some (.int .i64)
  h8 : P.underlying f8.type = some (.slice t8)
  h9 : P.underlying f9.type = some (.slice t9)
theorem call_in {e t3 t8 t9 : TypeId} {f0 f1 f2 f3 f4 f5 f6 f7 f8 f9 : Field} {fuel : Nat} {cs : List Value} {y : DataW H × List MemPlace} (T : CallT P e t3 t8 t9 f0 f1 f2 f3 f4 f5 f6 f7 f8 f9) (h : DataW.trod enc P w 0 (fun _ => true) held fuel e cs = some y) : ∃ x : Cl, ∀ j, j < 10 → cs.getD j undef = (Ln.enc x).getD j undef := by
  obtain ⟨hl, q, hq⟩ := fields_plain T.he T.one (by rw [T.c]; rfl) h
  obtain ⟨y0, t0⟩ := hq 0 f0 rfl
  obtain ⟨y1, t1⟩ := hq 1 f1 rfl
  obtain ⟨y2, t2⟩ := hq 2 f2 rfl
  obtain ⟨y3, t3⟩ := hq 3 f3 rfl
  obtain ⟨y4, t4⟩ := hq 4 f4 rfl
  obtain ⟨y5, t5⟩ := hq 5 f5 rfl
  obtain ⟨y6, t6⟩ := hq 6 f6 rfl
  obtain ⟨y7, t7⟩ := hq 7 f7 rfl
  obtain ⟨y8, t8⟩ := hq 8 f8 rfl
  obtain ⟨y9, t9⟩ := hq 9 f9 rfl
  obtain ⟨i0, w0, _, _⟩ := DataW.trod_int T.h0 t0
  obtain ⟨i1, w1, _, _⟩ := DataW.trod_int T.h1 t1
  obtain ⟨s, w2, _⟩ := DataW.trod_string T.h2 t2
  obtain ⟨A3, n3, C3, w3⟩ := slice_in T.h3 t3
  obtain ⟨i4, w4, _, _⟩ := DataW.trod_int T.h4 t4
  obtain ⟨i5, w5, _, _⟩ := DataW.trod_int T.h5 t5
  obtain ⟨i6, w6, _, _⟩ := DataW.trod_int T.h6 t6
  obtain ⟨i7, w7, _, _⟩ := DataW.trod_int T.h7 t7
  obtain ⟨A8, n8, C8, w8⟩ := slice_in T.h8 t8
  obtain ⟨A9, n9, C9, w9⟩ := slice_in T.h9 t9
  refine ⟨⟨i0, i1, s, List.replicate n3 0, A3, C3, i4, i5, i6, i7, List.replicate n8 0, A8, C8, n9, A9, C9⟩, fun j hj => ?_⟩
  unfold Ln.enc
  dsimp only
  rw [List.length_replicate, List.length_replicate]
  match j, hj with
  | 0, _ => simpa using w0
  | 1, _ => simpa using w1
  | 2, _ => simpa using w2
  | 3, _ => simpa using w3
  | 4, _ => simpa using w4
  | 5, _ => simpa using w5
  | 6, _ => simpa using w6
  | 7, _ => simpa using w7
  | 8, _ => simpa using w8
  | 9, _ => simpa using w9
theorem calls_of {r : Reach} {b0 : Nat} {t e t3 t8 t9 : TypeId} {f0 f1 f2 f3 f4 f5 f6 f7 f8 f9 : Field} {v : Value} {d : DataW H} {ps : List MemPlace} (ht : P.underlying t = some (.slice e)) (T : CallT P e t3 t8 t9 f0 f1 f2 f3 f4 f5 f6 f7 f8 f9)
    (hv : Value.okWide P w r b0 t v) (h : DataW.Trod enc P w 0 (fun _ => true) held t v d ps) : ∃ L, Cls w v L := by
  obtain ⟨A0, n0, C0, rfl⟩ := okWide_slice ht hv
  obtain ⟨fuel, hf⟩ := h
  rcases open_slice ht hf with ⟨k1, _⟩ | ⟨a, len, cap, m, n', D, Pl, k1, _, hl, hm, hmm, hx, hel⟩
  · have k1' : [Value.slice A0 n0 C0] = [.slice none 0 0] := k1
    cases k1'
    exact ⟨[], Cls.nil _⟩
  · have k1' : [Value.slice A0 n0 C0] = [.slice (some a) len cap] := k1
    cases k1'
    simp only [if_true] at hmm
    have each : ∀ i, i < n0 → ∃ x : Cl, ∀ j, j < 10 → w.cell? (a.add (i * 10 + j)) = some ((Ln.enc x).getD j undef) := by
      intro i hi
      obtain ⟨cs, hcs, htr⟩ := hel i (by omega)
      rw [T.c] at hcs
      obtain ⟨_, hlc, hat⟩ := World.cells?_some hcs
      obtain ⟨x, hxx⟩ := call_in T htr
      refine ⟨x, fun j hj => ?_⟩
      have c := hat j (by omega)
      rw [add_add] at c
      rw [c, ← hxx j hj, List.getD_eq_getElem?_getD, List.getElem?_eq_getElem (by omega)]
      rfl
    obtain ⟨g, hg⟩ := choose_lt each
    refine ⟨(List.range n0).map g, some a, n0, C0, rfl, by simp, hl, hm, (fun q => by cases q), fun i hi => ?_⟩
    have hi' : i < n0 := by simpa using hi
    have c0 := hg 0 (by omega) 0 (by omega)
    rw [Nat.zero_mul, Nat.zero_add] at c0
    obtain ⟨b, o, rfl⟩ := spot_none c0
    refine ⟨b, o, fun j => (Ln.enc (g i)).getD j undef, rfl, fun j hj => ?_, fun j _ => by rw [List.getElem_map, List.getElem_range]⟩
    have := hg i hi' j hj
    rwa [addr_add, ← Nat.add_assoc] at this
end Go.Proofs.Ytkibnpienbchaaa.Lnr
