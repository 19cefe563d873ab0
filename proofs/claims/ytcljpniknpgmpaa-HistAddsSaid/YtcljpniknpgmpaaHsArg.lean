/- Steps, answers, and slices of both side by side as arguments, in this place's words. -/
import Derived.Test.YtcljpniknpgmpaaHsPair
import Derived.Test.YtcljpniknpgmpaaTrod
import Derived.Deep.Fields
import Derived.Deep.Slices
import Derived.SizedLaws
namespace Go.Proofs.Ytcljpniknpgmpaa.Hst
set_option linter.unusedVariables false
open Go.ChangeShapes Go.WideShapes Go.ChangeAt Go.RowKit Go.Deep
open Go.Mem Hs
variable {H : Type} {enc : TypeId × Value → H} {P : Program} {w : World} {held : Bool}
theorem one_in {α : Type} {l : List α} {i : Nat} (h : i < l.length) : (l.drop i).take 1 = [l[i]] := by
  rw [List.drop_eq_getElem_cons h]; rfl
/-- a struct of one-cell fields, field by field -/
theorem fields_plain {t : TypeId} {fs : Array Field} {fuel : Nat} {cs : List Value} {x : DataW H × List MemPlace} (ht : P.underlying t = some (.struct fs)) (hone : oneCellFields P fs = true) (hC : P.cellsOf t = fs.size)
    (h : DataW.trod enc P w 0 (fun _ => true) held fuel t cs = some x) :
    cs.length = fs.size ∧ ∃ n, ∀ (j : Nat) (f : Field), fs[j]? = some f → ∃ y, DataW.trod enc P w 0 (fun _ => true) held n f.type [cs.getD j undef] = some y := by
  obtain ⟨xs, q, _, hx, hl, hxl, hg⟩ := DataW.trod_struct ht h
  rw [hC] at hl
  refine ⟨hl, q, fun j f hj => ?_⟩
  obtain ⟨o, z⟩ := hone_of hone j f hj
  have hjl : j < fs.size := (Array.getElem?_eq_some_iff.1 hj).1
  have g := hg j f hj
  have hxj : j < xs.length := by omega
  rw [o, z, one_in (by omega), List.getElem?_eq_getElem hxj] at g
  refine ⟨xs[j], ?_⟩
  rw [List.getD_eq_getElem?_getD, List.getElem?_eq_getElem (show j < cs.length by omega)]
  exact g
theorem bytes_in {t e : TypeId} {n : Nat} {v : Value} {y : DataW H × List MemPlace} (ht : P.underlying t = some (.slice e)) (he : P.underlying e = some (.int .u8)) (hc : P.cellsOf e = 1)
    (h : DataW.trod enc P w 0 (fun _ => true) held n t [v] = some y) : ∃ l, Bytes w v l := by
  have hv : ∃ A m C, v = .slice A m C := by
    rcases open_slice ht h with ⟨k, _⟩ | ⟨a', len', cap', _, _, _, _, k, _⟩
    · exact ⟨none, 0, 0, by simpa using k⟩
    · exact ⟨some a', len', cap', by simpa using k⟩
  obtain ⟨A, m, C, rfl⟩ := hv
  exact bytes_of (d := y.1) (ps := y.2) ht he hc ⟨A, m, C, rfl⟩ ⟨n, h⟩
theorem strs_in {t e : TypeId} {n : Nat} {v : Value} {y : DataW H × List MemPlace} (ht : P.underlying t = some (.slice e)) (he : P.underlying e = some .string) (hc : P.cellsOf e = 1)
    (h : DataW.trod enc P w 0 (fun _ => true) held n t [v] = some y) : ∃ l, Strs w v l := by
  rcases open_slice ht h with ⟨k1, _⟩ | ⟨a, len, cap, m, n', D, Pl, k1, _, hl, hm, hmm, hx, hel⟩
  · have k1' : v = .slice none 0 0 := by simpa using k1
    subst k1'
    exact ⟨[], Strs.nil _⟩
  · have k1' : v = .slice (some a) len cap := by simpa using k1
    subst k1'
    simp only [if_true] at hmm
    have each : ∀ i, i < len → ∃ z : ByteArray, w.cell? (a.add i) = some (.string z) := by
      intro i hi
      obtain ⟨cs, hcs, htr⟩ := hel i (by omega)
      rw [hc] at hcs
      obtain ⟨_, hlc, hat⟩ := World.cells?_some hcs
      obtain ⟨z, hz, _⟩ := DataW.trod_string he htr
      have c0 := hat 0 (by omega)
      rw [hz] at c0
      refine ⟨z, ?_⟩
      rw [Nat.mul_one] at c0
      simpa [Addr.add] using c0
    obtain ⟨f, hf⟩ := choose_lt each
    refine ⟨(List.range len).map f, slice_make (by simp) hl hm fun i hi => ?_⟩
    have hi' : i < len := by simpa using hi
    refine ⟨_, hf i hi', ?_⟩
    rw [List.getElem_map, List.getElem_range]
    rfl
/-- the types of a step, of an answer -/
structure StepT (P : Program) (e tb : TypeId) (f0 f1 f2 f3 f4 : Field) : Prop where
  he : P.underlying e = some (.struct #[f0, f1, f2, f3, f4])
  one : oneCellFields P #[f0, f1, f2, f3, f4] = true
  c : P.cellsOf e = 5
  h0 : P.underlying f0.type = some (.int .i64)
  h1 : P.underlying f1.type = some (.int .i64)
  h2 : P.underlying f2.type = some .string
  h3 : P.underlying f3.type = some (.slice tb)
  h4 : P.underlying f4.type = some (.int .u64)
  b : P.underlying tb = some (.int .u8)
  bc : P.cellsOf tb = 1
structure AnsT (P : Program) (e tb ts : TypeId) (f0 f1 f2 f3 f4 f5 : Field) : Prop where
  he : P.underlying e = some (.struct #[f0, f1, f2, f3, f4, f5])
  one : oneCellFields P #[f0, f1, f2, f3, f4, f5] = true
  c : P.cellsOf e = 6
  h0 : P.underlying f0.type = some (.int .i64)
  h1 : P.underlying f1.type = some (.int .i64)
  h2 : P.underlying f2.type = some .bool
  h3 : P.underlying f3.type = some (.int .i64)
  h4 : P.underlying f4.type = some (.slice tb)
  h5 : P.underlying f5.type = some (.slice ts)
  b : P.underlying tb = some (.int .u8)
  bc : P.cellsOf tb = 1
  s : P.underlying ts = some .string
  sc : P.cellsOf ts = 1
structure StepC (w : World) (f : Nat → Value) (x : StepD) : Prop where
  r0 : f 0 = .int .i64 x.kind
  r1 : f 1 = .int .i64 x.a
  r2 : f 2 = .string x.key
  r3 : Bytes w (f 3) x.data
  r4 : f 4 = .int .u64 x.keep
  i0 : I64 x.kind
  i1 : I64 x.a
structure AnsC (w : World) (f : Nat → Value) (a : AnsD) : Prop where
  r0 : f 0 = .int .i64 a.e
  r1 : f 1 = .int .i64 a.task
  r2 : f 2 = .bool a.done
  r3 : f 3 = .int .i64 a.mark
  r4 : Bytes w (f 4) a.data
  r5 : Strs w (f 5) a.keys
  i0 : I64 a.e
  i1 : I64 a.task
  i3 : I64 a.mark
theorem step_in {e tb : TypeId} {f0 f1 f2 f3 f4 : Field} {fuel : Nat} {cs : List Value} {y : DataW H × List MemPlace} (T : StepT P e tb f0 f1 f2 f3 f4) (h : DataW.trod enc P w 0 (fun _ => true) held fuel e cs = some y) : cs.length = 5 ∧ ∃ x, StepC w (fun j => cs.getD j undef) x := by
  obtain ⟨hl, q, hq⟩ := fields_plain T.he T.one (by rw [T.c]; rfl) h
  obtain ⟨y0, t0⟩ := hq 0 f0 rfl
  obtain ⟨y1, t1⟩ := hq 1 f1 rfl
  obtain ⟨y2, t2⟩ := hq 2 f2 rfl
  obtain ⟨y3, t3⟩ := hq 3 f3 rfl
  obtain ⟨y4, t4⟩ := hq 4 f4 rfl
  obtain ⟨i0, w0, _, b0⟩ := DataW.trod_int T.h0 t0
  obtain ⟨i1, w1, _, b1⟩ := DataW.trod_int T.h1 t1
  obtain ⟨s, w2, _⟩ := DataW.trod_string T.h2 t2
  obtain ⟨L3, hL3⟩ := bytes_in T.h3 T.b T.bc t3
  obtain ⟨i4, w4, _, b4⟩ := DataW.trod_int T.h4 t4
  exact ⟨hl, ⟨i0, i1, s, L3, i4⟩, by simpa using w0, by simpa using w1, by simpa using w2, hL3, by simpa using w4, bounds_i64 b0, bounds_i64 b1⟩
theorem ans_in {e tb ts : TypeId} {f0 f1 f2 f3 f4 f5 : Field} {fuel : Nat} {cs : List Value} {y : DataW H × List MemPlace} (T : AnsT P e tb ts f0 f1 f2 f3 f4 f5) (h : DataW.trod enc P w 0 (fun _ => true) held fuel e cs = some y) : cs.length = 6 ∧ ∃ a, AnsC w (fun j => cs.getD j undef) a := by
  obtain ⟨hl, q, hq⟩ := fields_plain T.he T.one (by rw [T.c]; rfl) h
  obtain ⟨y0, t0⟩ := hq 0 f0 rfl
  obtain ⟨y1, t1⟩ := hq 1 f1 rfl
  obtain ⟨y2, t2⟩ := hq 2 f2 rfl
  obtain ⟨y3, t3⟩ := hq 3 f3 rfl
  obtain ⟨y4, t4⟩ := hq 4 f4 rfl
  obtain ⟨y5, t5⟩ := hq 5 f5 rfl
  obtain ⟨i0, w0, _, b0⟩ := DataW.trod_int T.h0 t0
  obtain ⟨i1, w1, _, b1⟩ := DataW.trod_int T.h1 t1
  obtain ⟨b, w2, _⟩ := DataW.trod_bool T.h2 t2
  obtain ⟨i3, w3, _, b3⟩ := DataW.trod_int T.h3 t3
  obtain ⟨L4, hL4⟩ := bytes_in T.h4 T.b T.bc t4
  obtain ⟨L5, hL5⟩ := strs_in T.h5 T.s T.sc t5
  exact ⟨hl, ⟨i0, i1, b, i3, L4, L5⟩, by simpa using w0, by simpa using w1, by simpa using w2, by simpa using w3, hL4, hL5, bounds_i64 b0, bounds_i64 b1, bounds_i64 b3⟩
theorem step_of {r : Reach} {b0 : Nat} {e tb : TypeId} {f0 f1 f2 f3 f4 : Field} {v : Value} {d : DataW H} {ps : List MemPlace} (T : StepT P e tb f0 f1 f2 f3 f4) (hv : Value.okWide P w r b0 e v) (h : DataW.Trod enc P w 0 (fun _ => true) held e v d ps) : ∃ x, StepV w v x := by
  obtain ⟨cs, rfl, hsz⟩ := okWide_struct T.he hv
  rw [T.c] at hsz
  obtain ⟨fuel, hf⟩ := h
  obtain ⟨hl, x, q⟩ := step_in T hf
  obtain ⟨A3, C3, e3, -⟩ := q.r3.shape
  have r3 := q.r3
  rw [e3] at r3
  refine ⟨x, A3, C3, ?_, r3, q.i0, q.i1⟩
  obtain ⟨cs⟩ := cs
  have hsz' : cs.length = 5 := hsz
  match cs, hsz' with
  | [c0, c1, c2, c3, c4], _ =>
    have w0 : c0 = _ := q.r0
    have w1 : c1 = _ := q.r1
    have w2 : c2 = _ := q.r2
    have w3 : c3 = _ := e3
    have w4 : c4 = _ := q.r4
    subst w0; subst w1; subst w2; subst w3; subst w4
    rfl
theorem ans_of {r : Reach} {b0 : Nat} {e tb ts : TypeId} {f0 f1 f2 f3 f4 f5 : Field} {v : Value} {d : DataW H} {ps : List MemPlace} (T : AnsT P e tb ts f0 f1 f2 f3 f4 f5) (hv : Value.okWide P w r b0 e v) (h : DataW.Trod enc P w 0 (fun _ => true) held e v d ps) : ∃ a, AnsV w v a := by
  obtain ⟨cs, rfl, hsz⟩ := okWide_struct T.he hv
  rw [T.c] at hsz
  obtain ⟨fuel, hf⟩ := h
  obtain ⟨hl, a, q⟩ := ans_in T hf
  obtain ⟨A4, C4, e4, -⟩ := q.r4.shape
  obtain ⟨A5, C5, e5, -⟩ := q.r5.shape
  have r4 := q.r4
  have r5 := q.r5
  rw [e4] at r4
  rw [e5] at r5
  refine ⟨a, A4, C4, A5, C5, ?_, r4, r5, q.i0, q.i1, q.i3⟩
  obtain ⟨cs⟩ := cs
  have hsz' : cs.length = 6 := hsz
  match cs, hsz' with
  | [c0, c1, c2, c3, c4, c5], _ =>
    have w0 : c0 = _ := q.r0
    have w1 : c1 = _ := q.r1
    have w2 : c2 = _ := q.r2
    have w3 : c3 = _ := q.r3
    have w4 : c4 = _ := e4
    have w5 : c5 = _ := e5
    subst w0; subst w1; subst w2; subst w3; subst w4; subst w5
    rfl
instance : Inhabited PairD := ⟨⟨⟨0, 0, ⟨#[]⟩, [], 0⟩, ⟨0, 0, false, 0, [], []⟩⟩⟩
theorem pairs_of {r : Reach} {b0 : Nat} {t e tb ts : TypeId} {gx ga f0 f1 f2 f3 f4 g0 g1 g2 g3 g4 g5 : Field} {v : Value} {d : DataW H} {ps : List MemPlace} (ht : P.underlying t = some (.slice e)) (he : P.underlying e = some (.struct #[gx, ga])) (hc : P.cellsOf e = 11)
    (ox : gx.offset = 0) (oa : ga.offset = 5) (TX : StepT P gx.type tb f0 f1 f2 f3 f4) (TA : AnsT P ga.type tb ts g0 g1 g2 g3 g4 g5) (hv : Value.okWide P w r b0 t v) (h : DataW.Trod enc P w 0 (fun _ => true) held t v d ps) : ∃ l, Pairs w v l := by
  obtain ⟨A0, n0, C0, rfl⟩ := okWide_slice ht hv
  obtain ⟨fuel, hf⟩ := h
  rcases open_slice ht hf with ⟨k1, _⟩ | ⟨a, len, cap, m, n', D, Pl, k1, _, hl, hm, hmm, hx, hel⟩
  · have k1' : [Value.slice A0 n0 C0] = [.slice none 0 0] := k1
    cases k1'
    exact ⟨[], Cells.nil _ _ _⟩
  · have k1' : [Value.slice A0 n0 C0] = [.slice (some a) len cap] := k1
    cases k1'
    simp only [if_true] at hmm
    have each : ∀ i, i < n0 → ∃ x : PairD, ∃ f : Nat → Value, (∀ j, j < 11 → w.cell? (a.add (i * 11 + j)) = some (f j)) ∧ PairR w f x := by
      intro i hi
      obtain ⟨cs, hcs, htr⟩ := hel i (by omega)
      rw [hc] at hcs
      obtain ⟨_, hlc, hat⟩ := World.cells?_some hcs
      obtain ⟨xs, q, _, _, hl2, hxl, hg⟩ := DataW.trod_struct he htr
      rw [hc] at hl2
      have hxs : xs.length = 2 := hxl
      have h0 := hg 0 gx rfl
      have h1 := hg 1 ga rfl
      rw [ox, TX.c, List.getElem?_eq_getElem (by omega)] at h0
      rw [oa, TA.c, List.getElem?_eq_getElem (by omega)] at h1
      obtain ⟨_, x, qx⟩ := step_in TX h0
      obtain ⟨_, y, qa⟩ := ans_in TA h1
      have e0 : ∀ j, j < 5 → ((cs.drop 0).take 5).getD j undef = cs.getD j undef := fun j hj => by
        simp only [List.getD_eq_getElem?_getD, List.drop_zero, List.getElem?_take, if_pos hj]
      have e1 : ∀ j, j < 6 → ((cs.drop 5).take 6).getD j undef = cs.getD (5 + j) undef := fun j hj => by
        simp only [List.getD_eq_getElem?_getD, List.getElem?_take, if_pos hj, List.getElem?_drop]
      have z0 := qx.r0
      have z1 := qx.r1
      have z2 := qx.r2
      have z3 := qx.r3
      have z4 := qx.r4
      have y0 := qa.r0
      have y1 := qa.r1
      have y2 := qa.r2
      have y3 := qa.r3
      have y4 := qa.r4
      have y5 := qa.r5
      simp only [e0 0 (by omega)] at z0
      simp only [e0 1 (by omega)] at z1
      simp only [e0 2 (by omega)] at z2
      simp only [e0 3 (by omega)] at z3
      simp only [e0 4 (by omega)] at z4
      simp only [e1 0 (by omega)] at y0
      simp only [e1 1 (by omega)] at y1
      simp only [e1 2 (by omega)] at y2
      simp only [e1 3 (by omega)] at y3
      simp only [e1 4 (by omega)] at y4
      simp only [e1 5 (by omega)] at y5
      refine ⟨⟨x, y⟩, fun j => cs.getD j undef, fun j hj => ?_, ⟨z0, z1, z2, z3, z4, y0, y1, y2, y3, y4, y5, qx.i0, qx.i1, qa.i0, qa.i1, qa.i3⟩⟩
      have c := hat j (by omega)
      rw [add_add] at c
      dsimp only
      rw [c, List.getD_eq_getElem?_getD, List.getElem?_eq_getElem (by omega)]
      rfl
    obtain ⟨g, hg⟩ := choose_lt each
    refine ⟨(List.range n0).map g, some a, n0, C0, rfl, by simp, hl, hm, (fun q => by cases q), fun i hi => ?_⟩
    have hi' : i < n0 := by simpa using hi
    obtain ⟨f, hcc, hxx⟩ := hg i hi'
    obtain ⟨f0, hc0, _⟩ := hg 0 (by omega)
    have c0 := hc0 0 (by omega)
    rw [Nat.zero_mul, Nat.zero_add] at c0
    obtain ⟨b, o, rfl⟩ := spot_none c0
    refine ⟨b, o, f, rfl, fun j hj => ?_, by rw [List.getElem_map, List.getElem_range]; exact hxx⟩
    have := hcc j hj
    rwa [addr_add, ← Nat.add_assoc] at this
end Go.Proofs.Ytcljpniknpgmpaa.Hst
