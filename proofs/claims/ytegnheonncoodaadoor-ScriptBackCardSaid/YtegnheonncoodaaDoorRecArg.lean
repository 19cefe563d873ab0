/- Records as arguments, in this place's words, with the form's own reach. No program is named here. -/
import Derived.Test.YtegnheonncoodaaDoorRecD
import Derived.Test.YtegnheonncoodaaDoorTrod
import Derived.Deep.Fields
import Derived.SizedLaws
namespace Go.Mem
open Go.RowKit Go.WideShapes Go.ChangeShapes Go.Deep
variable {H : Type} {enc : TypeId × Value → H} {P : Program} {w : World} {held : Bool}
/-- each string and slice that a datum leads to is within reach -/
def Within (P : Program) (t : TypeId) (d : DataW H) : Prop := ∀ n ∈ d.weights P t, n ≤ 140737488351232
theorem within_of {ts : List TypeId} {ds : List (DataW H)} (h : (DataW.weightsEach P ts ds).all (· ≤ reachBytes) = true) {j : Nat} {t : TypeId} {d : DataW H} (ht : ts[j]? = some t) (hd : ds[j]? = some d) : Within P t d := by
  intro n hn
  have := List.all_eq_true.1 h _ (DataW.weights_mem_each ht hd n hn)
  have h2 := of_decide_eq_true this
  exact h2
theorem within_elem {e : TypeId} {ds : List (DataW H)} : ∀ {i : Nat} {d : DataW H}, ds[i]? = some d → ∀ n ∈ d.weights P e, n ∈ DataW.weightsAll P e ds := by
  induction ds with
  | nil => intro i d h; simp at h
  | cons x r ih =>
    intro i d h n hn
    cases i with
    | zero =>
      simp only [List.getElem?_cons_zero, Option.some.injEq] at h
      subst h
      simp only [DataW.weightsAll, List.mem_append]
      exact .inl hn
    | succ i =>
      simp only [List.getElem?_cons_succ] at h
      simp only [DataW.weightsAll, List.mem_append]
      exact .inr (ih h n hn)
theorem Within.slice {t e : TypeId} {l m : List (DataW H)} (h : Within P t (.slice l m)) (ht : P.underlying t = some (.slice e)) :
    (l.length + m.length) * P.bytesOf e ≤ 140737488351232 ∧ ∀ (i : Nat) (d : DataW H), l[i]? = some d → Within P e d := by
  unfold Within at h
  simp only [DataW.weights, ht, List.mem_cons, List.mem_append] at h
  exact ⟨h _ (.inl rfl), fun i d hd n hn => h n (.inr (.inl (within_elem hd n hn)))⟩
theorem Within.agg {t : TypeId} {fs : Array Field} {ds : List (DataW H)} (h : Within P t (.agg ds)) (ht : P.underlying t = some (.struct fs)) {j : Nat} {f : Field} {d : DataW H} (hf : fs[j]? = some f) (hd : ds[j]? = some d) : Within P f.type d := by
  intro n hn
  refine h n ?_
  simp only [DataW.weights, ht]
  refine DataW.weights_mem_each (j := j) ?_ hd n hn
  rw [List.getElem?_map, Array.getElem?_toList, hf]
  rfl
theorem Within.str {t : TypeId} {s : ByteArray} (h : Within (H := H) P t (.lit (.string s.data.toList))) : KeyOk s := by
  have := h s.data.toList.length (by simp [DataW.weights])
  unfold KeyOk
  simpa using this
theorem one_cell {α : Type} {l : List α} {i : Nat} (h : i < l.length) : (l.drop i).take 1 = [l[i]] := by
  rw [List.drop_eq_getElem_cons h]; rfl
/-- a struct of one-cell fields, field by field -/
theorem fields_of {t : TypeId} {fs : Array Field} {fuel : Nat} {cs : List Value} {x : DataW H × List MemPlace} (ht : P.underlying t = some (.struct fs)) (hone : oneCellFields P fs = true) (hC : P.cellsOf t = fs.size)
    (h : DataW.trod enc P w 0 (fun _ => true) held fuel t cs = some x) (hz : Within P t x.1) :
    cs.length = fs.size ∧ ∃ n, ∀ (j : Nat) (f : Field), fs[j]? = some f → ∃ y, DataW.trod enc P w 0 (fun _ => true) held n f.type [cs.getD j undef] = some y ∧ Within P f.type y.1 := by
  obtain ⟨xs, q, _, hx, hl, hxl, hg⟩ := DataW.trod_struct ht h
  rw [hC] at hl
  refine ⟨hl, q, fun j f hj => ?_⟩
  obtain ⟨o, z⟩ := hone_of hone j f hj
  have hjl : j < fs.size := (Array.getElem?_eq_some_iff.1 hj).1
  have g := hg j f hj
  have hxj : j < xs.length := by omega
  rw [o, z, one_cell (by omega), List.getElem?_eq_getElem hxj] at g
  refine ⟨xs[j], ?_, ?_⟩
  · rw [List.getD_eq_getElem?_getD, List.getElem?_eq_getElem (show j < cs.length by omega)]
    exact g
  · rw [hx] at hz
    exact hz.agg ht hj (by rw [List.getElem?_map, List.getElem?_eq_getElem hxj]; rfl)
theorem slice_form {t e : TypeId} {n : Nat} {v : Value} {y : DataW H × List MemPlace} (ht : P.underlying t = some (.slice e)) (h : DataW.trod enc P w 0 (fun _ => true) held n t [v] = some y) : ∃ A m C, v = .slice A m C := by
  rcases Deep.open_slice ht h with ⟨k, _⟩ | ⟨a', len', cap', _, _, _, _, k, _⟩
  · exact ⟨none, 0, 0, by simpa using k⟩
  · exact ⟨some a', len', cap', by simpa using k⟩
theorem ints_at {t e : TypeId} {n : Nat} {v : Value} {y : DataW H × List MemPlace} (ht : P.underlying t = some (.slice e)) (he : P.underlying e = some (.int .i64)) (hc : P.cellsOf e = 1) (hb : 1 ≤ P.bytesOf e)
    (h : DataW.trod enc P w 0 (fun _ => true) held n t [v] = some y) (hz : Within P t y.1) : ∃ l, Ints w v l ∧ LenOk l.length := by
  rcases Deep.open_slice ht h with ⟨k1, _⟩ | ⟨a, len, cap, m, n', D, Pl, k1, _, hl, hm, hmm, hx, hel⟩
  · have k1' : v = .slice none 0 0 := by simpa using k1
    subst k1'
    exact ⟨[], Ints.nil _, Nat.zero_le _⟩
  · have k1' : v = .slice (some a) len cap := by simpa using k1
    subst k1'
    simp only [if_true] at hmm
    rw [hx] at hz
    obtain ⟨hz1, _⟩ := hz.slice ht
    have hlen : LenOk len := by
      unfold LenOk
      simp only [List.length_map, List.length_range] at hz1
      have := Nat.mul_le_mul_left (len + (m - len)) hb
      omega
    have each : ∀ i, i < len → ∃ z : Int, w.cell? (a.add i) = some (.int .i64 z) ∧ I64 z := by
      intro i hi
      obtain ⟨cs, hcs, htr⟩ := hel i (by omega)
      rw [hc] at hcs
      obtain ⟨_, hlc, hat⟩ := World.cells?_some hcs
      obtain ⟨z, hz, _, hw⟩ := DataW.trod_int he htr
      have c0 := hat 0 (by omega)
      rw [hz] at c0
      refine ⟨z, ?_, bounds_i64 hw⟩
      rw [Nat.mul_one] at c0
      simpa [Addr.add] using c0
    obtain ⟨f, hf⟩ := Deep.choose_lt each
    refine ⟨(List.range len).map f, slice_make (by simp) hl hm fun i hi => ?_, by simpa using hlen⟩
    have hi' : i < len := by simpa using hi
    refine ⟨_, (hf i hi').1, ?_⟩
    rw [List.getElem_map, List.getElem_range]
    exact ⟨rfl, (hf i hi').2⟩
/-- a slice of structs of one-cell fields -/
theorem cells_at {α : Type} [Inhabited α] {R : World → (Nat → Value) → α → Prop} {t e : TypeId} {fs : Array Field} {n : Nat} {v : Value} {y : DataW H × List MemPlace} (ht : P.underlying t = some (.slice e)) (he : P.underlying e = some (.struct fs))
    (hone : oneCellFields P fs = true) (hC : P.cellsOf e = fs.size) (hb : 1 ≤ P.bytesOf e) (hpos : 0 < fs.size)
    (hR : ∀ (f : Nat → Value) (q : Nat), (∀ (j : Nat) (fd : Field), fs[j]? = some fd → ∃ y, DataW.trod enc P w 0 (fun _ => true) held q fd.type [f j] = some y ∧ Within P fd.type y.1) → ∃ x : α, R w f x)
    (h : DataW.trod enc P w 0 (fun _ => true) held n t [v] = some y) (hz : Within P t y.1) : ∃ l : List α, Cells fs.size R w v l ∧ LenOk l.length := by
  rcases Deep.open_slice ht h with ⟨k1, _⟩ | ⟨a, len, cap, m, n', D, Pl, k1, _, hl, hm, hmm, hx, hel⟩
  · have k1' : v = .slice none 0 0 := by simpa using k1
    subst k1'
    exact ⟨[], Cells.nil _ _ _, Nat.zero_le _⟩
  · have k1' : v = .slice (some a) len cap := by simpa using k1
    subst k1'
    simp only [if_true] at hmm
    rw [hx] at hz
    obtain ⟨hz1, hz2⟩ := hz.slice ht
    have hlen : LenOk len := by
      unfold LenOk
      simp only [List.length_map, List.length_range] at hz1
      have := Nat.mul_le_mul_left (len + (m - len)) hb
      omega
    have each : ∀ i, i < len → ∃ x : α, ∃ f : Nat → Value, (∀ j, j < fs.size → w.cell? (a.add (i * fs.size + j)) = some (f j)) ∧ R w f x := by
      intro i hi
      obtain ⟨cs, hcs, htr⟩ := hel i (by omega)
      rw [hC] at hcs
      obtain ⟨_, hlc, hat⟩ := World.cells?_some hcs
      have hw : Within P e (D i) := hz2 i (D i) (by rw [List.getElem?_map, List.getElem?_range hi]; rfl)
      obtain ⟨hl', q, hq⟩ := fields_of he hone hC htr hw
      obtain ⟨x, hx⟩ := hR (fun j => cs.getD j undef) q hq
      refine ⟨x, _, fun j hj => ?_, hx⟩
      have c := hat j hj
      rw [Deep.add_add] at c
      rw [c, List.getD_eq_getElem?_getD, List.getElem?_eq_getElem (by omega)]
      rfl
    obtain ⟨g, hg⟩ := Deep.choose_lt each
    refine ⟨(List.range len).map g, ⟨some a, len, cap, rfl, by simp, hl, hm, (fun q => by cases q), fun i hi => ?_⟩, by simpa using hlen⟩
    have hi' : i < len := by simpa using hi
    obtain ⟨f, hc, hxx⟩ := hg i hi'
    obtain ⟨f0, hc0, _⟩ := hg 0 (by omega)
    have c0 := hc0 0 hpos
    rw [Nat.zero_mul, Nat.zero_add] at c0
    obtain ⟨b, o, rfl⟩ := spot_none c0
    refine ⟨b, o, f, rfl, fun j hj => ?_, by rw [List.getElem_map, List.getElem_range]; exact hxx⟩
    have := hc j hj
    rwa [addr_add, ← Nat.add_assoc] at this
instance : Inhabited StpD := ⟨⟨0, 0, []⟩⟩
instance : Inhabited ObjD := ⟨⟨⟨#[]⟩, 0, 0, []⟩⟩
/-- the types of a stripe -/
structure StpT (P : Program) (t e tl ti : TypeId) (f0 f1 f2 : Field) : Prop where
  ht : P.underlying t = some (.slice e)
  he : P.underlying e = some (.struct #[f0, f1, f2])
  one : oneCellFields P #[f0, f1, f2] = true
  c : P.cellsOf e = 3
  b : 1 ≤ P.bytesOf e
  h0 : P.underlying f0.type = some (.int .i64)
  h1 : P.underlying f1.type = some (.int .i64)
  h2 : P.underlying f2.type = some (.slice ti)
  i : P.underlying ti = some (.int .i64)
  ic : P.cellsOf ti = 1
  ib : 1 ≤ P.bytesOf ti
theorem stps_at {t e tl ti : TypeId} {f0 f1 f2 : Field} {n : Nat} {v : Value} {y : DataW H × List MemPlace} (T : StpT P t e tl ti f0 f1 f2) (h : DataW.trod enc P w 0 (fun _ => true) held n t [v] = some y) (hz : Within P t y.1) : ∃ l, Stps w v l ∧ LenOk l.length := by
  refine cells_at (α := StpD) (R := StpR) T.ht T.he T.one T.c T.b (by simp) (fun f q hf => ?_) h hz
  obtain ⟨y0, g0, _⟩ := hf 0 f0 rfl
  obtain ⟨y1, g1, _⟩ := hf 1 f1 rfl
  obtain ⟨y2, g2, z2⟩ := hf 2 f2 rfl
  obtain ⟨i0, w0, _, b0⟩ := DataW.trod_int T.h0 g0
  obtain ⟨i1, w1, _, b1⟩ := DataW.trod_int T.h1 g1
  obtain ⟨l, hl, hn⟩ := ints_at T.h2 T.i T.ic T.ib g2 z2
  exact ⟨⟨i0, i1, l⟩, by simpa using w0, by simpa using w1, hl, bounds_i64 b0, bounds_i64 b1, hn⟩
/-- the types of an object -/
structure ObjT (P : Program) (t e : TypeId) (f0 f1 f2 f3 : Field) : Prop where
  ht : P.underlying t = some (.slice e)
  he : P.underlying e = some (.struct #[f0, f1, f2, f3])
  one : oneCellFields P #[f0, f1, f2, f3] = true
  c : P.cellsOf e = 4
  b : 1 ≤ P.bytesOf e
  h0 : P.underlying f0.type = some .string
  h1 : P.underlying f1.type = some (.int .i64)
  h2 : P.underlying f2.type = some (.int .i64)
theorem objs_at {t e es tl ti : TypeId} {f0 f1 f2 f3 g0 g1 g2 : Field} {n : Nat} {v : Value} {y : DataW H × List MemPlace} (T : ObjT P t e f0 f1 f2 f3) (S : StpT P f3.type es tl ti g0 g1 g2) (h : DataW.trod enc P w 0 (fun _ => true) held n t [v] = some y) (hz : Within P t y.1) : ∃ l, Objs w v l ∧ LenOk l.length := by
  refine cells_at (α := ObjD) (R := ObjR) T.ht T.he T.one T.c T.b (by simp) (fun f q hf => ?_) h hz
  obtain ⟨y0, k0, z0⟩ := hf 0 f0 rfl
  obtain ⟨y1, k1, _⟩ := hf 1 f1 rfl
  obtain ⟨y2, k2, _⟩ := hf 2 f2 rfl
  obtain ⟨y3, k3, z3⟩ := hf 3 f3 rfl
  obtain ⟨s, w0, e0, _⟩ := DataW.trod_string T.h0 k0
  obtain ⟨i1, w1, _, b1⟩ := DataW.trod_int T.h1 k1
  obtain ⟨i2, w2, _, b2⟩ := DataW.trod_int T.h2 k2
  obtain ⟨l, hl, hn⟩ := stps_at S k3 z3
  rw [e0] at z0
  exact ⟨⟨s, i1, i2, l⟩, by simpa using w0, by simpa using w1, by simpa using w2, hl, bounds_i64 b1, bounds_i64 b2, z0.str, hn⟩
/-- the types of a record -/
structure RecT (P : Program) (t : TypeId) (f0 f1 f2 f3 f4 f5 f6 : Field) (ti : TypeId) : Prop where
  ht : P.underlying t = some (.struct #[f0, f1, f2, f3, f4, f5, f6])
  one : oneCellFields P #[f0, f1, f2, f3, f4, f5, f6] = true
  c : P.cellsOf t = 7
  h0 : P.underlying f0.type = some (.int .i64)
  h1 : P.underlying f1.type = some (.int .i64)
  h2 : P.underlying f2.type = some (.int .i64)
  h3 : P.underlying f3.type = some .string
  h6 : P.underlying f6.type = some (.slice ti)
  i : P.underlying ti = some (.int .i64)
  ic : P.cellsOf ti = 1
  ib : 1 ≤ P.bytesOf ti
theorem rec_of {r : Reach} {b0 : Nat} {t es eo tl ti os' : TypeId} {f0 f1 f2 f3 f4 f5 f6 g0 g1 g2 o0 o1 o2 o3 k0 k1 k2 : Field} {v : Value} {d : DataW H} {ps : List MemPlace} (T : RecT P t f0 f1 f2 f3 f4 f5 f6 ti) (S : StpT P f4.type es tl ti g0 g1 g2) (O : ObjT P f5.type eo o0 o1 o2 o3) (OS : StpT P o3.type os' tl ti k0 k1 k2)
    (hv : Value.okWide P w r b0 t v) (h : DataW.Trod enc P w 0 (fun _ => true) held t v d ps) (hz : Within P t d) : ∃ x, RecV w v x := by
  obtain ⟨cs, rfl, hsz⟩ := okWide_struct T.ht hv
  rw [T.c] at hsz
  obtain ⟨fuel, hf⟩ := h
  obtain ⟨hl, q, hq⟩ := fields_of T.ht T.one (by rw [T.c]; rfl) hf hz
  obtain ⟨y0, t0, _⟩ := hq 0 f0 rfl
  obtain ⟨y1, t1, _⟩ := hq 1 f1 rfl
  obtain ⟨y2, t2, _⟩ := hq 2 f2 rfl
  obtain ⟨y3, t3, z3⟩ := hq 3 f3 rfl
  obtain ⟨y4, t4, z4⟩ := hq 4 f4 rfl
  obtain ⟨y5, t5, z5⟩ := hq 5 f5 rfl
  obtain ⟨y6, t6, z6⟩ := hq 6 f6 rfl
  obtain ⟨i0, w0, _, b0⟩ := DataW.trod_int T.h0 t0
  obtain ⟨i1, w1, _, b1⟩ := DataW.trod_int T.h1 t1
  obtain ⟨i2, w2, _, b2⟩ := DataW.trod_int T.h2 t2
  obtain ⟨s, w3, e3, _⟩ := DataW.trod_string T.h3 t3
  rw [e3] at z3
  obtain ⟨L4, hL4, n4⟩ := stps_at S t4 z4
  obtain ⟨L5, hL5, n5⟩ := objs_at O OS t5 z5
  obtain ⟨L6, hL6, n6⟩ := ints_at T.h6 T.i T.ic T.ib t6 z6
  obtain ⟨A4, C4, e4, _⟩ := hL4.shape
  obtain ⟨A5, C5, e5, _⟩ := hL5.shape
  obtain ⟨A6, C6, e6, _⟩ := hL6.shape
  rw [e4] at hL4
  rw [e5] at hL5
  rw [e6] at hL6
  refine ⟨⟨i0, i1, i2, s, L4, L5, L6⟩, A4, A5, A6, C4, C5, C6, ?_, hL4, hL5, hL6, bounds_i64 b0, bounds_i64 b1, bounds_i64 b2, z3.str, n4, n5, n6⟩
  obtain ⟨cs⟩ := cs
  have hsz' : cs.length = 7 := hsz
  match cs, hsz' with
  | [c0, c1, c2, c3, c4, c5, c6], _ =>
    have w0' : c0 = .int .i64 i0 := by simpa [Value.cells] using w0
    have w1' : c1 = .int .i64 i1 := by simpa [Value.cells] using w1
    have w2' : c2 = .int .i64 i2 := by simpa [Value.cells] using w2
    have w3' : c3 = .string s := by simpa [Value.cells] using w3
    have e4' : c4 = _ := e4
    have e5' : c5 = _ := e5
    have e6' : c6 = _ := e6
    subst w0'; subst w1'; subst w2'; subst w3'; subst e4'; subst e5'; subst e6'
    rfl
end Go.Mem
