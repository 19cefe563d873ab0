/- Steps and bytes as arguments, with the form's own reach; the sentinels and the table that the row lists. -/
import Derived.Test.YtegnheonncoodaaDoorScSm
import Derived.Test.YtegnheonncoodaaDoorRecArg
import Derived.Stop.LaidErr
import Derived.Lib.LaidTab
namespace Go.Proofs.YtegnheonncoodaaDoor.Scr
set_option linter.unusedVariables false
open Go.ChangeShapes Go.WideShapes Go.ChangeAt Go.RowKit Go.Deep
open Go.Mem Sc
variable {H : Type} {enc : TypeId × Value → H} {P : Program} {w : World} {held : Bool}
instance : Inhabited SD := ⟨⟨0, 0, [], [], 0⟩⟩
theorem bytes_nums {v : Value} {l : List Nat} (h : Bytes w v l) : ∃ m, nums m = l := by
  obtain ⟨A, C, rfl, _⟩ := h.shape
  refine nums_of fun x hx => ?_
  obtain ⟨i, hi, rfl⟩ := List.mem_iff_getElem.1 hx
  obtain ⟨_, _, _, _, _, _, _, _, h6⟩ := h
  obtain ⟨b, o, c, _, _, h7⟩ := h6 i hi
  exact h7.2
theorem bytes_at {t e : TypeId} {n : Nat} {v : Value} {y : DataW H × List MemPlace} (ht : P.underlying t = some (.slice e)) (he : P.underlying e = some (.int .u8)) (hc : P.cellsOf e = 1) (hb : 1 ≤ P.bytesOf e)
    (h : DataW.trod enc P w 0 (fun _ => true) held n t [v] = some y) (hz : Within P t y.1) : ∃ l, Bytes w v (nums l) ∧ l.length ≤ 140737488351232 := by
  obtain ⟨A, m, C, rfl⟩ := slice_form ht h
  obtain ⟨l, hl⟩ := bytes_of (d := y.1) (ps := y.2) ht he hc ⟨A, m, C, rfl⟩ ⟨n, h⟩
  obtain ⟨l, rfl⟩ := bytes_nums hl
  refine ⟨l, hl, ?_⟩
  obtain ⟨A1, C1, e1, _⟩ := hl.shape
  cases e1
  rcases Deep.open_slice ht h with ⟨k1, _⟩ | ⟨a, len, cap, m', n', D, Pl, k1, _, hl', hm, hmm, hx, hel⟩
  · have k1' : Value.slice A (nums l).length C = .slice none 0 0 := by simpa using k1
    injection k1' with _ q _
    rw [nums_len] at q; omega
  · have k1' : Value.slice A (nums l).length C = .slice (some a) len cap := by simpa using k1
    injection k1' with _ q _
    simp only [if_true] at hmm
    rw [hx] at hz
    obtain ⟨hz1, _⟩ := hz.slice ht
    simp only [List.length_map, List.length_range] at hz1
    have := Nat.mul_le_mul_left (len + (m' - len)) hb
    rw [nums_len] at q; omega
structure StepT (P : Program) (e tb : TypeId) (f0 f1 f2 f3 f4 : Field) : Prop where
  he : P.underlying e = some (.struct #[f0, f1, f2, f3, f4])
  one : oneCellFields P #[f0, f1, f2, f3, f4] = true
  c : P.cellsOf e = 5
  h0 : P.underlying f0.type = some (.int .i64)
  h1 : P.underlying f1.type = some (.int .i64)
  h2 : P.underlying f2.type = some .string
  h3 : P.underlying f3.type = some (.slice tb)
  h4 : P.underlying f4.type = some (.int .u64)
  b : P.underlying tb = some (.int .u8)
  bc : P.cellsOf tb = 1
  bb : 1 ≤ P.bytesOf tb
theorem steps_of {r : Reach} {b0 : Nat} {t e tb : TypeId} {f0 f1 f2 f3 f4 : Field} {v : Value} {d : DataW H} {ps : List MemPlace} (ht : P.underlying t = some (.slice e)) (hb : 1 ≤ P.bytesOf e) (T : StepT P e tb f0 f1 f2 f3 f4)
    (hv : Value.okWide P w r b0 t v) (h : DataW.Trod enc P w 0 (fun _ => true) held t v d ps) (hz : Within P t d) : ∃ l, Steps w v l ∧ SizedL l := by
  obtain ⟨A0, n0, C0, rfl⟩ := okWide_slice ht hv
  obtain ⟨fuel, hf⟩ := h
  obtain ⟨l, hl, -⟩ := cells_at (α := SD) (R := fun w f x => StepR w f x ∧ x.key.length ≤ 140737488351232 ∧ x.data.length ≤ 140737488351232) ht T.he T.one (by rw [T.c]; rfl) hb (by simp) (fun f q hq => by
    obtain ⟨y0, t0, _⟩ := hq 0 f0 rfl
    obtain ⟨y1, t1, _⟩ := hq 1 f1 rfl
    obtain ⟨y2, t2, z2⟩ := hq 2 f2 rfl
    obtain ⟨y3, t3, z3⟩ := hq 3 f3 rfl
    obtain ⟨y4, t4, _⟩ := hq 4 f4 rfl
    obtain ⟨i0, w0, _, b0⟩ := DataW.trod_int T.h0 t0
    obtain ⟨i1, w1, _, b1⟩ := DataW.trod_int T.h1 t1
    obtain ⟨s, w2, e2, _⟩ := DataW.trod_string T.h2 t2
    rw [e2] at z2
    obtain ⟨L3, hL3, n3⟩ := bytes_at T.h3 T.b T.bc T.bb t3 z3
    obtain ⟨i4, w4, _, b4⟩ := DataW.trod_int T.h4 t4
    obtain ⟨l4, u4⟩ := bounds_u64 b4
    have hk := z2.str
    refine ⟨⟨i0, i1, s.data.toList, L3, i4.toNat⟩, ⟨by simpa using w0, by simpa using w1, by rw [str_of]; simpa using w2, hL3, ?_, ⟨⟨(bounds_i64 b0).1, by have := (bounds_i64 b0).2; omega⟩, ⟨(bounds_i64 b1).1, by have := (bounds_i64 b1).2; omega⟩, by show i4.toNat < _; omega⟩⟩, ?_, n3⟩
    · have : ((i4.toNat : Nat) : Int) = i4 := by omega
      show f 4 = .int .u64 ((i4.toNat : Nat) : Int)
      rw [this]; simpa using w4
    · unfold KeyOk at hk
      show s.data.toList.length ≤ _
      simpa using hk) hf hz
  refine ⟨l, hl.mono (fun _ _ h => h) (fun _ _ h => h.1), fun i hi => ?_⟩
  obtain ⟨_, _, _, _, _, _, _, _, h6⟩ := hl
  obtain ⟨_, _, _, _, _, q⟩ := h6 i hi
  exact ⟨by have := q.2.1; omega, by have := q.2.2; omega⟩
theorem bytes_whole {r : Reach} {b0 : Nat} {t e : TypeId} {v : Value} {d : DataW H} {ps : List MemPlace} (ht : P.underlying t = some (.slice e)) (he : P.underlying e = some (.int .u8)) (hc : P.cellsOf e = 1)
    (hv : Value.okWide P w r b0 t v) (h : DataW.Trod enc P w 0 (fun _ => true) held t v d ps) : ∃ l, Bytes w v (nums l) := by
  obtain ⟨l, hl⟩ := bytes_of ht he hc (okWide_slice ht hv) h
  obtain ⟨m, rfl⟩ := bytes_nums hl
  exact ⟨m, hl⟩
end Go.Proofs.YtegnheonncoodaaDoor.Scr
