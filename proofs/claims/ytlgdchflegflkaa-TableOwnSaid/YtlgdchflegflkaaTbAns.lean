/- The example of layer 14's laws, as a walk. -/
import Derived.Test.YtlgdchflegflkaaTbI
namespace Go.Proofs.Ytlgdchflegflkaa.Tbl
set_option linter.unusedVariables false
open Go.ChangeShapes Go.WideShapes Go.ChangeAt Go.RowKit
open Go.Mem
theorem cells_of (w : World) (c : Array Value) (T : TypeId) {i : Nat} (hi : i < c.size) : (w.alloc (.cells c T)).cell? ⟨w.heap.size, i, none⟩ = some c[i] := by
  have h := World.rowIs_alloc w c T (fun i => c.getD i undef) (fun i hi => by simp [Array.getD, hi])
  rw [h.cell hi]
  simp [Array.getD, hi]
theorem below_set {w w' : World} {F : Nat → Prop} (ht : Turned F w w') {b : Nat} (hb : b < w.heap.size) (hn : ¬ F b) {o : Nat} : w'.cell? ⟨b, o, none⟩ = w.cell? ⟨b, o, none⟩ := by
  exact World.cell?_of_block (w := w) (a := ⟨b, o, none⟩) (ht.block b hb hn)
theorem r0_sure (w : World) (F : Nat → Prop) (hF : ∀ b, F b → b < w.heap.size) :
    Sure F ((w.alloc (.cells #[.int .i64 2] 3)).alloc (.cells #[.int .i64 80, .int .i64 0, .slice (some ⟨w.heap.size, 0, none⟩) 1 1] 42))
      (fun w' => RecV w' (.agg #[.int .i64 1, .int .i64 5, .int .i64 3, .string ⟨#[97]⟩, .slice (some ⟨w.heap.size + 1, 0, none⟩) 1 1, .slice none 0 0, .slice none 0 0]) r0) := by
  intro w' ht
  obtain ⟨w1, hw1⟩ : ∃ w1, w.alloc (.cells #[.int .i64 2] 3) = w1 := ⟨_, rfl⟩
  have hs : w1.heap.size = w.heap.size + 1 := by rw [← hw1]; simp
  have c0 := cells_of w #[.int .i64 2] 3 (i := 0) (by decide)
  rw [hw1] at c0 ht
  have cs := fun (j : Nat) (hj : j < 3) => cells_of w1 #[.int .i64 80, .int .i64 0, .slice (some ⟨w.heap.size, 0, none⟩) 1 1] 42 (i := j) hj
  have hk := Below.cell ((Below.refl w1.heap.size w1).alloc (Nat.le_refl _) (.cells #[.int .i64 80, .int .i64 0, .slice (some ⟨w.heap.size, 0, none⟩) 1 1] 42)) (p := ⟨w.heap.size, 0, none⟩) (by show w.heap.size < _; omega)
  have d0 : w'.cell? ⟨w.heap.size, 0, none⟩ = some (.int .i64 2) := by
    rw [below_set ht (by simp; omega) (fun q => by have := hF _ q; omega), hk]
    exact c0
  have ds := fun (j : Nat) (hj : j < 3) => (below_set ht (b := w1.heap.size) (by simp) (fun q => by have := hF _ q; omega) (o := j)).trans (cs j hj)
  rw [hs] at ds
  refine ⟨_, _, _, _, _, _, rfl, ?_, ⟨none, 0, 0, rfl, rfl, Nat.le_refl _, Nat.zero_le _, fun _ => rfl, fun i hi => absurd hi (by simp [r0])⟩, Ints.nil _, by unfold I64; decide, by unfold I64; decide, by unfold I64; decide, by unfold KeyOk; decide, by unfold LenOk; decide, by unfold LenOk; decide, by unfold LenOk; decide⟩
  refine ⟨_, 1, 1, rfl, rfl, Nat.le_refl _, by unfold maxLen; omega, (fun e => by cases e), fun i hi => ?_⟩
  obtain rfl : i = 0 := by simp [r0] at hi; exact hi
  refine ⟨_, 0, fun j => #[Value.int .i64 80, .int .i64 0, .slice (some ⟨w.heap.size, 0, none⟩) 1 1].getD j undef, rfl, fun j hj => ?_, rfl, rfl, ?_, (show I64 80 by unfold I64; decide), (show I64 0 by unfold I64; decide), (show LenOk 1 by unfold LenOk; decide)⟩
  · rw [show 0 + 0 * 3 + j = j by omega, ds j hj]
    rcases (by omega : j = 0 ∨ j = 1 ∨ j = 2) with rfl | rfl | rfl <;> rfl
  · refine ⟨_, 1, 1, rfl, rfl, Nat.le_refl _, by unfold maxLen; omega, (fun e => by cases e), fun i hi => ?_⟩
    obtain rfl : i = 0 := by simp [r0] at hi; exact hi
    exact ⟨_, 0, _, rfl, d0, rfl, (show I64 2 by unfold I64; decide)⟩
set_option maxHeartbeats 2000000 in
theorem answersC {PD : Thing} (I : TbI PD) (w : World) :
    Calls Try.prog 10 #[] w fun e w' => e = .returned (.bool true) ∧ Below w.heap.size w w' := by
  go_enter Try.func10, Try.ntmps10
  go_wp2_with fail
  refine (I.new _ 1 0 (.inr ⟨rfl, rfl⟩)).mono ?_
  rintro _ w1 ⟨F, p, rfl, hp, hf, hb⟩
  have HB := Lib.hid hb
  have HF := Lib.hid hf
  have HP := Lib.hid (show PD w1 F p (Tb.empty 1 1) from hp)
  have HR := Lib.hid (r0_sure w1 F (I.lt hp))
  have hal : Below w1.heap.size w1 ((w1.alloc (.cells #[.int .i64 2] 3)).alloc (.cells #[.int .i64 80, .int .i64 0, .slice (some ⟨w1.heap.size, 0, none⟩) 1 1] 42)) := ((Below.refl _ _).alloc (Nat.le_refl _) _).alloc (by simp) _
  have HAL := Lib.hid hal
  clear hp hf hb hal
  go_wp2_with fail
  refine (I.apply (I.turned HP.out (Turned.of_below (fun _ => False) HAL.out) (fun _ q => q.elim)) (by unfold Few; simp [Tb.empty]) r0 _ HR.out r0_fit).mono ?_
  rintro _ w3 ⟨rfl, F3, h3, t3, k3⟩
  rw [r0_apply] at h3 ⊢
  have HP3 := Lib.hid (show PD w3 F3 p ⟨1, 1, [o0], [], 0, 5⟩ from h3)
  have hb3 : Below w.heap.size w w3 := (HB.out.trans (HAL.out.mono HB.out.size)).trans (t3.below HF.out (Nat.le_trans HB.out.size HAL.out.size))
  have HB3 := Lib.hid hb3
  have HF3 := Lib.hid (show ∀ b, F3 b → w.heap.size ≤ b from fun b hb => (k3 b hb).elim (HF.out b) (fun q => by have := HB.out.size; have := HAL.out.size; omega))
  clear h3 t3 k3 hb3
  go_wp2_with fail
  refine (I.stripe HP3.out (by unfold Few; decide) 80 (by unfold I64; decide)).mono ?_
  rintro _ w4 ⟨V, rfl, hV, hb4⟩
  rw [r0_stripe] at hV ⊢
  obtain ⟨A, C, rfl, hi, -, -, -⟩ := hV.here
  obtain ⟨b, o, rfl, hc, -⟩ := hi.at (i := 0) (by decide)
  have hal5 : Below w4.heap.size w4 (w4.alloc (.cells #[.int .i64 80, .int .i64 0, .slice (some ⟨b, o, none⟩) 1 C] 42)) := (Below.refl _ _).alloc (Nat.le_refl _) _
  have hc5 : (w4.alloc (.cells #[.int .i64 80, .int .i64 0, .slice (some ⟨b, o, none⟩) 1 C] 42)).cell? ⟨b, o, none⟩ = some (.int .i64 2) := (below_cell hal5) _ _ hc
  have hb34 := hb4.trans (hal5.mono hb4.size)
  have HB4 := Lib.hid (HB3.out.trans (hb34.mono HB3.out.size))
  have HP4 := Lib.hid (I.turned HP3.out (Turned.of_below (fun _ => False) hb34) (fun _ q => q.elim))
  clear hV hi hc hb4 hal5 hb34
  go_wp2_with fail
  refine (I.last HP4.out).mono ?_
  rintro _ w5 ⟨rfl, hb5⟩
  have HB5 := Lib.hid (HB4.out.trans (hb5.mono HB4.out.size))
  have HP5 := Lib.hid (I.turned HP4.out (Turned.of_below (fun _ => False) hb5) (fun _ q => q.elim))
  clear hb5 hc5
  go_wp2_with fail
  refine (I.keys HP5.out (by unfold Few; decide)).mono ?_
  rintro _ w6 ⟨V6, rfl, hV6, hb6⟩
  obtain ⟨A6, C6, rfl, -⟩ := SliceOf.shape hV6.here
  have HB6 := Lib.hid (HB5.out.trans (hb6.mono HB5.out.size))
  clear hV6 hb6
  go_wp2
  go_ret
  exact ⟨rfl, HB6.out⟩
end Go.Proofs.Ytlgdchflegflkaa.Tbl
