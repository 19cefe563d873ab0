/- What the laws of layer 16 want of the program's own functions, and the first laws, as walks. -/
import Derived.Test.YtgbeolepfmihgaaStMath
import Derived.Test.YtgbeolepfmihgaaSame
import Derived.Test.YtgbeolepfmihgaaRows
import Derived.Test.YtgbeolepfmihgaaZeros
import Derived.Test.YtgbeolepfmihgaaWrites
import Derived.Laws.BytesArg
import Derived.IntWalk
import Derived.Lib.Strings
import Derived.Lib.SlBytesConst
namespace Go.Proofs.Ytgbeolepfmihgaa.Stp
set_option linter.unusedVariables false
open Go.ChangeShapes Go.WideShapes Go.ChangeAt Go.RowKit
open Go.Mem St Same
theorem infoByte : (Try.prog.info? 5).map (fun i => (i.zero, i.size, i.bytes)) = some (some (.int .u8 0), 1, 1) := by kernel_rfl
def I64 (z : Int) : Prop := -9223372036854775808 ≤ z ∧ z ≤ 9223372036854775807
structure StI : Prop where
  count : ∀ (W : World) (k size : Int), I64 k → I64 size → k ≤ 1048576 → Calls Try.prog 9 #[.int .i64 k, .int .i64 size] W fun e w' => e = .returned (.int .i64 (cntS k size)) ∧ Below W.heap.size W w'
  split : ∀ (W : World) (k : Int) (v : Value) (l : List Nat), Bytes W v l → I64 k → k ≤ 1048576 → l.length ≤ 500 → Calls Try.prog 10 #[.int .i64 k, v] W fun e w' => ∃ u, e = .returned u ∧ Tab w' u (splitL k l) ∧ Below W.heap.size W w'
  join : ∀ (W : World) (v : Value) (M : List (List Nat)) (size : Int), Tab W v M → I64 size → M.length ≤ 500 → M.flatten.length ≤ 20000 → Calls Try.prog 12 #[v, .int .i64 size] W fun e w' => ∃ u, e = .returned (.tuple #[u, .bool (joinOk M size)]) ∧ Bytes w' u (joinL M size) ∧ Below W.heap.size W w'
theorem below_nxt {B : Nat} {w w1 w2 : World} (h : Below B w w1) (k : Below w1.heap.size w1 w2) (hB : B ≤ w.heap.size) : Below B w w2 := h.trans (k.mono (Nat.le_trans hB h.size))
theorem ans_facts : joinOk [[97, 98, 99]] 2 = true ∧ joinL [[97, 98, 99]] 2 = [97, 98] ∧ cntS 2 17 = 2 ∧ (splitL 1 [97, 98, 99]).length = 1 := by decide
theorem abc (w : World) : Bytes (w.alloc (.cells #[.int .u8 97, .int .u8 98, .int .u8 99] 5 (3, 4))) (.slice (some ⟨w.heap.size, 0, none⟩) 3 3) [97, 98, 99] :=
  const_bytes w 5 (3, 4) [97, 98, 99] (by decide) (by decide)
theorem abc_tab (w : World) : Tab ((w.alloc (.cells #[.int .u8 97, .int .u8 98, .int .u8 99] 5 (3, 4))).alloc (.cells #[.slice (some ⟨w.heap.size, 0, none⟩) 3 3] 25)) (.slice (some ⟨w.heap.size + 1, 0, none⟩) 1 1) [[97, 98, 99]] := by
  obtain ⟨w1, hw1⟩ : ∃ w1, w.alloc (.cells #[.int .u8 97, .int .u8 98, .int .u8 99] 5 (3, 4)) = w1 := ⟨_, rfl⟩
  have hs : w1.heap.size = w.heap.size + 1 := by rw [← hw1]; simp
  have hb := abc w
  rw [hw1] at hb ⊢
  rw [← hs]
  have h := World.rowIs_alloc w1 #[.slice (some ⟨w.heap.size, 0, none⟩) 3 3] 25 (fun _ => .slice (some ⟨w.heap.size, 0, none⟩) 3 3) (fun i hi => by
    have : i < 1 := hi
    rw [show i = 0 by omega]; rfl)
  refine ⟨_, 1, 1, rfl, rfl, Nat.le_refl _, by decide, (fun e => by cases e), fun i hi => ?_⟩
  have hi' : i < 1 := hi
  obtain rfl : i = 0 := by omega
  exact ⟨_, 0, _, rfl, h.cell (i := 0) (by omega), hb.below ((Below.refl _ _).alloc (Nat.le_refl _) _)⟩
theorem ab_string {w : World} {b o C : Nat} (h : Bytes w (.slice (some ⟨b, o, none⟩) 2 C) [97, 98]) : (convert 25 9 (.slice (some ⟨b, o, none⟩) 2 C)).run Try.prog w = .ok (.string ⟨#[97, 98]⟩) w :=
  run_convert_bytes_arg w 25 5 Try.underlying25 Try.underlying5 b o _ _ [97, 98] rfl (fun i hi => by
    rw [(h.here (i := i) hi).1]
    have hi' : i < 2 := hi
    rcases (by omega : i = 0 ∨ i = 1) with rfl | rfl <;> rfl) 9 Try.underlying9
set_option maxHeartbeats 4000000 in
theorem answersC (I : StI) (w : World) :
    Calls Try.prog 8 #[] w fun e w' => e = .returned (.bool true) ∧ Below w.heap.size w w' := by
  obtain ⟨f1, f2, f3, f4⟩ := ans_facts
  have HF4 := Lib.hid f4
  have kc := fun (w : World) (C : Array Value) (n c : Nat) => Lib.run_convert_bytes_const (P := Try.prog) w 25 5 C n c Try.underlying25 Try.underlying5
  have HT := Lib.hid (abc_tab w)
  have HA := Lib.hid (show Below w.heap.size w ((w.alloc (.cells #[.int .u8 97, .int .u8 98, .int .u8 99] 5 (3, 4))).alloc (.cells #[.slice (some ⟨w.heap.size, 0, none⟩) 3 3] 25)) from ((Below.refl _ _).alloc (Nat.le_refl _) _).alloc (by simp) _)
  clear f4
  go_enter Try.func8, Try.ntmps8
  go_wp2_with fail
  refine (I.join _ _ [[97, 98, 99]] 2 HT.out ⟨by omega, by omega⟩ (by simp) (by simp)).mono ?_
  rintro _ w1 ⟨u, rfl, hu, hb⟩
  rw [f1]
  rw [f2] at hu
  obtain ⟨A, C, rfl, -⟩ := hu.shape
  obtain ⟨b, o, rfl, -⟩ := hu.at (i := 0) (by simp)
  have HU := Lib.hid hu
  have HB := Lib.hid (below_nxt HA.out hb (Nat.le_refl _))
  clear hu hb f1 f2
  go_wp2_with fail
  refine (I.count _ 2 17 ⟨by omega, by omega⟩ ⟨by omega, by omega⟩ (by omega)).mono ?_
  rintro _ w2 ⟨rfl, hb2⟩
  rw [f3]
  have HB2 := Lib.hid (below_nxt HB.out hb2 (Nat.le_refl _))
  have HU2 := Lib.hid (HU.out.below hb2)
  have hal : Below w2.heap.size w2 (w2.alloc (.cells #[.int .u8 97, .int .u8 98, .int .u8 99] 5 (3, 4))) := (Below.refl _ _).alloc (Nat.le_refl _) _
  have HAL := Lib.hid hal
  clear hb2 f3 hal
  go_wp2_with fail
  refine (I.split _ 1 _ [97, 98, 99] (abc w2) ⟨by omega, by omega⟩ (by omega) (by simp)).mono ?_
  rintro _ w3 ⟨u3, rfl, hu3, hb3⟩
  obtain ⟨A3, C3, rfl, -⟩ := hu3.shape
  rw [HF4.out]
  have hbb := below_nxt (B := w2.heap.size) HAL.out hb3 (Nat.le_refl _)
  have HB3 := Lib.hid (below_nxt HB2.out hbb (Nat.le_refl _))
  have hcv := ab_string (HU2.out.below hbb)
  have hst : (ByteArray.mk #[97, 98]).toList == (ByteArray.mk #[97, 98]).toList := by simp
  clear hu3 hb3 hbb
  go_wp2
  go_ret
  exact ⟨rfl, HB3.out⟩
end Go.Proofs.Ytgbeolepfmihgaa.Stp
