/- Few stripes, and joins: the laws, as walks. -/
import Derived.Test.YtgbeolepfmihgaaStLaws
namespace Go.Proofs.Ytgbeolepfmihgaa.Stp
set_option linter.unusedVariables false
open Go.ChangeShapes Go.WideShapes Go.ChangeAt Go.RowKit
open Go.Mem St Same
theorem few_facts {K N : Int} (h1 : 1 ≤ K) (h9 : K ≤ 9) (hN : 0 ≤ N) : 0 ≤ cntS K N ∧ cntS K N ≤ cntS K (N + 1) ∧ cntS K (N + 1) ≤ cntS K N + 1 ∧ cntS K N ≤ N := by
  have hb : cntS K (N + 1) = N / (8 * K) + 1 := by rw [cntS_some h1 (by omega), Int.add_sub_cancel]
  rw [hb]
  rcases (by omega : N = 0 ∨ 1 ≤ N) with e | e
  · subst e
    rw [cntS_none (.inr (by omega))]
    simp
  · rw [cntS_some h1 e]
    rcases (by omega : K = 1 ∨ K = 2 ∨ K = 3 ∨ K = 4 ∨ K = 5 ∨ K = 6 ∨ K = 7 ∨ K = 8 ∨ K = 9) with rfl | rfl | rfl | rfl | rfl | rfl | rfl | rfl | rfl <;> omega
theorem zeros_bytes (w : World) (n : Nat) (hn : n ≤ 1000) : Bytes (w.alloc (.cells (madeCells #[.int .u8 0] n) 5)) (.slice (some ⟨w.heap.size, 0, none⟩) n n) ((List.range n).map fun _ => 0) :=
  (Row.made w 5 n).bytes (Nat.le_refl _) (by omega)
set_option maxHeartbeats 4000000 in
theorem StripeFewC (I : StI) (a0 a1 : Int) (ha0 : 0 ≤ a0) (ha1 : a0 ≤ 255) (hb0 : 0 ≤ a1) (hb1 : a1 ≤ 65535) (W : World) :
    Calls Try.prog 7 #[.int .u8 a0, .int .u16 a1] W fun e w' => e = .returned (.bool true) ∧ Below W.heap.size W w' := by
  obtain ⟨K, hK⟩ : ∃ K : Int, a0 % 9 + 1 = K := ⟨_, rfl⟩
  have hK1 : 1 ≤ K := by omega
  have hK9 : K ≤ 9 := by omega
  obtain ⟨M, hM⟩ : ∃ M : Nat, a1 % 300 = (M : Int) := ⟨(a1 % 300).toNat, by omega⟩
  have hM3 : M < 300 := by omega
  obtain ⟨f0, f1, f2, f3⟩ := few_facts hK1 hK9 hb0
  obtain ⟨A, hA⟩ : ∃ A, cntS K a1 = A := ⟨_, rfl⟩
  obtain ⟨B, hB⟩ : ∃ B, cntS K (a1 + 1) = B := ⟨_, rfl⟩
  rw [hA] at f0 f1 f2 f3
  rw [hB] at f1 f2
  have HA := Lib.hid hA
  have HB := Lib.hid hB
  have HSC := Lib.hid (show (((splitL K ((List.range M).map fun _ => 0)).length : Nat) : Int) = cntS K M by rw [split_count]; simp)
  have hmk := run_make_row' (P := Try.prog) 25 5 (.int .u8 0) 1 Try.underlying25 infoByte rfl .i64 .i64 M (by omega) (by omega)
  have e1 : decide (A ≤ B) = true := by simpa using f1
  have e2 : decide (B ≤ A + 1) = true := by simpa using f2
  have e3 : decide (A ≤ a1) = true := by simpa using f3
  clear hA hB
  go_enter Try.func7, Try.ntmps7
  go_wp2_with fail
  refine (I.count _ K a1 ⟨by omega, by omega⟩ ⟨by omega, by omega⟩ (by omega)).mono ?_
  rintro _ w1 ⟨rfl, hb⟩
  rw [HA.out]
  have HB1 := Lib.hid hb
  clear hb
  go_wp2_with fail
  refine (I.count _ K (a1 + 1) ⟨by omega, by omega⟩ ⟨by omega, by omega⟩ (by omega)).mono ?_
  rintro _ w2 ⟨rfl, hb2⟩
  rw [HB.out]
  have HB2 := Lib.hid (below_nxt HB1.out hb2 (Nat.le_refl _))
  clear hb2
  go_wp2_with fail
  refine (answersC I _).mono ?_
  rintro _ w3 ⟨rfl, hb3⟩
  have HB3 := Lib.hid (below_nxt HB2.out hb3 (Nat.le_refl _))
  have hal : Below w3.heap.size w3 (w3.alloc (.cells (madeCells #[.int .u8 0] M) 5)) := (Below.refl _ _).alloc (Nat.le_refl _) _
  have HB4 := Lib.hid (below_nxt HB3.out hal (Nat.le_refl _))
  clear hb3 hal
  go_wp2_with fail
  refine (I.split _ K _ _ (zeros_bytes w3 M (by omega)) ⟨by omega, by omega⟩ (by omega) (by simp; omega)).mono ?_
  rintro _ w5 ⟨u, rfl, hu, hb5⟩
  have HB5 := Lib.hid (below_nxt HB4.out hb5 (Nat.le_refl _))
  obtain ⟨A5, C5, rfl, -⟩ := hu.shape
  obtain ⟨NS, hNS⟩ : ∃ NS, (splitL K ((List.range M).map fun _ => 0)).length = NS := ⟨_, rfl⟩
  rw [hNS] at HSC ⊢
  clear hu hb5 hNS
  go_wp2_with fail
  refine (I.count _ K (M : Nat) ⟨by omega, by omega⟩ ⟨by omega, by omega⟩ (by omega)).mono ?_
  rintro _ w6 ⟨rfl, hb6⟩
  rw [← HSC.out]
  have HB6 := Lib.hid (below_nxt HB5.out hb6 (Nat.le_refl _))
  have hq : ((NS : Int) == (NS : Int)) = true := by simp
  clear hb6
  go_wp2
  go_ret
  exact ⟨rfl, HB6.out⟩
end Go.Proofs.Ytgbeolepfmihgaa.Stp
