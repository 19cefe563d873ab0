/- The laws of layer 16 on counts, as walks. -/
import Derived.Test.YtgbeolepfmihgaaStI
namespace Go.Proofs.Ytgbeolepfmihgaa.Stp
set_option linter.unusedVariables false
open Go.ChangeShapes Go.WideShapes Go.ChangeAt Go.RowKit
open Go.Mem St Same
set_option maxHeartbeats 4000000 in
theorem StripeCountC (I : StI) (k size : Int) (k0 : -9223372036854775808 ≤ k) (k1 : k ≤ 9223372036854775807) (s0 : -9223372036854775808 ≤ size) (s1 : size ≤ 9223372036854775807) (W : World) :
    Calls Try.prog 3 #[.int .i64 k, .int .i64 size] W fun e w' => e = .returned (.bool true) ∧ Below W.heap.size W w' := by
  by_cases hbig : 1048576 < k
  · have hd : decide (1048576 < k) = true := by simpa using hbig
    go_enter Try.func3, Try.ntmps3
    go_wp2_with fail
    refine (answersC I _).mono ?_
    rintro _ w1 ⟨rfl, hb⟩
    have HB := Lib.hid hb
    clear hb
    go_wp2
    go_ret
    exact ⟨rfl, HB.out⟩
  · have hk2 : k ≤ 1048576 := by omega
    have hd : decide (1048576 < k) = false := by simpa using hbig
    obtain ⟨N, hN⟩ : ∃ N, cntS k size = N := ⟨_, rfl⟩
    have HN := Lib.hid hN
    by_cases hnone : k < 1 ∨ size < 1
    · have HZ := Lib.hid (show N = 0 by rw [← hN]; exact cntS_none hnone)
      clear hN
      by_cases c1 : k < 1
      · have d1 : decide (k < 1) = true := by simpa using c1
        go_enter Try.func3, Try.ntmps3
        go_wp2_with fail
        refine (I.count _ k size ⟨k0, k1⟩ ⟨s0, s1⟩ hk2).mono ?_
        rintro _ w1 ⟨rfl, hb⟩
        rw [HN.out, HZ.out]
        have HB := Lib.hid hb
        clear hb
        go_wp2_with fail
        refine (answersC I _).mono ?_
        rintro _ w2 ⟨rfl, hb2⟩
        have HB2 := Lib.hid (below_nxt HB.out hb2 (Nat.le_refl _))
        clear hb2
        go_wp2
        go_ret
        exact ⟨rfl, HB2.out⟩
      · have d1 : decide (k < 1) = false := by simpa using c1
        have c2 : size < 1 := by omega
        have d2 : decide (size < 1) = true := by simpa using c2
        go_enter Try.func3, Try.ntmps3
        go_wp2_with fail
        refine (I.count _ k size ⟨k0, k1⟩ ⟨s0, s1⟩ hk2).mono ?_
        rintro _ w1 ⟨rfl, hb⟩
        rw [HN.out, HZ.out]
        have HB := Lib.hid hb
        clear hb
        go_wp2_with fail
        refine (answersC I _).mono ?_
        rintro _ w2 ⟨rfl, hb2⟩
        have HB2 := Lib.hid (below_nxt HB.out hb2 (Nat.le_refl _))
        clear hb2
        go_wp2
        go_ret
        exact ⟨rfl, HB2.out⟩
    · have c1 : 1 ≤ k := by omega
      have c2 : 1 ≤ size := by omega
      have d1 : decide (k < 1) = false := by simpa using c1
      have d2 : decide (size < 1) = false := by simpa using c2
      obtain ⟨f1, f2, f3, f4, f5, f6⟩ := cntS_fits c1 c2
      rw [hN] at f1 f2 f3 f4 f5 f6
      obtain ⟨P, hP⟩ : ∃ P, (N - 1) * 8 * k = P := ⟨_, rfl⟩
      rw [hP] at f2 f3 f6
      have hw : wrap64 ((N - 1) * 8 * k) = P := by rw [hP]; exact IntWalk.wrap64_in P ⟨by omega, by omega⟩
      have e1 : decide (1 ≤ N) = true := by simpa using f1
      have e2 : decide (P < size) = true := by simpa using f2
      have e3 : decide (size - P ≤ 8 * k) = true := by simpa using f3
      have HP := Lib.hid hP
      clear hN hP hnone
      go_enter Try.func3, Try.ntmps3
      go_wp2_with fail
      refine (I.count _ k size ⟨k0, k1⟩ ⟨s0, s1⟩ hk2).mono ?_
      rintro _ w1 ⟨rfl, hb⟩
      rw [HN.out]
      have HB := Lib.hid hb
      clear hb
      go_wp2_with fail
      refine (answersC I _).mono ?_
      rintro _ w2 ⟨rfl, hb2⟩
      have HB2 := Lib.hid (below_nxt HB.out hb2 (Nat.le_refl _))
      clear hb2
      go_wp2
      go_ret
      exact ⟨rfl, HB2.out⟩
set_option maxHeartbeats 4000000 in
theorem StripeNoneC (I : StI) (k : Int) (k0 : -9223372036854775808 ≤ k) (k1 : k ≤ 9223372036854775807) (l : List Nat) (v : Value) (W : World) (h : Bytes W v l) :
    Calls Try.prog 6 #[.int .i64 k, v] W fun e w' => e = .returned (.bool true) ∧ Below W.heap.size W w' := by
  obtain ⟨A, C, rfl, g1, g2, -⟩ := h.shape
  have HI := Lib.hid h
  have HLL : ∃ L, l.length = L := ⟨_, rfl⟩
  by_cases hk : 0 < k
  · have d1 : decide (0 < k) = true := by simpa using hk
    obtain ⟨L, hL⟩ := HLL
    rw [hL] at g1 ⊢
    clear h hL
    go_enter Try.func6, Try.ntmps6
    go_wp2_with fail
    refine (answersC I _).mono ?_
    rintro _ w1 ⟨rfl, hb⟩
    have HB := Lib.hid hb
    clear hb
    go_wp2
    go_ret
    exact ⟨rfl, HB.out⟩
  · have d1 : decide (0 < k) = false := by simpa using hk
    by_cases hl : 500 < l.length
    · have d2 : decide (500 < l.length) = true := by simpa using hl
      obtain ⟨L, hL⟩ := HLL
      rw [hL] at g1 d2 hl ⊢
      clear h hL
      go_enter Try.func6, Try.ntmps6
      go_wp2_with fail
      refine (answersC I _).mono ?_
      rintro _ w1 ⟨rfl, hb⟩
      have HB := Lib.hid hb
      clear hb
      go_wp2
      go_ret
      exact ⟨rfl, HB.out⟩
    · have d2 : decide (500 < l.length) = false := by simpa using hl
      have hl5 : l.length ≤ 500 := by omega
      have hkn : k < 1 := by omega
      have HS := Lib.hid (show splitL k l = [] from by unfold splitL; rw [if_pos hkn])
      have HC := Lib.hid (show cntS k (l.length : Nat) = 0 from cntS_none (.inl hkn))
      have HLN := Lib.hid hl5
      obtain ⟨L, hL⟩ := HLL
      have HL := Lib.hid hL
      rw [hL] at g1 d2 hl5 HI HC ⊢
      clear h hL hl
      go_enter Try.func6, Try.ntmps6
      go_wp2_with fail
      refine (answersC I _).mono ?_
      rintro _ w1 ⟨rfl, hb⟩
      have HB := Lib.hid hb
      clear hb
      go_wp2_with fail
      refine (I.split _ k _ l (HI.out.below HB.out) ⟨k0, k1⟩ (by omega) HLN.out).mono ?_
      rintro _ w2 ⟨u, rfl, hu, hb2⟩
      rw [HS.out] at hu
      obtain ⟨A2, C2, rfl, -⟩ := hu.shape
      have HB2 := Lib.hid (below_nxt HB.out hb2 (Nat.le_refl _))
      clear hu hb2
      go_wp2_with fail
      refine (I.count _ k (L : Nat) ⟨k0, k1⟩ ⟨by omega, by omega⟩ (by omega)).mono ?_
      rintro _ w3 ⟨rfl, hb3⟩
      rw [HC.out]
      have HB3 := Lib.hid (below_nxt HB2.out hb3 (Nat.le_refl _))
      clear hb3
      go_wp2_with fail
      refine (I.split _ 1 _ [] ⟨none, 0, 0, rfl, rfl, Nat.le_refl _, Nat.zero_le _, fun _ => rfl, fun i hi => absurd hi (by simp)⟩ ⟨by omega, by omega⟩ (by omega) (by simp)).mono ?_
      rintro _ w4 ⟨u4, rfl, hu4, hb4⟩
      have hu4 : Tab w4 u4 [] := hu4
      obtain ⟨A4, C4, rfl, -⟩ := hu4.shape
      have HB4 := Lib.hid (below_nxt HB3.out hb4 (Nat.le_refl _))
      clear hu4 hb4
      go_wp2
      go_ret
      exact ⟨rfl, HB4.out⟩
end Go.Proofs.Ytgbeolepfmihgaa.Stp
