/- The document's drives: whether their states may be, as a walk. -/
import Derived.Test.YtlgdchflegflkaaTbSmall
namespace Go.Proofs.Ytlgdchflegflkaa.Tbl
set_option linter.unusedVariables false
open Go.ChangeShapes Go.WideShapes Go.ChangeAt Go.RowKit
open Go.Mem
set_option maxHeartbeats 1000000 in
theorem drivesC (l : List Int) (v : Value) (w : World) (h : Ints w v l) :
    Calls Try.prog 32 #[v] w fun e w' => e = .returned (.bool (decide (Tb.DrvOk l))) ∧ ∃ n, w' = w.drewN n := by
  obtain ⟨A, C, rfl, g1, g2, -⟩ := h.shape
  have HI := Lib.hid h
  obtain ⟨N, hN⟩ : ∃ N, l.length = N := ⟨_, rfl⟩
  have HN := Lib.hid hN
  rw [hN] at g1 HI ⊢
  have HD := Lib.hid (show (∀ j (hj : j < l.length), 0 ≤ l[j] ∧ l[j] ≤ 2) → decide (Tb.DrvOk l) = decide ((N : Int) ≤ 12) from fun q => by
    apply decide_eq_decide.2
    unfold Tb.DrvOk
    rw [hN]
    refine ⟨fun k => by omega, fun k => ⟨fun x hx => ?_, by omega⟩⟩
    obtain ⟨j, hj, rfl⟩ := List.getElem_of_mem hx
    exact q j hj)
  have HNO := Lib.hid (show ∀ j (hj : j < l.length), ¬ (0 ≤ l[j] ∧ l[j] ≤ 2) → decide (Tb.DrvOk l) = false from fun j hj q => decide_eq_false fun k => q (k.1 _ (List.getElem_mem hj)))
  clear h hN
  go_enter Try.func32, Try.ntmps32
  go_wp2
  go_loopw [3] (fun c wr => ∃ i : Nat, i ≤ N ∧ c = .int .i64 i ∧ (∀ j (hj : j < l.length), j < i → 0 ≤ l[j] ∧ l[j] ≤ 2) ∧ ∃ n, wr = w.drewN n) (fun c _ => N - (intOf c).toNat)
  case atStart => exact ⟨0, Nat.zero_le _, rfl, fun _ _ q => absurd q (by omega), 0, rfl⟩
  case round =>
    obtain ⟨i, hi, rfl, hs, n, rfl⟩ := hrel
    have HS := Lib.hid hs
    by_cases hlt : i < N
    · have hil : i < l.length := by rw [HN.out]; exact hlt
      obtain ⟨b, o, rfl, hc, -⟩ := HI.out.at hil
      have HNX := Lib.hid (show 0 ≤ l[i] ∧ l[i] ≤ 2 → ∀ j (hj : j < l.length), j < i + 1 → 0 ≤ l[j] ∧ l[j] ≤ 2 from fun e j hj q => by
        by_cases k : j = i
        · subst k; exact e
        · exact hs j hj (by omega))
      have HNO2 := Lib.hid (HNO.out i hil)
      obtain ⟨x, hx⟩ : ∃ x, l[i] = x := ⟨_, rfl⟩
      rw [hx] at hc HNX HNO2
      have q1 : (0 : Int) ≤ (i : Int) := by omega
      have q2 : (i : Int) < (N : Int) := by omega
      clear hx hil hs
      by_cases d1 : x < 0
      · have HE := Lib.hid (HNO2.out (by omega))
        have e1 : decide (x < 0) = true := by simpa using d1
        go_wp2
        go_ret
        exact ⟨by rw [HE.out]; rfl, _, rfl⟩
      · have e1 : decide (x < 0) = false := by simpa using d1
        by_cases d2 : 2 < x
        · have HE := Lib.hid (HNO2.out (by omega))
          have e2 : decide (2 < x) = true := by simpa using d2
          go_wp2
          go_ret
          exact ⟨by rw [HE.out]; rfl, _, rfl⟩
        · have HE := Lib.hid (HNX.out (by omega))
          have e2 : decide (2 < x) = false := by simpa using d2
          go_wp2
          go_roundw
          case rel => exact ⟨i + 1, by omega, by go_num, HE.out, _, rfl⟩
          case measure => simp [intOf]; omega
    · obtain rfl : i = N := by omega
      have HE := Lib.hid (HD.out fun j hj => HS.out j hj (by rw [← HN.out]; exact hj))
      clear hs hlt
      go_wp2
      go_ret
      refine ⟨?_, _, rfl⟩
      rw [HE.out]
      simp
end Go.Proofs.Ytlgdchflegflkaa.Tbl
