/- The laws of layer 1 on powers, as walks. -/
import Derived.Test.YtkjfciioknpdkaaGfLaws
namespace Go.Proofs.Ytkjfciioknpdkaa.Gf
open Go.ChangeShapes Go.WideShapes Go.ChangeAt Go.RowKit
open GfPlain
theorem gpow_mod (a : Int) (h0 : 0 ≤ a) (h1 : a ≤ 255) (hz : ¬ a = 0) (n : Nat) : gpow a n = gpow a (n % 255) := by
  unfold gpow; rw [npow_mod a.toNat n (by omega) (by omega)]
theorem grmul_pow (a : Int) (h0 : 0 ≤ a) (h1 : a ≤ 255) (k : Nat) : grmul ((npow a.toNat k : Nat) : Int) a = ((npow a.toNat (k + 1) : Nat) : Int) := by
  have hp := npow_lt a.toNat k
  rw [gmul_grmul _ _ (by omega) (by omega) h0 h1]; unfold gmul; rw [Int.toNat_natCast]; rfl
set_option maxHeartbeats 800000 in
theorem GfPowC (a n : Int) (h0 : 0 ≤ a) (h1 : a ≤ 255) (h2 : -9223372036854775808 ≤ n) (h3 : n ≤ 9223372036854775807) (w : World) :
    Calls Try.prog 6 #[.int .u8 a, .int .i64 n] w fun e w' => e = .returned (.bool true) ∧ w = w' := by
  by_cases hn : 0 < n
  · by_cases hz : a = 0
    · have e0 : (a == 0) = true := by rw [hz]; rfl
      have e1 : (gpow a n.toNat == 0) = true := by unfold gpow; rw [hz, show (0 : Int).toNat = 0 from rfl, npow_zero _ (by omega)]; rfl
      clear hz
      go_enter Try.func6, Try.ntmps6
      go_wp2_with (first | (go_at_call 8; refine (answersC _).mono ?_; rintro e w' ⟨rfl, rfl⟩) | (go_at_call 13; refine (powC _ _ (by omega) (by omega) (by omega) _).mono ?_; rintro e w' ⟨rfl, rfl⟩))
      go_ret
      exact ⟨rfl, rfl⟩
    · have e0 : (a == 0) = false := by simp [hz]
      have HE := Lib.hid (gpow_mod a h0 h1 hz n.toNat)
      clear hz
      go_enter Try.func6, Try.ntmps6
      go_wp2
      go_loop [6, 7] (fun v i => ∃ k : Nat, k ≤ n.toNat % 255 ∧ v = .int .u8 (npow a.toNat k : Nat) ∧ i = .int .i64 k) (fun _ i => n.toNat % 255 - (intOf i).toNat)
      case atStart => exact ⟨0, Nat.zero_le _, rfl, rfl⟩
      case round =>
        obtain ⟨k, hk, rfl, rfl⟩ := hrel
        have hp := npow_lt a.toNat k
        by_cases hlt : k < n.toNat % 255
        · have HG := Lib.hid (grmul_pow a h0 h1 k)
          go_wp2_with (go_at_call 10; refine (rmulC _ _ (by omega) (by omega) (by omega) _).mono ?_; rintro e w' ⟨rfl, rfl⟩)
          go_round
          case rel => exact ⟨k + 1, by omega, int_u8 HG.out, by go_num⟩
          case measure => simp [intOf]; omega
        · have e2 : (gpow a n.toNat == ((npow a.toNat k : Nat) : Int)) = true := by
            rw [HE.out, show n.toNat % 255 = k by omega]; unfold gpow; exact beq_self_eq_true _
          go_wp2_with (first | (go_at_call 8; refine (answersC _).mono ?_; rintro e w' ⟨rfl, rfl⟩) | (go_at_call 13; refine (powC _ _ (by omega) (by omega) (by omega) _).mono ?_; rintro e w' ⟨rfl, rfl⟩))
          go_ret
          exact ⟨rfl, rfl⟩
  · have e1 : (gpow a n.toNat == 1) = true := by rw [show n.toNat = 0 by omega]; rfl
    go_enter Try.func6, Try.ntmps6
    go_wp2
    go_loop [6, 7] (fun v i => v = .int .u8 1 ∧ i = .int .i64 0) (fun _ _ => 0)
    case atStart => exact ⟨rfl, rfl⟩
    case round =>
      obtain ⟨rfl, rfl⟩ := hrel
      go_wp2_with (first | (go_at_call 8; refine (answersC _).mono ?_; rintro e w' ⟨rfl, rfl⟩) | (go_at_call 13; refine (powC _ _ (by omega) (by omega) (by omega) _).mono ?_; rintro e w' ⟨rfl, rfl⟩))
      go_ret
      exact ⟨rfl, rfl⟩
end Go.Proofs.Ytkjfciioknpdkaa.Gf
