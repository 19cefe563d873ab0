/- The law of layer 1 on the powers of 2, as a walk. -/
import Derived.Test.YtkjfciioknpdkaaGfLaws2
namespace Go.Proofs.Ytkjfciioknpdkaa.Gf
open Go.ChangeShapes Go.WideShapes Go.ChangeAt Go.RowKit
open GfPlain
def zc : Array Value := Array.replicate 256 (.bool false)
theorem zc_run (w : World) : (zeroValue 30).run Try.prog w = .ok (.agg zc) w := by kernel_rfl
theorem zc_size : zc.size = 256 := by unfold zc; simp
theorem zc_ne : ¬ zc = #[] := by intro h; have := congrArg Array.size h; rw [zc_size] at this; exact absurd this (by decide)
/-- what has been seen after k rounds -/
def hs : Nat → Array Value
  | 0 => zc
  | k + 1 => (hs k).setIfInBounds (npow 2 k) (.bool true)
theorem hs_get (i : Nat) (hi : i < 255) : ∀ k, k ≤ i → (hs k)[npow 2 i]? = some (.bool false)
  | 0, _ => by have := npow_lt 2 i; unfold hs zc; rw [Array.getElem?_replicate, if_pos this]
  | k + 1, hk => by
    unfold hs; rw [Array.getElem?_setIfInBounds_ne (two_ne k i (by omega) hi)]; exact hs_get i hi k (by omega)
set_option maxRecDepth 100000 in
set_option maxHeartbeats 800000 in
theorem GfPowersC (n : Int) (h0 : 0 ≤ n) (h1 : n ≤ 255) (w : World) :
    Calls Try.prog 7 #[.int .u8 n] w fun e w' => e = .returned (.bool true) ∧ Grown w w' := by
  have hz := zc_run
  have hne := zc_ne
  go_enter Try.func7, Try.ntmps7
  go_wp2
  go_loopw [4, 5] (fun v c wr => ∃ k : Nat, k ≤ 255 ∧ v = .int .u8 (npow 2 k : Nat) ∧ c = .int .i64 k ∧ wr = w.alloc (.cells (hs k) 30)) (fun _ c _ => 255 - (intOf c).toNat)
  case atStart => exact ⟨0, Nat.zero_le _, rfl, rfl, rfl⟩
  case round =>
    obtain ⟨k, hk, rfl, rfl, rfl⟩ := hrel
    have hP := npow_lt 2 k
    by_cases hlt : k < 255
    · have hC := hs_get k hlt k (Nat.le_refl k)
      have hN : (((npow 2 k : Nat) : Int) == 0) = false := by have := npow_ne 2 (by decide) (by decide) k; rw [beq_eq_false_iff_ne]; omega
      have HG : Hid (gmul ((npow 2 k : Nat) : Int) 2 = ((npow 2 (k + 1) : Nat) : Int)) := by
        show _ = _
        unfold gmul; rw [Int.toNat_natCast]; rfl
      go_wp2_with (go_at_call 9; refine (mulC _ _ (by omega) (by omega) (by omega) (by omega) _).mono ?_; rintro e w' ⟨rfl, rfl⟩)
      go_roundw
      case rel => exact ⟨k + 1, by omega, int_u8 HG.out, by go_num, rfl⟩
      case measure => simp [intOf]; omega
    · obtain rfl : k = 255 := by omega
      have e0 : npow 2 255 = 1 := npow_255 2 (by decide) (by decide)
      have e1 : (gpow 2 (255 + n).toNat == gpow 2 n.toNat) = true := by
        unfold gpow; rw [show (255 + n).toNat = 255 + n.toNat by omega, npow_add _ (by decide), npow_255 _ (by decide) (by decide), one_mul _ (npow_lt _ _)]; exact beq_self_eq_true _
      have e2 : (gmul (gpow 2 n.toNat) (ginv (gpow 2 n.toNat)) == 1) = true := by
        have hb := gpow_bd 2 n.toNat
        rw [gmul_inv _ hb.1 hb.2 (by have := npow_ne 2 (by decide) (by decide) n.toNat; unfold gpow; rw [show (2 : Int).toNat = 2 from rfl]; omega)]; rfl
      obtain ⟨g1, g2⟩ := gpow_bd 2 n.toNat
      obtain ⟨g3, g4⟩ := ginv_bd (gpow 2 n.toNat)
      go_wp2_with (first | (go_at_call 8; refine (answersC _).mono ?_; rintro e w' ⟨rfl, rfl⟩) | (go_at_call 13; refine (powC _ _ (by omega) (by omega) (by omega) _).mono ?_; rintro e w' ⟨rfl, rfl⟩) | (go_at_call 11; refine (invC _ (by omega) (by omega) _).mono ?_; rintro e w' ⟨rfl, rfl⟩) | (go_at_call 9; refine (mulC _ _ (by omega) (by omega) (by omega) (by omega) _).mono ?_; rintro e w' ⟨rfl, rfl⟩))
      go_ret
      exact ⟨rfl, (Grown.refl _).alloc _ _⟩
end Go.Proofs.Ytkjfciioknpdkaa.Gf
