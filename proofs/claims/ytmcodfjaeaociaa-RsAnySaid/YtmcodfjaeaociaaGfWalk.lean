/- What each function of layer 1, and the document's answer for it, returns. -/
import Derived.Test.YtmcodfjaeaociaaRows
import Derived.Test.YtmcodfjaeaociaaGfPlain
import Derived.Test.YtmcodfjaeaociaaShelf
import Derived.WalkKit
import Derived.ProofKit
import Derived.OpenShut
import Derived.Test.YtmcodfjaeaociaaBits
import Derived.Lib.Hide
import Derived.Lib.ItoaNum
namespace Go.Proofs.Ytmcodfjaeaociaa.Gf
open Go.ChangeShapes Go.WideShapes Go.ChangeAt Go.RowKit
open GfPlain
theorem ret_u8 {a b : Int} (h : a = b) : Ending.returned (.int .u8 a) = .returned (.int .u8 b) := by rw [h]
theorem int_u8 {a b : Int} (h : a = b) : Value.int .u8 a = .int .u8 b := by rw [h]
theorem idbl_1 (a : Int) (h0 : 0 ≤ a) (h1 : a ≤ 255) (h : a / 128 = 1) : bits .xor .u8 (a * 2 % 256) 29 = idbl a := by
  obtain ⟨n, rfl⟩ := Int.eq_ofNat_of_zero_le h0
  rw [show ((n : Int) * 2 % 256) = ((n * 2 % 256 : Nat) : Int) by omega, show (29 : Int) = ((29 : Nat) : Int) from rfl, u8_xor_nat _ _ (by omega) (by omega)]
  unfold idbl dbl; rw [Int.toNat_natCast, if_pos (by omega)]
theorem idbl_0 (a : Int) (h0 : 0 ≤ a) (h1 : a ≤ 255) (h : ¬ a / 128 = 1) : a * 2 = idbl a := by
  obtain ⟨n, rfl⟩ := Int.eq_ofNat_of_zero_le h0
  unfold idbl dbl; rw [Int.toNat_natCast, if_neg (by omega)]; omega
set_option maxHeartbeats 400000 in
theorem double (a : Int) (h0 : 0 ≤ a) (h1 : a ≤ 255) (w : World) :
    Calls Try.prog 46 #[.int .u8 a] w fun e w' => e = .returned (.int .u8 (idbl a)) ∧ w = w' := by
  by_cases h : a / 128 = 1
  · go_enter Try.func46, Try.ntmps46
    go_wp2
    go_ret
    exact ⟨ret_u8 (idbl_1 a h0 h1 h), rfl⟩
  · go_enter Try.func46, Try.ntmps46
    go_wp2
    go_ret
    exact ⟨ret_u8 (idbl_0 a h0 h1 h), rfl⟩
theorem mulA_succ (a : Int) (k : Nat) : idbl ((mulA a.toNat k : Nat) : Int) = ((mulA a.toNat (k + 1) : Nat) : Int) := by
  unfold idbl; rw [Int.toNat_natCast]; rfl
set_option maxHeartbeats 400000 in
theorem mulC (a b : Int) (h0 : 0 ≤ a) (h1 : a ≤ 255) (h2 : 0 ≤ b) (h3 : b ≤ 255) (w : World) :
    Calls Try.prog 42 #[.int .u8 a, .int .u8 b] w fun e w' => e = .returned (.int .u8 (gmul a b)) ∧ w = w' := by
  go_enter Try.func42, Try.ntmps42
  go_wp2
  go_loop [0, 5, 7] (fun x p c => ∃ k : Nat, k ≤ 8 ∧ x = .int .u8 (mulA a.toNat k : Nat) ∧ p = .int .u8 (mulP a.toNat b.toNat k : Nat) ∧ c = .int .i64 k) (fun _ _ c => 8 - (intOf c).toNat)
  case atStart => exact ⟨0, Nat.zero_le _, by simp [mulA]; omega, by simp [mulP], rfl⟩
  case round =>
    obtain ⟨k, hk, rfl, rfl, rfl⟩ := hrel
    have hA := mulA_lt a.toNat (by omega) k
    have hP := mulP_lt a.toNat b.toNat (by omega) k
    by_cases hlt : k < 8
    · have HS := Lib.hid (mulA_succ a k)
      have HX := Lib.hid (u8_xor_nat _ _ hP hA)
      by_cases hb : b.toNat / 2 ^ k % 2 = 1
      · have hbit : (bits .and .u8 (b / 2 ^ k) 1 == 1) = true := by rw [bit_u8 b k h2 h3]; simp [hb]
        have HP : Hid (mulP a.toNat b.toNat (k + 1) = mulP a.toNat b.toNat k ^^^ mulA a.toNat k) := if_pos hb
        clear hb
        go_wp2_with (go_at_call 46; refine (double _ (by omega) (by omega) _).mono ?_; rintro e w' ⟨rfl, rfl⟩)
        go_round
        case rel => exact ⟨k + 1, by omega, int_u8 HS.out, by rw [HP.out, ← HX.out], by go_num⟩
        case measure => simp [intOf]; omega
      · have hbit : (bits .and .u8 (b / 2 ^ k) 1 == 1) = false := by rw [bit_u8 b k h2 h3]; simp [hb]
        have HP : Hid (mulP a.toNat b.toNat (k + 1) = mulP a.toNat b.toNat k) := if_neg hb
        clear hb
        go_wp2_with (go_at_call 46; refine (double _ (by omega) (by omega) _).mono ?_; rintro e w' ⟨rfl, rfl⟩)
        go_round
        case rel => exact ⟨k + 1, by omega, int_u8 HS.out, by rw [HP.out], by go_num⟩
        case measure => simp [intOf]; omega
    · obtain rfl : k = 8 := by omega
      go_wp2
      go_ret
      exact ⟨rfl, rfl⟩

set_option maxHeartbeats 400000 in
theorem rmulC (a b : Int) (h0 : 0 ≤ a) (h1 : a ≤ 255) (h2 : 0 ≤ b) (w : World) :
    Calls Try.prog 31 #[.int .u8 a, .int .u8 b] w fun e w' => e = .returned (.int .u8 (grmul a b)) ∧ w = w' := by
  go_enter Try.func31, Try.ntmps31
  go_wp2
  go_loop [5, 6] (fun p c => ∃ k : Nat, k ≤ 8 ∧ p = .int .i64 (clm a.toNat b.toNat k : Nat) ∧ c = .int .i64 k) (fun _ c => 8 - (intOf c).toNat)
  case atStart => exact ⟨0, Nat.zero_le _, by simp [clm], rfl⟩
  case round =>
    obtain ⟨k, hk, rfl, rfl⟩ := hrel
    have hC := clm_lt a.toNat b.toNat (by omega) k hk
    by_cases hlt : k < 8
    · have hp : a.toNat * 2 ^ k < 65536 := by
        have h2 : 2 ^ k ≤ 2 ^ 7 := Nat.pow_le_pow_right (by decide) (by omega)
        have h3 : a.toNat * 2 ^ k ≤ 255 * 2 ^ 7 := Nat.mul_le_mul (by omega) h2
        omega
      have HX : Hid (bits .xor .i64 ((clm a.toNat b.toNat k : Nat) : Int) (wrap64 (a * 2 ^ k)) = ((clm a.toNat b.toNat k ^^^ a.toNat * 2 ^ k : Nat) : Int)) := by
        show _ = _
        rw [mul_pow_cast a k h0, IntWalk.wrap64_in _ (by omega), i64_xor_nat _ _ (by omega) (by omega)]
      clear hp
      by_cases hb : b.toNat / 2 ^ k % 2 = 1
      · have hbit : ((b / 2 ^ k).tmod 2 == 1) = true := by rw [bit_tmod b k h2]; simp [hb]
        have HP : Hid (clm a.toNat b.toNat (k + 1) = clm a.toNat b.toNat k ^^^ a.toNat * 2 ^ k) := if_pos hb
        clear hb
        go_wp2
        go_round
        case rel => exact ⟨k + 1, by omega, by rw [HP.out, ← HX.out], by go_num⟩
        case measure => simp [intOf]; omega
      · have hbit : ((b / 2 ^ k).tmod 2 == 1) = false := by rw [bit_tmod b k h2]; simp [hb]
        have HP : Hid (clm a.toNat b.toNat (k + 1) = clm a.toNat b.toNat k) := if_neg hb
        clear hb
        go_wp2
        go_round
        case rel => exact ⟨k + 1, by omega, by rw [HP.out], by go_num⟩
        case measure => simp [intOf]; omega
    · obtain rfl : k = 8 := by omega
      go_wp2
      go_loop [5, 7] (fun p c => ∃ k : Nat, k ≤ 7 ∧ p = .int .i64 (red (clm a.toNat b.toNat 8) k : Nat) ∧ c = .int .i64 (14 - k)) (fun _ c => (intOf c).toNat - 7)
      case atStart => exact ⟨0, Nat.zero_le _, by simp [red], rfl⟩
      case round =>
        obtain ⟨j, hj, rfl, rfl⟩ := hrel
        have hR := red_lt (clm a.toNat b.toNat 8) hC j
        by_cases hlt : j < 7
        · have hp : 285 * 2 ^ (6 - j) < 65536 := by
            have h2 : 2 ^ (6 - j) ≤ 2 ^ 6 := Nat.pow_le_pow_right (by decide) (by omega)
            have h3 : 285 * 2 ^ (6 - j) ≤ 285 * 2 ^ 6 := Nat.mul_le_mul (by omega) h2
            omega
          have HX : Hid (bits .xor .i64 ((red (clm a.toNat b.toNat 8) j : Nat) : Int) (wrap64 (285 * 2 ^ (14 - j - 8))) = ((red (clm a.toNat b.toNat 8) j ^^^ 285 * 2 ^ (6 - j) : Nat) : Int)) := by
            show _ = _
            rw [show 14 - j - 8 = 6 - j by omega, mul_pow_cast 285 (6 - j) (by omega), show (285 : Int).toNat = 285 from rfl, IntWalk.wrap64_in _ (by omega), i64_xor_nat _ _ (by omega) (by omega)]
          clear hp
          by_cases hb : red (clm a.toNat b.toNat 8) j / 2 ^ (14 - j) % 2 = 1
          · have hbit : ((((red (clm a.toNat b.toNat 8) j : Nat) : Int) / 2 ^ (14 - j)).tmod 2 == 1) = true := by rw [bit_tmod _ _ (by omega)]; simp [hb]
            have HP : Hid (red (clm a.toNat b.toNat 8) (j + 1) = red (clm a.toNat b.toNat 8) j ^^^ 285 * 2 ^ (6 - j)) := if_pos hb
            clear hb
            go_wp2
            go_round
            case rel => exact ⟨j + 1, by omega, by rw [HP.out, ← HX.out], by go_num⟩
            case measure => simp [intOf]; omega
          · have hbit : ((((red (clm a.toNat b.toNat 8) j : Nat) : Int) / 2 ^ (14 - j)).tmod 2 == 1) = false := by rw [bit_tmod _ _ (by omega)]; simp [hb]
            have HP : Hid (red (clm a.toNat b.toNat 8) (j + 1) = red (clm a.toNat b.toNat 8) j) := if_neg hb
            clear hb
            go_wp2
            go_round
            case rel => exact ⟨j + 1, by omega, by rw [HP.out], by go_num⟩
            case measure => simp [intOf]; omega
        · obtain rfl : j = 7 := by omega
          go_wp2
          go_ret
          exact ⟨ret_u8 (by unfold grmul rmul; omega), rfl⟩
theorem bitLen_bd (x : Nat) (h : x < 18446744073709551616) : x < 2 ^ Lib.bitLen x ∧ Lib.bitLen x ≤ 64 := by
  by_cases h0 : x = 0
  · subst h0; decide
  · have hb := Lib.bitLenAux_bounds 64 x h h0
    refine ⟨hb.2.2, ?_⟩
    by_cases hl : Lib.bitLen x ≤ 64
    · exact hl
    · have h1 : 2 ^ 64 ≤ 2 ^ (Lib.bitLen x - 1) := Nat.pow_le_pow_right (by decide) (by omega)
      have h2 : 2 ^ (Lib.bitLen x - 1) ≤ x := hb.2.1
      omega
theorem gmul_pows (a : Int) (h0 : 0 ≤ a) (h1 : a ≤ 255) (i j n : Nat) (h : i + j = n) : gmul ((npow a.toNat i : Nat) : Int) ((npow a.toNat j : Nat) : Int) = ((npow a.toNat n : Nat) : Int) := by
  unfold gmul; rw [Int.toNat_natCast, Int.toNat_natCast, ← h, npow_add _ (by omega)]
set_option maxHeartbeats 400000 in
theorem powC (a n : Int) (h0 : 0 ≤ a) (h1 : a ≤ 255) (h3 : n ≤ 9223372036854775807) (w : World) :
    Calls Try.prog 39 #[.int .u8 a, .int .i64 n] w fun e w' => e = .returned (.int .u8 (gpow a n.toNat)) ∧ w = w' := by
  by_cases hn : n < 1
  · have hz : n.toNat = 0 := by omega
    have Hz := Lib.hid hz; clear hz
    go_enter Try.func39, Try.ntmps39
    go_wp2
    go_ret
    exact ⟨ret_u8 (by rw [Hz.out]; rfl), rfl⟩
  · obtain ⟨hL, hL64⟩ := bitLen_bd n.toNat (by omega)
    have HL := Lib.hid hL; clear hL
    go_enter Try.func39, Try.ntmps39
    go_wp2_with (go_at_call 45; refine (Try.bits_Len _ _ (by omega) (by omega)).mono ?_; rintro e w' ⟨rfl, rfl⟩)
    go_loop [0, 5, 12] (fun x p c => ∃ k : Nat, k ≤ Lib.bitLen n.toNat ∧ x = .int .u8 (npow a.toNat (2 ^ k) : Nat) ∧ p = .int .u8 (npow a.toNat (n.toNat % 2 ^ k) : Nat) ∧ c = .int .i64 k) (fun _ _ c => Lib.bitLen n.toNat - (intOf c).toNat)
    case atStart => exact ⟨0, Nat.zero_le _, int_u8 (by rw [Nat.pow_zero, npow_one _ (by omega)]; omega), int_u8 (by rw [Nat.pow_zero, Nat.mod_one]; rfl), rfl⟩
    case round =>
      obtain ⟨k, hk, rfl, rfl, rfl⟩ := hrel
      have hA := npow_lt a.toNat (2 ^ k)
      have hP := npow_lt a.toNat (n.toNat % 2 ^ k)
      by_cases hlt : k < Lib.bitLen n.toNat
      · have HS := Lib.hid (gmul_pows a h0 h1 (2 ^ k) (2 ^ k) (2 ^ (k + 1)) (by rw [Nat.pow_succ, Nat.mul_two]))
        by_cases hb : n.toNat / 2 ^ k % 2 = 1
        · have hbit : (bits .and .i64 (n / 2 ^ k) 1 == 1) = true := by rw [bit_i64 n k (by omega) h3]; simp [hb]
          have HP := Lib.hid (gmul_pows a h0 h1 (n.toNat % 2 ^ k) (2 ^ k) (n.toNat % 2 ^ (k + 1)) (mod_step1 _ _ hb).symm)
          clear hb
          go_wp2_with (go_at_call 42; refine (mulC _ _ (by omega) (by omega) (by omega) (by omega) _).mono ?_; rintro e w' ⟨rfl, rfl⟩)
          go_round
          case rel => exact ⟨k + 1, by omega, int_u8 HS.out, int_u8 HP.out, by go_num⟩
          case measure => simp [intOf]; omega
        · have hbit : (bits .and .i64 (n / 2 ^ k) 1 == 1) = false := by rw [bit_i64 n k (by omega) h3]; simp [hb]
          have HP := Lib.hid (mod_step0 n.toNat k hb)
          clear hb
          go_wp2_with (go_at_call 42; refine (mulC _ _ (by omega) (by omega) (by omega) (by omega) _).mono ?_; rintro e w' ⟨rfl, rfl⟩)
          go_round
          case rel => exact ⟨k + 1, by omega, int_u8 HS.out, int_u8 (by rw [HP.out]), by go_num⟩
          case measure => simp [intOf]; omega
      · have hkk : k = Lib.bitLen n.toNat := by omega
        have HK := Lib.hid hkk; clear hkk
        go_wp2
        go_ret
        exact ⟨ret_u8 (by unfold gpow; rw [HK.out, Nat.mod_eq_of_lt HL.out]), rfl⟩
set_option maxHeartbeats 400000 in
theorem invC (a : Int) (h0 : 0 ≤ a) (h1 : a ≤ 255) (w : World) :
    Calls Try.prog 27 #[.int .u8 a] w fun e w' => e = .returned (.int .u8 (ginv a)) ∧ w = w' := by
  go_enter Try.func27, Try.ntmps27
  go_wp2_with (go_at_call 39; refine (powC _ _ (by omega) (by omega) (by omega) _).mono ?_; rintro e w' ⟨rfl, rfl⟩)
  go_ret
  exact ⟨rfl, rfl⟩
def NoHit (a k : Nat) : Prop := ∀ i, i < k → ¬ rmul a i = 1
theorem NoHit_succ {a k : Nat} (h : NoHit a k) (h1 : ¬ rmul a k = 1) : NoHit a (k + 1) := fun i hi => by
  by_cases e : i = k
  · rw [e]; exact h1
  · exact h i (by omega)
set_option maxRecDepth 100000 in
set_option maxHeartbeats 400000 in
theorem rinvC (a : Int) (h0 : 0 ≤ a) (h1 : a ≤ 255) (w : World) :
    Calls Try.prog 33 #[.int .u8 a] w fun e w' => e = .returned (.int .u8 (ginv a)) ∧ w = w' := by
  go_enter Try.func33, Try.ntmps33
  go_wp2
  go_loop [3] (fun c => ∃ k : Nat, k ≤ 256 ∧ NoHit a.toNat k ∧ c = .int .i64 k) (fun c => 256 - (intOf c).toNat)
  case atStart => exact ⟨0, Nat.zero_le _, fun i hi => absurd hi (by omega), rfl⟩
  case round =>
    obtain ⟨k, hk, hno, rfl⟩ := hrel
    by_cases hlt : k < 256
    · by_cases hit : rmul a.toNat k = 1
      · have hq : (grmul a k == 1) = true := by unfold grmul; rw [Int.toNat_natCast, hit]; rfl
        have HE := Lib.hid (search_hit a.toNat k (by omega) hlt hit)
        clear hit
        go_wp2_with (go_at_call 31; refine (rmulC _ _ (by omega) (by omega) (by omega) _).mono ?_; rintro e w' ⟨rfl, rfl⟩)
        go_ret
        exact ⟨ret_u8 (by unfold ginv; rw [← HE.out]), rfl⟩
      · have hq : (grmul a k == 1) = false := by unfold grmul; rw [Int.toNat_natCast, beq_eq_false_iff_ne]; omega
        have HN := Lib.hid (NoHit_succ hno hit)
        clear hit
        go_wp2_with (go_at_call 31; refine (rmulC _ _ (by omega) (by omega) (by omega) _).mono ?_; rintro e w' ⟨rfl, rfl⟩)
        go_round
        case rel => exact ⟨k + 1, by omega, HN.out, by go_num⟩
        case measure => simp [intOf]; omega
    · obtain rfl : k = 256 := by omega
      have HE := Lib.hid (search_miss a.toNat (by omega) hno)
      go_wp2
      go_ret
      exact ⟨ret_u8 (by unfold ginv; rw [HE.out]; rfl), rfl⟩
theorem gmul_grmul (a b : Int) (h0 : 0 ≤ a) (h1 : a ≤ 255) (h2 : 0 ≤ b) (h3 : b ≤ 255) : grmul a b = gmul a b := by
  unfold gmul grmul; rw [mul_rmul _ _ (by omega) (by omega)]
theorem gmul_comm (a b : Int) (h0 : 0 ≤ a) (h1 : a ≤ 255) (h2 : 0 ≤ b) (h3 : b ≤ 255) : gmul a b = gmul b a := by
  unfold gmul; rw [mul_comm _ _ (by omega) (by omega)]
theorem gmul_assoc (a b c : Int) (h0 : 0 ≤ a) (h1 : a ≤ 255) (h2 : 0 ≤ b) (h3 : b ≤ 255) (h4 : 0 ≤ c) (h5 : c ≤ 255) : gmul a (gmul b c) = gmul (gmul a b) c := by
  unfold gmul; rw [Int.toNat_natCast, Int.toNat_natCast, mul_assoc _ _ _ (by omega) (by omega) (by omega)]
theorem gmul_one (a : Int) (h0 : 0 ≤ a) (h1 : a ≤ 255) : gmul a 1 = a := by
  unfold gmul; rw [show (1 : Int).toNat = 1 from rfl, mul_one _ (by omega)]; omega
theorem gmul_inv (a : Int) (h0 : 0 ≤ a) (h1 : a ≤ 255) (h : ¬ a = 0) : gmul a (ginv a) = 1 := by
  unfold gmul ginv; rw [Int.toNat_natCast, mul_inv _ (by omega) (by omega)]; rfl
theorem u8_xor_bd (b c : Int) (h2 : 0 ≤ b) (h3 : b ≤ 255) (h4 : 0 ≤ c) (h5 : c ≤ 255) : 0 ≤ bits .xor .u8 b c ∧ bits .xor .u8 b c ≤ 255 := by
  have h := Nat.xor_lt_two_pow (n := 8) (x := b.toNat) (y := c.toNat) (by omega) (by omega)
  rw [u8_xor b c h2 (by omega) h4 (by omega)]; omega
theorem gmul_xor (a b c : Int) (h1 : a ≤ 255) (h2 : 0 ≤ b) (h3 : b ≤ 255) (h4 : 0 ≤ c) (h5 : c ≤ 255) : gmul a (bits .xor .u8 b c) = bits .xor .u8 (gmul a b) (gmul a c) := by
  have hb := gmul_bd a b h1; have hc := gmul_bd a c h1
  rw [u8_xor b c h2 (by omega) h4 (by omega), u8_xor _ _ hb.1 (by omega) hc.1 (by omega)]
  unfold gmul; rw [Int.toNat_natCast, Int.toNat_natCast, Int.toNat_natCast, mul_linr]
end Go.Proofs.Ytmcodfjaeaociaa.Gf
