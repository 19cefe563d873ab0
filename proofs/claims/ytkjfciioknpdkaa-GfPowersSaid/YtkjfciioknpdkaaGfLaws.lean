/- The laws of layer 1, as walks: each of the five functions returns true, whatever its arguments. -/
import Derived.Test.YtkjfciioknpdkaaGfWalk
namespace Go.Proofs.Ytkjfciioknpdkaa.Gf
open Go.ChangeShapes Go.WideShapes Go.ChangeAt Go.RowKit
open GfPlain
theorem gmul_grmul (a b : Int) (h0 : 0 ≤ a) (h1 : a ≤ 255) (h2 : 0 ≤ b) (h3 : b ≤ 255) : grmul a b = gmul a b := by
  unfold gmul grmul; rw [mul_rmul _ _ (by omega) (by omega)]
theorem gmul_comm (a b : Int) (h0 : 0 ≤ a) (h1 : a ≤ 255) (h2 : 0 ≤ b) (h3 : b ≤ 255) : gmul a b = gmul b a := by
  unfold gmul; rw [mul_comm _ _ (by omega) (by omega)]
theorem gmul_assoc (a b c : Int) (h0 : 0 ≤ a) (h1 : a ≤ 255) (h2 : 0 ≤ b) (h3 : b ≤ 255) (h4 : 0 ≤ c) (h5 : c ≤ 255) : gmul a (gmul b c) = gmul (gmul a b) c := by
  unfold gmul; rw [Int.toNat_natCast, Int.toNat_natCast, mul_assoc _ _ _ (by omega) (by omega) (by omega)]
theorem gmul_one (a : Int) (h0 : 0 ≤ a) (h1 : a ≤ 255) : gmul a 1 = a := by
  unfold gmul; rw [show (1 : Int).toNat = 1 from rfl, mul_one _ (by omega)]; omega
theorem gmul_inv (a : Int) (h0 : 0 ≤ a) (h1 : a ≤ 255) (h : ¬ a = 0) : gmul a (ginv a) = 1 := by
  unfold gmul ginv; rw [Int.toNat_natCast, mul_inv _ (by omega) (by omega)]; rfl
theorem u8_xor_bd (b c : Int) (h2 : 0 ≤ b) (h3 : b ≤ 255) (h4 : 0 ≤ c) (h5 : c ≤ 255) : 0 ≤ bits .xor .u8 b c ∧ bits .xor .u8 b c ≤ 255 := by
  have h := Nat.xor_lt_two_pow (n := 8) (x := b.toNat) (y := c.toNat) (by omega) (by omega)
  rw [u8_xor b c h2 (by omega) h4 (by omega)]; omega
theorem gmul_xor (a b c : Int) (h1 : a ≤ 255) (h2 : 0 ≤ b) (h3 : b ≤ 255) (h4 : 0 ≤ c) (h5 : c ≤ 255) : gmul a (bits .xor .u8 b c) = bits .xor .u8 (gmul a b) (gmul a c) := by
  have hb := gmul_bd a b h1; have hc := gmul_bd a c h1
  rw [u8_xor b c h2 (by omega) h4 (by omega), u8_xor _ _ hb.1 (by omega) hc.1 (by omega)]
  unfold gmul; rw [Int.toNat_natCast, Int.toNat_natCast, Int.toNat_natCast, mul_linr]
set_option maxHeartbeats 400000 in
theorem GfMulC (a b : Int) (h0 : 0 ≤ a) (h1 : a ≤ 255) (h2 : 0 ≤ b) (h3 : b ≤ 255) (w : World) :
    Calls Try.prog 3 #[.int .u8 a, .int .u8 b] w fun e w' => e = .returned (.bool true) ∧ w = w' := by
  have e1 : (gmul a b == grmul a b) = true := by rw [gmul_grmul a b h0 h1 h2 h3]; exact beq_self_eq_true _
  have e2 : (gmul a b == gmul b a) = true := by rw [gmul_comm a b h0 h1 h2 h3]; exact beq_self_eq_true _
  go_enter Try.func3, Try.ntmps3
  go_wp2_with (first | (go_at_call 8; refine (answersC _).mono ?_; rintro e w' ⟨rfl, rfl⟩) | (go_at_call 9; refine (mulC _ _ (by omega) (by omega) (by omega) (by omega) _).mono ?_; rintro e w' ⟨rfl, rfl⟩) | (go_at_call 10; refine (rmulC _ _ (by omega) (by omega) (by omega) _).mono ?_; rintro e w' ⟨rfl, rfl⟩))
  go_ret
  exact ⟨rfl, rfl⟩
set_option maxHeartbeats 400000 in
theorem GfLawsC (a b c : Int) (h0 : 0 ≤ a) (h1 : a ≤ 255) (h2 : 0 ≤ b) (h3 : b ≤ 255) (h4 : 0 ≤ c) (h5 : c ≤ 255) (w : World) :
    Calls Try.prog 4 #[.int .u8 a, .int .u8 b, .int .u8 c] w fun e w' => e = .returned (.bool true) ∧ w = w' := by
  have e1 : (gmul a (gmul b c) == gmul (gmul a b) c) = true := by rw [gmul_assoc a b c h0 h1 h2 h3 h4 h5]; exact beq_self_eq_true _
  have e2 : (gmul a (bits .xor .u8 b c) == bits .xor .u8 (gmul a b) (gmul a c)) = true := by rw [gmul_xor a b c h1 h2 h3 h4 h5]; exact beq_self_eq_true _
  have e3 : (gmul a 1 == a) = true := by rw [gmul_one a h0 h1]; exact beq_self_eq_true _
  obtain ⟨g1, g2⟩ := gmul_bd b c h3
  obtain ⟨g3, g4⟩ := gmul_bd a b h1
  obtain ⟨g5, g6⟩ := u8_xor_bd b c h2 h3 h4 h5
  go_enter Try.func4, Try.ntmps4
  go_wp2_with (first | (go_at_call 8; refine (answersC _).mono ?_; rintro e w' ⟨rfl, rfl⟩) | (go_at_call 9; refine (mulC _ _ (by omega) (by omega) (by omega) (by omega) _).mono ?_; rintro e w' ⟨rfl, rfl⟩))
  go_ret
  exact ⟨rfl, rfl⟩
set_option maxHeartbeats 400000 in
theorem GfInvC (a : Int) (h0 : 0 ≤ a) (h1 : a ≤ 255) (w : World) :
    Calls Try.prog 5 #[.int .u8 a] w fun e w' => e = .returned (.bool true) ∧ w = w' := by
  obtain ⟨g1, g2⟩ := ginv_bd a
  by_cases hz : a = 0
  · have e0 : (a == 0) = true := by rw [hz]; rfl
    clear hz
    go_enter Try.func5, Try.ntmps5
    go_wp2_with (first | (go_at_call 8; refine (answersC _).mono ?_; rintro e w' ⟨rfl, rfl⟩) | (go_at_call 11; refine (invC _ (by omega) (by omega) _).mono ?_; rintro e w' ⟨rfl, rfl⟩) | (go_at_call 12; refine (rinvC _ (by omega) (by omega) _).mono ?_; rintro e w' ⟨rfl, rfl⟩))
    go_ret
    exact ⟨rfl, rfl⟩
  · have e0 : (a == 0) = false := by simp [hz]
    have e1 : (gmul a (ginv a) == 1) = true := by rw [gmul_inv a h0 h1 hz]; rfl
    clear hz
    go_enter Try.func5, Try.ntmps5
    go_wp2_with (first | (go_at_call 8; refine (answersC _).mono ?_; rintro e w' ⟨rfl, rfl⟩) | (go_at_call 11; refine (invC _ (by omega) (by omega) _).mono ?_; rintro e w' ⟨rfl, rfl⟩) | (go_at_call 12; refine (rinvC _ (by omega) (by omega) _).mono ?_; rintro e w' ⟨rfl, rfl⟩) | (go_at_call 9; refine (mulC _ _ (by omega) (by omega) (by omega) (by omega) _).mono ?_; rintro e w' ⟨rfl, rfl⟩))
    go_ret
    exact ⟨rfl, rfl⟩
end Go.Proofs.Ytkjfciioknpdkaa.Gf
