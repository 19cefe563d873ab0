/- Go's own function that turns a word, and other ways to write SHA-256's functions. -/
import Derived.Test.YtcgjoidfmigpnaaDoorShaRef
namespace Go.Proofs.YtcgjoidfmigpnaaDoor.Hash
open Go.ChangeShapes Go.WideShapes Go.ChangeAt Go.RowKit
open Go.Mem Sha
theorem and31 {n : Nat} (h1 : 1 ≤ n) (h2 : n ≤ 31) : (18446744073709551616 - n) &&& 31 = 32 - n := by
  have h : ∀ m : Fin 31, (18446744073709551616 - (m.val + 1)) &&& 31 = 32 - (m.val + 1) := by decide +kernel
  have := h ⟨n - 1, by omega⟩
  dsimp only at this
  rwa [show n - 1 + 1 = n by omega] at this
theorem rotl_raw {x n s : Nat} (hx : x < 4294967296) (hs : s = 32 - n) : bits .or .u32 ((x : Int) * 2 ^ s % 4294967296) ((x : Int) / 2 ^ n) = ((rotr x n : Nat) : Int) := by
  subst hs
  have h1 : x / 2 ^ n ≤ x := Nat.div_le_self _ _
  rw [show ((x : Int) / 2 ^ n) = ((x / 2 ^ n : Nat) : Int) by simp, show ((x : Int) * 2 ^ (32 - n) % 4294967296) = ((x * 2 ^ (32 - n) % 4294967296 : Nat) : Int) by simp, u32_or_nat _ _ (by omega) (by omega), Nat.or_comm]
  rfl
set_option maxHeartbeats 1000000 in
/-- turned to the left by -n: to the right by n -/
theorem rotlC (x n : Nat) (k : Int) (hx : x < 4294967296) (h1 : 1 ≤ n) (h2 : n ≤ 31) (hk : k = -(n : Int)) (w : World) :
    Calls Tryd.prog 55 #[.int .u32 x, .int .i64 k] w fun e w' => e = .returned (.int .u32 (rotr x n : Nat)) ∧ w = w' := by
  obtain ⟨z, hz⟩ : ∃ z : Nat, z = 18446744073709551616 - n := ⟨_, rfl⟩
  obtain ⟨s, hs⟩ : ∃ s : Nat, s = 32 - n := ⟨_, rfl⟩
  have e1 : IntKind.u64.wrap k = (z : Int) := by rw [IntKind.wrap_u64]; omega
  have e2 : k % 18446744073709551616 = (z : Int) := by omega
  have e3 : bits .and .u64 (z : Int) 31 = (s : Int) := by
    rw [show (31 : Int) = ((31 : Nat) : Int) from rfl, u64_and_nat _ _ (by omega) (by omega), hz, and31 h1 h2, hs]
  have e4 : (32 : Int) - (s : Int) = (n : Int) := by omega
  have b1 : (s : Int) ≤ 31 := by omega
  have b0 : (0 : Int) ≤ (s : Int) := by omega
  have HR := Lib.hid (rotl_raw (x := x) (n := n) (s := s) hx hs)
  have e5 : IntKind.u64.wrap (n : Int) = (n : Int) := by rw [IntKind.wrap_u64]; omega
  clear hz hs hk
  go_enter Tryd.func55, Tryd.ntmps55
  go_wp2
  go_ret
  exact ⟨ret_u32 HR.out, rfl⟩
theorem not_bit {e i : Nat} (hi : i < 32) : (4294967295 ^^^ e).testBit i = !e.testBit i := by
  have h : (4294967295 : Nat).testBit i = true := by
    rw [show (4294967295 : Nat) = 2 ^ 32 - 1 from rfl, Nat.testBit_two_pow_sub_one]
    simpa using hi
  rw [Nat.testBit_xor, h]; simp
theorem high_bit {x i : Nat} (hx : x < 4294967296) (hi : ¬ i < 32) : x.testBit i = false :=
  Nat.testBit_lt_two_pow (Nat.lt_of_lt_of_le (show x < 2 ^ 32 from hx) (Nat.pow_le_pow_right (by omega) (by omega)))
/-- g ^ (e & (f ^ g)) -/
theorem ch_alt {e f g : Nat} (hf : f < 4294967296) (hg : g < 4294967296) : g ^^^ (e &&& (f ^^^ g)) = ch e f g := by
  apply Nat.eq_of_testBit_eq
  intro i
  unfold ch
  by_cases hi : i < 32
  · rw [Nat.testBit_xor, Nat.testBit_and, Nat.testBit_xor, Nat.testBit_xor, Nat.testBit_and, Nat.testBit_and, not_bit hi]
    cases e.testBit i <;> cases f.testBit i <;> cases g.testBit i <;> rfl
  · have h1 : f.testBit i = false := high_bit hf hi
    have h2 : g.testBit i = false := high_bit hg hi
    simp [Nat.testBit_xor, Nat.testBit_and, h1, h2]
/-- (a & b) | (c & (a | b)) -/
theorem maj_alt (a b c : Nat) : (a &&& b) ||| (c &&& (a ||| b)) = maj a b c := by
  apply Nat.eq_of_testBit_eq
  intro i
  unfold maj
  simp only [Nat.testBit_xor, Nat.testBit_and, Nat.testBit_or]
  cases a.testBit i <;> cases b.testBit i <;> cases c.testBit i <;> rfl
/-- a&b | a&c | b&c -/
theorem maj_alt2 (a b c : Nat) : (a &&& b) ||| (a &&& c) ||| (b &&& c) = maj a b c := by
  apply Nat.eq_of_testBit_eq
  intro i
  unfold maj
  simp only [Nat.testBit_xor, Nat.testBit_and, Nat.testBit_or]
  cases a.testBit i <;> cases b.testBit i <;> cases c.testBit i <;> rfl
/-- e&f | ^e&g -/
theorem ch_alt2 {e f g : Nat} (hf : f < 4294967296) (hg : g < 4294967296) : (e &&& f) ||| ((4294967295 ^^^ e) &&& g) = ch e f g := by
  apply Nat.eq_of_testBit_eq
  intro i
  unfold ch
  by_cases hi : i < 32
  · rw [Nat.testBit_or, Nat.testBit_xor, Nat.testBit_and, Nat.testBit_and, not_bit hi]
    cases e.testBit i <;> cases f.testBit i <;> cases g.testBit i <;> rfl
  · have h1 : f.testBit i = false := high_bit hf hi
    have h2 : g.testBit i = false := high_bit hg hi
    simp [Nat.testBit_xor, Nat.testBit_or, Nat.testBit_and, h1, h2]
/-- a word of four bytes, by shifts -/
theorem or_word {a b c d : Nat} (hb : b < 256) (hc : c < 256) (hd : d < 256) : (((a * 16777216 ||| b * 65536) ||| c * 256) ||| d) = ((a * 256 + b) * 256 + c) * 256 + d := by
  have h1 : a * 16777216 ||| b * 65536 = a * 16777216 + b * 65536 := by
    rw [show a * 16777216 = 2 ^ 24 * a by omega, ← Nat.two_pow_add_eq_or_of_lt (show b * 65536 < 2 ^ 24 by omega)]
  rw [h1, show a * 16777216 + b * 65536 = 2 ^ 16 * (a * 256 + b) by omega, ← Nat.two_pow_add_eq_or_of_lt (show c * 256 < 2 ^ 16 by omega), show 2 ^ 16 * (a * 256 + b) + c * 256 = 2 ^ 8 * ((a * 256 + b) * 256 + c) by omega, ← Nat.two_pow_add_eq_or_of_lt (show d < 2 ^ 8 by omega)]
  omega
end Go.Proofs.YtcgjoidfmigpnaaDoor.Hash
