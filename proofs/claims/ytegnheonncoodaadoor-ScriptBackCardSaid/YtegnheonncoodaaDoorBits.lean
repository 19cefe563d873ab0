/- The bitwise operators on ints that are not negative, and on bytes, as operators on natural numbers: no program is named here. -/
import Derived.Laws.BitsAllLaws
import Derived.Laws.BitsLemmas
namespace Go
theorem i64_and_nat (a b : Nat) (ha : a < 9223372036854775808) (hb : b < 9223372036854775808) : bits .and .i64 (a : Int) (b : Int) = ((a &&& b : Nat) : Int) := by
  have hx : a &&& b < 2 ^ 63 := Nat.and_lt_two_pow _ (by omega)
  show IntKind.i64.wrap ((BitVec.ofInt 64 (a : Int) &&& BitVec.ofInt 64 (b : Int)).toNat : Int) = _
  rw [BitVec.toNat_and, ofInt_u64 a (by omega), ofInt_u64 b (by omega), IntKind.wrap_i64]
  omega
theorem i64_or_nat (a b : Nat) (ha : a < 9223372036854775808) (hb : b < 9223372036854775808) : bits .or .i64 (a : Int) (b : Int) = ((a ||| b : Nat) : Int) := by
  have hx : a ||| b < 2 ^ 63 := Nat.or_lt_two_pow (by omega) (by omega)
  show IntKind.i64.wrap ((BitVec.ofInt 64 (a : Int) ||| BitVec.ofInt 64 (b : Int)).toNat : Int) = _
  rw [BitVec.toNat_or, ofInt_u64 a (by omega), ofInt_u64 b (by omega), IntKind.wrap_i64]
  omega
theorem i64_xor_nat (a b : Nat) (ha : a < 9223372036854775808) (hb : b < 9223372036854775808) : bits .xor .i64 (a : Int) (b : Int) = ((a ^^^ b : Nat) : Int) := by
  have hx : a ^^^ b < 2 ^ 63 := Nat.xor_lt_two_pow (by omega) (by omega)
  show IntKind.i64.wrap ((BitVec.ofInt 64 (a : Int) ^^^ BitVec.ofInt 64 (b : Int)).toNat : Int) = _
  rw [BitVec.toNat_xor, ofInt_u64 a (by omega), ofInt_u64 b (by omega), IntKind.wrap_i64]
  omega
/-- bit k of a byte -/
theorem bit_u8 (b : Int) (k : Nat) (h0 : 0 ≤ b) (h1 : b ≤ 255) : (bits .and .u8 (b / 2 ^ k) 1 == 1) = decide (b.toNat / 2 ^ k % 2 = 1) := by
  obtain ⟨n, rfl⟩ := Int.eq_ofNat_of_zero_le h0
  have hd : n / 2 ^ k ≤ n := Nat.div_le_self _ _
  rw [show ((n : Int) / 2 ^ k) = ((n / 2 ^ k : Nat) : Int) by simp, show (1 : Int) = ((1 : Nat) : Int) from rfl, u8_and_nat _ _ (by omega) (by omega), nat_mask1, Int.toNat_natCast]
  by_cases h : n / 2 ^ k % 2 = 1
  · simp [h]
  · rw [show n / 2 ^ k % 2 = 0 by omega]; rfl
/-- bit k of an int that is not negative -/
theorem bit_i64 (b : Int) (k : Nat) (h0 : 0 ≤ b) (h1 : b ≤ 9223372036854775807) : (bits .and .i64 (b / 2 ^ k) 1 == 1) = decide (b.toNat / 2 ^ k % 2 = 1) := by
  obtain ⟨n, rfl⟩ := Int.eq_ofNat_of_zero_le h0
  have hd : n / 2 ^ k ≤ n := Nat.div_le_self _ _
  rw [show ((n : Int) / 2 ^ k) = ((n / 2 ^ k : Nat) : Int) by simp, show (1 : Int) = ((1 : Nat) : Int) from rfl, i64_and_nat _ _ (by omega) (by omega), nat_mask1, Int.toNat_natCast]
  by_cases h : n / 2 ^ k % 2 = 1
  · simp [h]
  · rw [show n / 2 ^ k % 2 = 0 by omega]; rfl
/-- bit k of an int that is not negative, by remainder -/
theorem bit_tmod (b : Int) (k : Nat) (h0 : 0 ≤ b) : ((b / 2 ^ k).tmod 2 == 1) = decide (b.toNat / 2 ^ k % 2 = 1) := by
  obtain ⟨n, rfl⟩ := Int.eq_ofNat_of_zero_le h0
  rw [show ((n : Int) / 2 ^ k) = ((n / 2 ^ k : Nat) : Int) by simp, Int.toNat_natCast]
  generalize n / 2 ^ k = q
  rw [Int.tmod_eq_emod_of_nonneg (by omega)]
  by_cases h : q % 2 = 1
  · rw [show (q : Int) % 2 = 1 by omega]; simp [h]
  · rw [show (q : Int) % 2 = 0 by omega]; simp [h]
theorem bit_mod (b : Int) (k : Nat) (h0 : 0 ≤ b) : (b / 2 ^ k % 2 == 1) = decide (b.toNat / 2 ^ k % 2 = 1) := by
  rw [← bit_tmod b k h0]
  obtain ⟨n, rfl⟩ := Int.eq_ofNat_of_zero_le h0
  rw [show ((n : Int) / 2 ^ k) = ((n / 2 ^ k : Nat) : Int) by simp]
  generalize n / 2 ^ k = q
  rw [Int.tmod_eq_emod_of_nonneg (by omega)]
/-- a product with a power of two, in a u64 or int -/
theorem mul_pow_cast (a : Int) (k : Nat) (h0 : 0 ≤ a) : a * 2 ^ k = ((a.toNat * 2 ^ k : Nat) : Int) := by
  obtain ⟨n, rfl⟩ := Int.eq_ofNat_of_zero_le h0
  rw [Int.toNat_natCast]; simp
end Go
