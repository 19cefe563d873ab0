/- The words of a block, filled byte by byte. No program is named here. -/
import Derived.Test.YtcgjoidfmigpnaaDoorShaMore
namespace Sha
/-- the first n bytes of word c -/
def pw (M : List Nat) (c : Nat) : Nat → Nat
  | 0 => 0
  | n + 1 => pw M c n * 256 + M.getD (4 * c + n) 0
/-- word c when k bytes are there -/
def pF (M : List Nat) (k c : Nat) : Nat := pw M c (min 4 (k - 4 * c))
theorem getD_lt {M : List Nat} (h : ∀ x ∈ M, x < 256) (i : Nat) : M.getD i 0 < 256 := by
  by_cases hi : i < M.length
  · simpa [hi] using h _ (List.getElem_mem hi)
  · simp [Nat.le_of_not_lt hi]
theorem pw_lt {M : List Nat} (h : ∀ x ∈ M, x < 256) (c : Nat) : ∀ n, pw M c n < 256 ^ n
  | 0 => by simp [pw]
  | n + 1 => by
    have h1 := pw_lt h c n
    have h2 := getD_lt h (4 * c + n)
    rw [pw, Nat.pow_succ]
    omega
theorem pF_zero (M : List Nat) (c : Nat) : pF M 0 c = 0 := by unfold pF; rw [show min 4 (0 - 4 * c) = 0 by omega]; rfl
theorem pF_next (M : List Nat) (k c : Nat) : pF M (k + 1) c = if c = k / 4 then pF M k (k / 4) * 256 + M.getD k 0 else pF M k c := by
  unfold pF
  by_cases e : c = k / 4
  · subst e
    rw [if_pos rfl, show min 4 (k + 1 - 4 * (k / 4)) = min 4 (k - 4 * (k / 4)) + 1 by omega, pw, show 4 * (k / 4) + min 4 (k - 4 * (k / 4)) = k by omega]
  · rw [if_neg e]
    congr 1
    omega
theorem pF_lt {M : List Nat} (h : ∀ x ∈ M, x < 256) (k : Nat) : pF M k (k / 4) < 16777216 := by
  unfold pF
  have h1 := pw_lt h (k / 4) (min 4 (k - 4 * (k / 4)))
  have h2 : 256 ^ min 4 (k - 4 * (k / 4)) ≤ 256 ^ 3 := Nat.pow_le_pow_right (by omega) (by omega)
  omega
theorem wF_stays (m : Nat → Nat) (j : Nat) : ∀ d, wF m (j + 1 + d) j = wF m (j + 1) j
  | 0 => rfl
  | d + 1 => by rw [← Nat.add_assoc, wF_succ, if_neg (by omega), wF_stays m j d]
theorem pF_end (M : List Nat) (c : Nat) : pF M 64 c = wF (fun j => word M (0 + 4 * j)) 16 c := by
  by_cases h : c < 16
  · rw [show 16 = c + 1 + (15 - c) by omega, wF_stays, wF_succ, if_pos rfl, if_pos h]
    unfold pF
    rw [show min 4 (64 - 4 * c) = 4 by omega]
    unfold word
    simp [pw]
  · unfold pF wF
    rw [show min 4 (64 - 4 * c) = 0 by omega, List.getD_eq_getElem?_getD, List.getElem?_eq_none (by rw [sched_len]; omega)]
    rfl
/-- one byte more, by a shift -/
theorem shl_or32 {v x : Nat} (hx : x < 256) : v * 256 ||| x = v * 256 + x := by
  rw [show v * 256 = 2 ^ 8 * v by omega, ← Nat.two_pow_add_eq_or_of_lt (show x < 2 ^ 8 by omega)]
end Sha
