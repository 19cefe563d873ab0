/- More on SHA-256's mathematics: a block as a slice of its own, bytes by shifts. No program is named here. -/
import Derived.Test.YtcgjoidfmigpnaaDoorSha
namespace Sha
theorem sched_congr {m m' : Nat → Nat} (h : ∀ j, j < 16 → m j = m' j) : ∀ n, sched m n = sched m' n
  | 0 => rfl
  | n + 1 => by
    rw [sched, sched, sched_congr h n]
    by_cases hn : n < 16
    · rw [if_pos hn, if_pos hn, h n hn]
    · rw [if_neg hn, if_neg hn]
theorem rnds_congr {m m' : Nat → Nat} (h : ∀ j, j < 16 → m j = m' j) (s : St) : ∀ n, rnds m s n = rnds m' s n
  | 0 => rfl
  | n + 1 => by rw [rnds, rnds, rnds_congr h s n, sched_congr h (n + 1)]
theorem drop_get {M : List Nat} {o n i : Nat} (hi : i < n) : ((M.drop o).take n).getD i 0 = M.getD (o + i) 0 := by
  simp [List.getD_eq_getElem?_getD, hi]
theorem word_drop {M : List Nat} {o j : Nat} (hj : j < 16) : word ((M.drop o).take 64) (0 + 4 * j) = word M (o + 4 * j) := by
  unfold word
  rw [drop_get (by omega), drop_get (by omega), drop_get (by omega), drop_get (by omega)]
  simp only [Nat.zero_add, Nat.add_assoc]
/-- a block that is handed over as a slice of its own -/
theorem block_drop (M : List Nat) (o : Nat) (s : St) : block ((M.drop o).take 64) 0 s = block M o s := by
  unfold block
  rw [rnds_congr (fun j hj => word_drop hj) s 64]
theorem numB4 (x : Nat) : numB x 4 = [x / 16777216 % 256, x / 65536 % 256, x / 256 % 256, x % 256] := by
  unfold numB; simp [List.range_succ]
theorem numB_snoc {v n k : Nat} (hk : k < n) : (numB v n).take (k + 1) = (numB v n).take k ++ [v / 256 ^ (n - 1 - k) % 256] := by
  rw [List.take_succ_eq_append_getElem (by rw [numB_len]; exact hk)]
  unfold numB
  simp
theorem pow256 (k : Nat) : 256 ^ k = 2 ^ (8 * k) := by rw [Nat.pow_mul]
/-- v << 8 | x, in 64 bits -/
theorem shl_or {v x : Nat} (hx : x < 256) : v * 256 % 18446744073709551616 ||| x = (v * 256 + x) % 18446744073709551616 := by
  have h1 : v * 256 % 18446744073709551616 = 2 ^ 8 * (v % 72057594037927936) := by omega
  rw [h1, ← Nat.two_pow_add_eq_or_of_lt (show x < 2 ^ 8 by omega)]
  omega
theorem readB_snoc {l : List Nat} {k : Nat} (hk : k < l.length) : readB (l.take (k + 1)) = (readB (l.take k) * 256 + l[k]) % 18446744073709551616 := by
  unfold readB; rw [List.take_succ_eq_append_getElem hk, List.foldl_append]; rfl
theorem outB_get {s : St} {j i : Nat} (hi : i < 4) : ∀ n, j < n → (outB s n)[4 * j + i]? = (numB (s.get j) 4)[i]?
  | 0, h => absurd h (by omega)
  | n + 1, h => by
    rw [outB]
    by_cases e : j = n
    · subst e
      rw [List.getElem?_append_right (by rw [outB_len]; omega), outB_len, show 4 * j + i - 4 * j = i by omega]
    · rw [List.getElem?_append_left (by rw [outB_len]; omega)]
      exact outB_get hi n (by omega)
end Sha
