/- Objects in stripes, plain. No program is named here. -/
import Derived.Test.YtgbeolepfmihgaaList
namespace St
open Go Go.Mem
/-- how many stripes a size has -/
def cntS (k size : Int) : Int := if k < 1 ∨ size < 1 then 0 else (size - 1) / (8 * k) + 1
theorem cntS_none {k size : Int} (h : k < 1 ∨ size < 1) : cntS k size = 0 := by unfold cntS; rw [if_pos h]
theorem cntS_some {k size : Int} (h1 : 1 ≤ k) (h2 : 1 ≤ size) : cntS k size = (size - 1) / (8 * k) + 1 := by unfold cntS; rw [if_neg (by omega)]
theorem cntS_fits {k size : Int} (h1 : 1 ≤ k) (h2 : 1 ≤ size) : 1 ≤ cntS k size ∧ (cntS k size - 1) * 8 * k < size ∧ size - (cntS k size - 1) * 8 * k ≤ 8 * k ∧ 0 ≤ (cntS k size - 1) * 8 ∧ (cntS k size - 1) * 8 < size ∧ 0 ≤ (cntS k size - 1) * 8 * k := by
  rw [cntS_some h1 h2]
  have h8 : 0 < 8 * k := by omega
  have hq : 0 ≤ (size - 1) / (8 * k) := Int.ediv_nonneg (by omega) (by omega)
  have hm := Int.emod_add_mul_ediv (size - 1) (8 * k)
  have hm0 := Int.emod_nonneg (size - 1) (show 8 * k ≠ 0 by omega)
  have hm1 := Int.emod_lt_of_pos (size - 1) h8
  generalize (size - 1) / (8 * k) = q at *
  generalize (size - 1) % (8 * k) = r at *
  have e : (q + 1 - 1) * 8 * k = 8 * k * q := by rw [Int.add_sub_cancel, Int.mul_assoc, Int.mul_comm]
  rw [e]
  have hle : q * 8 ≤ 8 * k * q := by
    have := Int.mul_le_mul_of_nonneg_right (show (8 : Int) ≤ 8 * k by omega) hq
    rw [Int.mul_comm q 8]
    exact this
  refine ⟨by omega, by omega, by omega, by omega, by omega, by omega⟩
/-- n bytes of x, and zeros behind it -/
def padTo (n : Nat) (x : List Nat) : List Nat := x ++ List.replicate (n - x.length) 0
theorem padTo_len {n : Nat} {x : List Nat} (h : x.length ≤ n) : (padTo n x).length = n := by simp [padTo]; omega
/-- the parts of l, of n bytes each -/
def partsN (n : Nat) : Nat → List Nat → List (List Nat)
  | 0, _ => []
  | f + 1, l => if l = [] then [] else padTo n (l.take n) :: partsN n f (l.drop n)
def splitL (k : Int) (l : List Nat) : List (List Nat) := if k < 1 then [] else partsN (8 * k.toNat) l.length l
theorem parts_len (n : Nat) : ∀ (f : Nat) (l : List Nat), ∀ p ∈ partsN n f l, p.length = n
  | 0, _, p, h => by cases h
  | f + 1, l, p, h => by
    unfold partsN at h
    split at h
    · cases h
    · rcases List.mem_cons.1 h with q | q
      · rw [q, padTo_len (by rw [List.length_take]; omega)]
      · exact parts_len n f _ p q
theorem parts_flat {n : Nat} (hn : 0 < n) : ∀ (f : Nat) (l : List Nat), l.length ≤ f → ∃ z, (partsN n f l).flatten = l ++ List.replicate z 0
  | 0, l, h => ⟨0, by
    have : l = [] := List.length_eq_zero_iff.1 (by omega)
    subst this; rfl⟩
  | f + 1, l, h => by
    unfold partsN
    split
    · rename_i e; exact ⟨0, by rw [e]; rfl⟩
    · rename_i e
      have hl : 0 < l.length := List.length_pos_iff.2 e
      obtain ⟨z, hz⟩ := parts_flat hn f (l.drop n) (by rw [List.length_drop]; omega)
      rw [List.flatten_cons, hz]
      by_cases hs : n ≤ l.length
      · refine ⟨z, ?_⟩
        unfold padTo
        rw [show n - (l.take n).length = 0 by rw [List.length_take]; omega, List.replicate_zero, List.append_nil, ← List.append_assoc, List.take_append_drop]
      · refine ⟨n - l.length + z, ?_⟩
        unfold padTo
        rw [List.drop_of_length_le (by omega), List.nil_append, List.take_of_length_le (by omega), List.append_assoc, List.replicate_append_replicate]
theorem parts_count {n : Nat} (hn : 0 < n) : ∀ (f : Nat) (l : List Nat), l.length ≤ f → (partsN n f l).length = (l.length + (n - 1)) / n
  | 0, l, h => by
    have : l = [] := List.length_eq_zero_iff.1 (by omega)
    subst this
    show 0 = (0 + (n - 1)) / n
    rw [Nat.zero_add, Nat.div_eq_of_lt (by omega)]
  | f + 1, l, h => by
    unfold partsN
    split
    · rename_i e
      subst e
      have : (0 + (n - 1)) / n = 0 := Nat.div_eq_of_lt (by omega)
      simpa using this.symm
    · rename_i e
      have hl : 0 < l.length := List.length_pos_iff.2 e
      have ih := parts_count hn f (l.drop n) (by rw [List.length_drop]; omega)
      rw [List.length_cons, ih, List.length_drop]
      by_cases hs : n ≤ l.length
      · rw [show l.length + (n - 1) = (l.length - n + (n - 1)) + n by omega, Nat.add_div_right _ hn]
      · rw [show l.length - n + (n - 1) = n - 1 by omega, Nat.div_eq_of_lt (show n - 1 < n by omega), show l.length + (n - 1) = (l.length - 1) + n by omega, Nat.add_div_right _ hn, Nat.div_eq_of_lt (show l.length - 1 < n by omega)]
theorem split_len {k : Int} {l : List Nat} {p : List Nat} (h : p ∈ splitL k l) : p.length = 8 * k.toNat := by
  unfold splitL at h
  split at h
  · cases h
  · exact parts_len _ _ _ p h
theorem split_flat {k : Int} (l : List Nat) (h : 1 ≤ k) : ∃ z, (splitL k l).flatten = l ++ List.replicate z 0 := by
  unfold splitL
  rw [if_neg (by omega)]
  exact parts_flat (by omega) _ _ (Nat.le_refl _)
theorem split_count (k : Int) (l : List Nat) : (((splitL k l).length : Nat) : Int) = cntS k l.length := by
  by_cases hk : k < 1
  · rw [cntS_none (.inl hk)]
    unfold splitL
    rw [if_pos hk]
    rfl
  · obtain ⟨K, rfl⟩ := Int.eq_ofNat_of_zero_le (show 0 ≤ k by omega)
    unfold splitL
    rw [if_neg hk, parts_count (by omega) _ _ (Nat.le_refl _), Int.toNat_natCast]
    by_cases hl : (l.length : Int) < 1
    · rw [cntS_none (.inr hl)]
      have : l.length = 0 := by omega
      rw [this, Nat.div_eq_of_lt (by omega)]
      rfl
    · rw [cntS_some (by omega) (by omega)]
      rw [show l.length + (8 * K - 1) = (l.length - 1) + 8 * K by omega, Nat.add_div_right _ (by omega)]
      rw [Int.natCast_add, Int.natCast_ediv]
      congr 2
      omega
def joinOk (M : List (List Nat)) (size : Int) : Bool := decide (0 ≤ size) && decide (size ≤ (M.flatten.length : Int))
def joinL (M : List (List Nat)) (size : Int) : List Nat := if joinOk M size = true then M.flatten.take size.toNat else []
end St
