/- What mat.filled returns: whether rows are a table that has any. -/
import Derived.Test.YtmcodfjaeaociaaMatSmall
namespace Go.Proofs.Ytmcodfjaeaociaa.Mat
open Go.ChangeShapes Go.WideShapes Go.ChangeAt Go.RowKit
open Go.Mem
set_option maxHeartbeats 400000 in
theorem filledFn (l : List Nat) (v : Value) (p : Addr) (n : Nat) (w : World) (h : Bytes w v l) (hp : w.cell? p = some (.int .i64 n)) :
    Calls Try.prog 41 #[v, .pointer (some p)] w fun e w' => e = .returned (.bool ((l.length : Int) == (n : Int))) ∧ w = w' := by
  obtain ⟨A, C, rfl, h1, h2, _⟩ := h.shape
  go_enter Try.func41, Try.ntmps41
  go_wp2
  go_ret
  exact ⟨rfl, rfl⟩
def Wide (M : List (List Nat)) (n k : Nat) : Prop := ∀ i (h : i < M.length), i < k → M[i].length = n
theorem Wide.succ {M : List (List Nat)} {n k : Nat} (h : Wide M n k) (hk : k < M.length) (h1 : M[k].length = n) : Wide M n (k + 1) := fun i hi hlt => by
  by_cases e : i = k
  · subst e; exact h1
  · exact h i hi (by omega)
def wideB (M : List (List Nat)) (n : Nat) : Bool := M.all (fun r => r.length == n)
theorem wideB_yes {M : List (List Nat)} {n : Nat} (h : Wide M n M.length) : wideB M n = true := by
  unfold wideB
  rw [List.all_eq_true]
  intro r hr
  obtain ⟨i, hi, rfl⟩ := List.mem_iff_getElem.1 hr
  rw [h i hi hi]; exact beq_self_eq_true _
theorem wideB_no {M : List (List Nat)} {n k : Nat} (hk : k < M.length) (h : ¬ M[k].length = n) : wideB M n = false := by
  unfold wideB
  rw [List.all_eq_false]
  exact ⟨M[k], List.getElem_mem hk, by simpa using h⟩
set_option maxHeartbeats 400000 in
theorem allC (M : List (List Nat)) (v : Value) (p : Addr) (n : Nat) (w : World) (h : Tab w v M) (hp : w.cell? p = some (.int .i64 n)) :
    Calls Try.prog 40 #[v, .func (.func 41) #[] #[.pointer (some p)]] w fun e w' => e = .returned (.bool (wideB M n)) ∧ w = w' := by
  obtain ⟨A, C, rfl, h1, h2, _⟩ := h.shape
  go_enter Try.func40, Try.ntmps40
  go_wp2
  go_loop [9] (fun c => ∃ k : Nat, k ≤ M.length ∧ Wide M n k ∧ c = .int .i64 k) (fun c => M.length - (intOf c).toNat)
  case atStart => exact ⟨0, Nat.zero_le _, fun i _ hi => absurd hi (by omega), rfl⟩
  case round =>
    obtain ⟨k, hk, hu, rfl⟩ := hrel
    by_cases hlt : k < M.length
    · obtain ⟨b, o, A', C', rfl, hc, hm, hb⟩ := h.at hlt
      by_cases hr : M[k].length = n
      · have HU := Lib.hid (hu.succ hlt hr)
        have hq : ((M[k].length : Int) == (n : Int)) = true := by rw [hr]; simp
        clear hr
        go_wp2_with (go_at_call 41; refine (filledFn M[k] _ p n _ hb hp).mono ?_; rintro e w' ⟨rfl, rfl⟩)
        go_round
        case rel => exact ⟨k + 1, by omega, HU.out, by go_num⟩
        case measure => simp [intOf]; omega
      · have HN := Lib.hid (wideB_no hlt hr)
        have hq : ((M[k].length : Int) == (n : Int)) = false := by rw [beq_eq_false_iff_ne]; omega
        clear hr
        go_wp2_with (go_at_call 41; refine (filledFn M[k] _ p n _ hb hp).mono ?_; rintro e w' ⟨rfl, rfl⟩)
        go_ret
        exact ⟨ret_bool HN.out.symm, rfl⟩
    · obtain rfl : k = M.length := by omega
      have HY := Lib.hid (wideB_yes hu)
      go_wp2
      go_ret
      exact ⟨ret_bool HY.out.symm, rfl⟩
theorem wideB_fit {M : List (List Nat)} (h : 0 < M.length) : wideB M (width M) = fitB M := by
  unfold wideB fitB
  have : M.isEmpty = false := by cases M <;> simp at h ⊢
  rw [this, Bool.not_false, Bool.true_and]
set_option maxHeartbeats 400000 in
theorem filledC (M : List (List Nat)) (v : Value) (w : World) (h : Tab w v M) :
    Calls Try.prog 29 #[v] w fun e w' => e = .returned (.bool (fitB M)) ∧ Below w.heap.size w w' := by
  obtain ⟨A, C, rfl, h1, h2, _⟩ := h.shape
  by_cases h0 : 0 < M.length
  · have he : ((M.length : Int) == 0) = false := by rw [beq_eq_false_iff_ne]; omega
    have hpos : (0 : Int) < M.length := by omega
    obtain ⟨b, o, A', C', rfl, hc, hm, hb⟩ := h.at h0
    rw [← width_get h0] at hc hm
    rw [Nat.add_zero] at hc
    have HF := Lib.hid (wideB_fit h0)
    go_enter Try.func29, Try.ntmps29
    go_wp2_with (go_at_call 40; refine (allC M _ _ (width M) _ (h.below ((Below.refl _ _).alloc (Nat.le_refl _) _)) (by simp)).mono ?_; rintro e w' ⟨rfl, rfl⟩)
    go_ret
    exact ⟨ret_bool HF.out, (Below.refl _ _).alloc (Nat.le_refl _) _⟩
  · have he : ((M.length : Int) == 0) = true := by rw [beq_iff_eq]; omega
    have HF := Lib.hid (show fitB M = false by rw [List.length_eq_zero_iff.1 (show M.length = 0 by omega)]; rfl)
    go_enter Try.func29, Try.ntmps29
    go_wp2
    go_ret
    exact ⟨ret_bool HF.out.symm, Below.refl _ _⟩
end Go.Proofs.Ytmcodfjaeaociaa.Mat
