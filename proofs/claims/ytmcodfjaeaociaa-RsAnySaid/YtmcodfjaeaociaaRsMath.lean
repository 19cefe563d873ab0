/- What rs.Decode reckons: the rows of the first k shards that are there, undone. No walk. -/
import Derived.Test.YtmcodfjaeaociaaRsEnc
import Derived.Test.YtmcodfjaeaociaaAnyLaw
import Derived.Test.YtmcodfjaeaociaaUnitLaw
namespace Go.Proofs.Ytmcodfjaeaociaa.Rs
open Go.RowKit Go.Shelf
open Go.Mem Mat
open GfPlain Gf GfLin
/-- the rows of these places -/
def rowsAt (T : List (List Nat)) (I : List Nat) : List (List Nat) := I.map fun i => T.getD i []
/-- the places of the first k shards that are there -/
def firstK (S : List (List Nat)) (K : Nat) : List Nat := (idx S S.length).take K
theorem idx_cut (S : List (List Nat)) (K : Nat) : ∀ n, K ≤ (idx S n).length → ∃ k, k ≤ n ∧ (idx S n).take K = idx S k
  | 0, h => ⟨0, Nat.le_refl _, by unfold idx; simp⟩
  | n + 1, h => by
    by_cases hz : 0 < (S.getD n []).length
    · rw [idx_hit hz] at h ⊢
      by_cases h1 : K ≤ (idx S n).length
      · obtain ⟨k, hk, e⟩ := idx_cut S K n h1
        exact ⟨k, by omega, by rw [List.take_append_of_le_length h1]; exact e⟩
      · refine ⟨n + 1, Nat.le_refl _, ?_⟩
        rw [idx_hit hz]
        exact List.take_of_length_le (by simp at h ⊢; omega)
    · rw [idx_miss (by omega)] at h ⊢
      obtain ⟨k, hk, e⟩ := idx_cut S K n h
      exact ⟨k, by omega, e⟩
theorem subs_idx (T S : List (List Nat)) : ∀ k, k ≤ T.length → rowsAt T (idx S k) ∈ subs (idx S k).length (T.take k)
  | 0, _ => by unfold idx rowsAt; simp [subs]
  | k + 1, h => by
    have ih := subs_idx T S k (by omega)
    have ht : T.take (k + 1) = T.take k ++ [T.getD k []] := by
      rw [List.take_succ_eq_append_getElem (by omega)]; simp [show k < T.length by omega]
    rw [ht]
    by_cases hz : 0 < (S.getD k []).length
    · rw [idx_hit hz]
      have := subs_take (T.getD k []) ih
      simpa [rowsAt] using this
    · rw [idx_miss (by omega)]
      exact subs_skip _ ih
theorem subs_more {k : Nat} {xs l : List (List Nat)} (h : l ∈ subs k xs) : ∀ ys, l ∈ subs k (xs ++ ys) := by
  intro ys
  induction ys generalizing xs with
  | nil => rw [List.append_nil]; exact h
  | cons y ys ih =>
    rw [show xs ++ y :: ys = (xs ++ [y]) ++ ys by simp]
    exact ih (subs_skip y h)
theorem first_subs {T S : List (List Nat)} {K : Nat} (hl : S.length ≤ T.length) (h : K ≤ (idx S S.length).length) : rowsAt T (firstK S K) ∈ subs K T := by
  obtain ⟨k, hk, e⟩ := idx_cut S K S.length h
  have hK : (idx S k).length = K := by rw [← e, List.length_take]; omega
  unfold firstK
  rw [e]
  have := subs_more (subs_idx T S k (by omega)) (T.drop k)
  rw [List.take_append_drop, hK] at this
  exact this
theorem mem_idx {S : List (List Nat)} {k i : Nat} (h : i ∈ idx S k) : i < k ∧ 0 < (S.getD i []).length := by
  unfold idx at h
  have := List.mem_filter.1 h
  exact ⟨List.mem_range.1 this.1, by simpa using this.2⟩
theorem first_mem {S : List (List Nat)} {K i : Nat} (h : i ∈ firstK S K) : i < S.length ∧ 0 < (S.getD i []).length := mem_idx (List.mem_of_mem_take h)
theorem first_len {S : List (List Nat)} {K : Nat} (h : K ≤ (idx S S.length).length) : (firstK S K).length = K := by unfold firstK; rw [List.length_take]; omega
/-- B undoes the table a of n rows -/
structure Undoes (a B : List (List Nat)) (n : Nat) : Prop where
  len : B.length = n
  rows : ∀ r ∈ B, r.length = n
  byt : Byt B
  left : times B a = unitT n
  right : times a B = unitT n
theorem undoes {R : List (List Nat)} {K : Nat} (hK : 0 < K) (hl : R.length = K) (hr : ∀ r ∈ R, r.length = K) (hb : Byt R) {F : Nat → Nat → Nat} (h : Mat.Reach R.length (F0 R) R.length F) : Undoes R (tabOf R.length R.length (fun j i => F j (R.length + i))) K := by
  subst hl
  have hsq : ∀ r, r < R.length → (R.getD r []).length = R.length := fun r hr' => by rw [show R.getD r [] = R[r] by simp [hr']]; exact hr _ (List.getElem_mem hr')
  obtain ⟨_, hbF, hleft, hright⟩ := inv_done hb hsq h
  have hbB : Byt (tabOf R.length R.length (fun j i => F j (R.length + i))) := byt_tab fun r _ c _ => hbF r _
  have hw : width R = R.length := by rw [width_get hK]; exact hr _ (List.getElem_mem hK)
  refine ⟨tabOf_len _ _ _, fun r hr' => ?_, hbB, times_unit hbB hb (tabOf_len _ _ _) hw rfl (fun r hr' c hc => ?_), times_unit hb hbB rfl (width_tab hK) (tabOf_len _ _ _) (fun r hr' c hc => ?_)⟩
  · obtain ⟨i, _, rfl⟩ := List.mem_map.1 hr'; simp
  · rw [← hleft r hr' c hc]
    exact S_congr fun i hi => by rw [entry_tab hr' hi]
  · rw [← hright r hr' c hc]
    exact S_congr fun i hi => by rw [entry_tab hi hc]
theorem idx_more (S : List (List Nat)) (k : Nat) : ∀ d, ∃ t, idx S (k + d) = idx S k ++ t
  | 0 => ⟨[], by simp⟩
  | d + 1 => by
    obtain ⟨t, e⟩ := idx_more S k d
    by_cases hz : 0 < (S.getD (k + d) []).length
    · exact ⟨t ++ [k + d], by rw [← Nat.add_assoc, idx_hit hz, e, List.append_assoc]⟩
    · exact ⟨t, by rw [← Nat.add_assoc, idx_miss (by omega), e]⟩
theorem first_split {S : List (List Nat)} {K k x : Nat} {l : List Nat} (hk : k ≤ S.length) (h : idx S k = l ++ [x]) (hl : l.length = K) : K ≤ (idx S S.length).length ∧ l = firstK S K := by
  obtain ⟨t, e⟩ := idx_more S k (S.length - k)
  rw [show k + (S.length - k) = S.length by omega, h] at e
  unfold firstK
  rw [e]
  subst hl
  exact ⟨by simp, by simp⟩
theorem lens_rows {M : List (List Nat)} {c : Nat} : ∀ k, k ≤ M.length → (∀ r ∈ M, r.length = c) → lensTo M k = k * c
  | 0, _, _ => by simp [lensTo]
  | k + 1, hk, h => by
    have hm : (M.getD k []).length = c := h _ (by rw [List.getD_eq_getElem?_getD, List.getElem?_eq_getElem (by omega)]; exact List.getElem_mem _)
    rw [lensTo, lens_rows k (by omega) h, hm, Nat.add_mul, Nat.one_mul]
theorem times_rows {a b : List (List Nat)} : ∀ r ∈ times a b, r.length = width b := by
  intro r hr
  obtain ⟨i, _, rfl⟩ := List.mem_map.1 hr
  simp
end Go.Proofs.Ytmcodfjaeaociaa.Rs
