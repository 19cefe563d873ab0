/- What shards are of data, and data of shards: the lists alone. No walk. -/
import Derived.Test.YtmcodfjaeaociaaRsMath
namespace Go.Proofs.Ytmcodfjaeaociaa.Rs
open Go.RowKit Go.Shelf
open Go.Mem Mat
open GfPlain Gf GfLin
theorem rowsAt_len (T : List (List Nat)) (I : List Nat) : (rowsAt T I).length = I.length := by simp [rowsAt]
theorem rowsAt_times {T D : List (List Nat)} {I : List Nat} (hI : ∀ i ∈ I, i < T.length) : rowsAt (times T D) I = times (rowsAt T I) D := by
  apply List.ext_getElem
  · rw [rowsAt_len, times_len, rowsAt_len]
  · intro j h1 h2
    have hj : j < I.length := by rw [rowsAt_len] at h1; exact h1
    have hi := hI I[j] (List.getElem_mem hj)
    unfold rowsAt times tabOf
    simp [hi, prodF, hj]
theorem cat_take (K : Nat) (d : List Nat) (hlen : d.length = 8 * K) : ∀ k, k ≤ K → catTo (partsOf K d) k = d.take (8 * k)
  | 0, _ => by simp [catTo]
  | k + 1, h => by
    rw [catTo, cat_take K d hlen k (by omega), partsOf_get (by omega), Nat.mul_add, Nat.mul_one, List.take_add]
theorem cat_parts {K : Nat} {d : List Nat} (hlen : d.length = 8 * K) : catTo (partsOf K d) K = d := by
  rw [cat_take K d hlen K (Nat.le_refl _)]
  exact List.take_of_length_le (by omega)
theorem cat_len {D : List (List Nat)} (hr : ∀ r ∈ D, r.length = 8) (k : Nat) (hk : k ≤ D.length) : (catTo D k).length = 8 * k := by
  rw [catTo_len, lens_rows k hk hr, Nat.mul_comm]
theorem part_cat {D : List (List Nat)} (hr : ∀ r ∈ D, r.length = 8) {i : Nat} : ∀ k, k ≤ D.length → i < k → ((catTo D k).drop (8 * i)).take 8 = D.getD i []
  | 0, _, h => absurd h (by omega)
  | k + 1, hk, hi => by
    have hc := cat_len hr k (by omega)
    have hm : (D.getD k []).length = 8 := hr _ (by rw [List.getD_eq_getElem?_getD, List.getElem?_eq_getElem (by omega)]; exact List.getElem_mem _)
    rw [catTo]
    by_cases h : i < k
    · rw [List.drop_append_of_le_length (by omega), List.take_append_of_le_length (by rw [List.length_drop]; omega)]
      exact part_cat hr k (by omega) h
    · obtain rfl : i = k := by omega
      rw [← hc, List.drop_left, List.take_of_length_le (by omega)]
theorem parts_cat {D : List (List Nat)} {K : Nat} (hl : D.length = K) (hr : ∀ r ∈ D, r.length = 8) : partsOf K (catTo D K) = D := by
  subst hl
  apply List.ext_getElem
  · rw [partsOf_len]
  · intro i h1 h2
    have := part_cat hr (i := i) D.length (Nat.le_refl _) h2
    simpa [partsOf, h2] using this
theorem byt_codeT (K M : Nat) : Byt (codeT K M) := by
  intro r hr x hx
  unfold codeT unitT tabOf at hr
  rcases List.mem_append.1 hr with h | h
  · obtain ⟨i, _, rfl⟩ := List.mem_map.1 h
    obtain ⟨j, _, rfl⟩ := List.mem_map.1 hx
    unfold unitF; split <;> omega
  · obtain ⟨i, _, rfl⟩ := List.mem_map.1 h
    obtain ⟨j, _, rfl⟩ := List.mem_map.1 hx
    exact codeF_bd _ _ _
theorem byt_rowsAt {T : List (List Nat)} (h : Byt T) (I : List Nat) : Byt (rowsAt T I) := by
  intro r hr x hx
  obtain ⟨i, _, rfl⟩ := List.mem_map.1 hr
  by_cases hi : i < T.length
  · refine h (T.getD i []) ?_ x hx
    rw [List.getD_eq_getElem?_getD, List.getElem?_eq_getElem hi]; exact List.getElem_mem _
  · rw [List.getD_eq_getElem?_getD, List.getElem?_eq_none (by omega)] at hx
    simp at hx
theorem byt_parts {K : Nat} {d : List Nat} (h : ∀ x ∈ d, x < 256) : Byt (partsOf K d) := by
  intro r hr x hx
  obtain ⟨i, _, rfl⟩ := List.mem_map.1 hr
  exact h x (List.mem_of_mem_drop (List.mem_of_mem_take hx))
/-- what undoes a table is one table -/
theorem undoes_one {R B B' : List (List Nat)} {K : Nat} (hK : 0 < K) (hl : R.length = K) (hr : ∀ r ∈ R, r.length = K) (hb : Byt R) (h : Undoes R B K) (h' : Undoes R B' K) : B = B' := by
  have fB := fit_of (by rw [h.len]; exact hK) h.rows
  have fB' := fit_of (by rw [h'.len]; exact hK) h'.rows
  have fR := fit_of (by rw [hl]; exact hK) hr
  have e1 := times_one h.byt fB.1
  have e2 := times_one h'.byt fB'.1
  rw [h.len, ← h'.left, times_assoc h'.byt hb h.byt (by omega) (by rw [fR.2, h.len]), h.right, ← h'.right, ← times_assoc h'.byt hb h'.byt (by omega) (by rw [fR.2, h'.len]), h'.left] at e1
  rw [h'.len] at e2
  exact e1.symm.trans e2
/-- data whose shards are these -/
theorem dec_enc {K M : Nat} {S : List (List Nat)} {B : List (List Nat)} (hK0 : 1 ≤ K) (hS : Byt S) (hlen : S.length = K + M) (hra : ∀ i ∈ firstK S K, (S.getD i []).length = 8) (h : K ≤ (idx S S.length).length) (hu : Undoes (rowsAt (codeT K M) (firstK S K)) B K) :
    (catTo (times B (rowsAt S (firstK S K))) K).length = 8 * K ∧ ∀ i ∈ firstK S K, (encT K M (catTo (times B (rowsAt S (firstK S K))) K)).getD i [] = S.getD i [] := by
  have hI := first_len h
  have hHr : ∀ r ∈ rowsAt S (firstK S K), r.length = 8 := fun r hr => by
    obtain ⟨i, hi, rfl⟩ := List.mem_map.1 hr
    exact hra i hi
  have hHl : (rowsAt S (firstK S K)).length = K := by rw [rowsAt_len, hI]
  have fH := fit_of (by omega) hHr
  have hRl : (rowsAt (codeT K M) (firstK S K)).length = K := by rw [rowsAt_len, hI]
  have hlt : ∀ i ∈ firstK S K, i < (codeT K M).length := fun i hi => by rw [codeT_len]; have := (first_mem hi).1; omega
  have hRr : ∀ r ∈ rowsAt (codeT K M) (firstK S K), r.length = K := fun r hr => by
    obtain ⟨i, hi, rfl⟩ := List.mem_map.1 hr
    exact codeT_rows _ (by rw [List.getD_eq_getElem?_getD, List.getElem?_eq_getElem (hlt i hi)]; exact List.getElem_mem _)
  have hDl : (times B (rowsAt S (firstK S K))).length = K := by rw [times_len, hu.len]
  have hDr : ∀ r ∈ times B (rowsAt S (firstK S K)), r.length = 8 := fun r hr => (times_rows r hr).trans fH.2
  refine ⟨cat_len hDr K (by omega), fun i hi => ?_⟩
  have e : rowsAt (encT K M (catTo (times B (rowsAt S (firstK S K))) K)) (firstK S K) = rowsAt S (firstK S K) := by
    unfold encT
    have fB := fit_of (by rw [hu.len]; exact hK0) hu.rows
    rw [parts_cat hDl hDr, rowsAt_times hlt, ← times_assoc (byt_rowsAt (byt_codeT K M) _) hu.byt (byt_rowsAt hS _) (by rw [hu.len]; exact hK0) (by rw [fB.2, hHl]), hu.right]
    have := times_one (byt_rowsAt hS (firstK S K)) fH.1
    rwa [hHl] at this
  obtain ⟨j, hj, rfl⟩ := List.getElem_of_mem hi
  have := congrArg (fun l : List (List Nat) => l.getD j []) e
  simpa [rowsAt, hj] using this
/-- the data of shards of data -/
theorem enc_dec {K M : Nat} {S B : List (List Nat)} {d : List Nat} (hK0 : 1 ≤ K) (hd : ∀ x ∈ d, x < 256) (hlen : d.length = 8 * K) (hS : S.length = K + M) (hrows : ∀ i ∈ firstK S K, S.getD i [] = (encT K M d).getD i []) (h : K ≤ (idx S S.length).length) (hu : Undoes (rowsAt (codeT K M) (firstK S K)) B K) :
    catTo (times B (rowsAt S (firstK S K))) K = d := by
  have hI := first_len h
  have hlt : ∀ i ∈ firstK S K, i < (codeT K M).length := fun i hi => by rw [codeT_len]; have := (first_mem hi).1; omega
  have e1 : rowsAt S (firstK S K) = rowsAt (encT K M d) (firstK S K) := by
    unfold rowsAt
    exact List.map_congr_left hrows
  have hRl : (rowsAt (codeT K M) (firstK S K)).length = K := by rw [rowsAt_len, hI]
  have hRr : ∀ r ∈ rowsAt (codeT K M) (firstK S K), r.length = K := fun r hr => by
    obtain ⟨i, hi, rfl⟩ := List.mem_map.1 hr
    exact codeT_rows _ (by rw [List.getD_eq_getElem?_getD, List.getElem?_eq_getElem (hlt i hi)]; exact List.getElem_mem _)
  have fR := fit_of (by omega) hRr
  have fP := fit_parts (K := K) (d := d) hK0 hlen
  rw [e1]
  unfold encT
  rw [rowsAt_times hlt, ← times_assoc hu.byt (byt_rowsAt (byt_codeT K M) _) (byt_parts hd) (by omega) (by rw [fR.2, partsOf_len]), hu.left]
  have := times_one (byt_parts (K := K) hd) fP.1
  rw [partsOf_len] at this
  rw [this, cat_parts hlen]
end Go.Proofs.Ytmcodfjaeaociaa.Rs
