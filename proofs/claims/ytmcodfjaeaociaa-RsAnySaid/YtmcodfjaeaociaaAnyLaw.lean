/- Law MatAny as a walk: any k rows of a code can be undone. -/
import Derived.Test.YtmcodfjaeaociaaMatLaws
import Derived.Test.YtmcodfjaeaociaaInvMath
namespace Go.Proofs.Ytmcodfjaeaociaa.Mat
open Go.ChangeShapes Go.WideShapes Go.ChangeAt Go.RowKit
open Go.Mem
open GfPlain Gf GfLin
/-- all lists of k rows of these, in their order -/
def subs : Nat → List (List Nat) → List (List (List Nat))
  | 0, _ => [[]]
  | _ + 1, [] => []
  | k + 1, x :: xs => (subs k xs).map (x :: ·) ++ subs (k + 1) xs
theorem subs_skip (y : List Nat) : ∀ {k : Nat} {xs l : List (List Nat)}, l ∈ subs k xs → l ∈ subs k (xs ++ [y])
  | 0, xs, l, h => by cases xs <;> exact h
  | k + 1, [], l, h => by cases h
  | k + 1, x :: xs, l, h => by
    rw [subs, List.mem_append] at h
    show l ∈ subs (k + 1) (x :: (xs ++ [y]))
    rw [subs, List.mem_append]
    rcases h with h | h
    · left
      obtain ⟨l', h', rfl⟩ := List.mem_map.1 h
      exact List.mem_map.2 ⟨l', subs_skip y h', rfl⟩
    · right; exact subs_skip y h
theorem subs_take (y : List Nat) : ∀ {k : Nat} {xs l : List (List Nat)}, l ∈ subs k xs → l ++ [y] ∈ subs (k + 1) (xs ++ [y])
  | 0, [], l, h => by
    have : l = [] := by simpa [subs] using h
    subst this; simp [subs]
  | 0, x :: xs, l, h => by
    have : l = [] := by simpa [subs] using h
    subst this
    show [] ++ [y] ∈ subs 1 (x :: (xs ++ [y]))
    rw [subs, List.mem_append]; right
    exact subs_take y (k := 0) (xs := xs) (l := []) (by simp [subs])
  | k + 1, [], l, h => by cases h
  | k + 1, x :: xs, l, h => by
    rw [subs, List.mem_append] at h
    show l ++ [y] ∈ subs (k + 2) (x :: (xs ++ [y]))
    rw [subs, List.mem_append]
    rcases h with h | h
    · left
      obtain ⟨l', h', rfl⟩ := List.mem_map.1 h
      exact List.mem_map.2 ⟨l' ++ [y], subs_take y h', rfl⟩
    · right; exact subs_take y h
theorem subs_len : ∀ {k : Nat} {xs l : List (List Nat)}, l ∈ subs k xs → l.length = k
  | 0, xs, l, h => by
    have : l = [] := by cases xs <;> simpa [subs] using h
    subst this; rfl
  | k + 1, [], l, h => by cases h
  | k + 1, x :: xs, l, h => by
    rw [subs, List.mem_append] at h
    rcases h with h | h
    · obtain ⟨l', h', rfl⟩ := List.mem_map.1 h
      rw [List.length_cons, subs_len h']
    · exact subs_len h
theorem subs_mem : ∀ {k : Nat} {xs l : List (List Nat)}, l ∈ subs k xs → ∀ r ∈ l, r ∈ xs
  | 0, xs, l, h, r, hr => by
    have : l = [] := by cases xs <;> simpa [subs] using h
    subst this; cases hr
  | k + 1, [], l, h, r, hr => by cases h
  | k + 1, x :: xs, l, h, r, hr => by
    rw [subs, List.mem_append] at h
    rcases h with h | h
    · obtain ⟨l', h', rfl⟩ := List.mem_map.1 h
      rcases List.mem_cons.1 hr with e | e
      · exact List.mem_cons.2 (.inl e)
      · exact List.mem_cons.2 (.inr (subs_mem h' r e))
    · exact List.mem_cons.2 (.inr (subs_mem h r hr))
/-- any k rows of a code of k and m have a determinant -/
def codesOk : Bool := allLt (fun k => allLt (fun m => (subs (k + 1) (codeT (k + 1) m)).all (fun l => !Nat.beq (detM l).val 0)) 4) 4
set_option maxRecDepth 100000 in
theorem codes_ok : codesOk = true := by decide +kernel
theorem code_det {K M : Nat} (hK0 : 1 ≤ K) (hK : K ≤ 4) (hM : M ≤ 3) {l : List (List Nat)} (h : l ∈ subs K (codeT K M)) : detM l ≠ g0 := by
  have h1 := allLt_spec (allLt_spec codes_ok (K - 1) (by omega)) M (by omega)
  rw [show K - 1 + 1 = K by omega, List.all_eq_true] at h1
  have h2 := h1 l h
  intro e
  rw [e] at h2
  cases h2
theorem Bytes.since {w0 w : World} {v : Value} {l : List Nat} {r : Option Nat} (h : Bytes w0 v l) (hb : Below w0.heap.size w0 w) (hr : ∀ g, r = some g → w0.heap.size ≤ g) : ∀ w', w.grownBy w' r → Bytes w' v l :=
  fun _ hg => h.below (hb.grown hg hb.size hr)
theorem codeT_len (K M : Nat) : (codeT K M).length = K + M := by simp [codeT, unitT, tabOf_len]
end Go.Proofs.Ytmcodfjaeaociaa.Mat
