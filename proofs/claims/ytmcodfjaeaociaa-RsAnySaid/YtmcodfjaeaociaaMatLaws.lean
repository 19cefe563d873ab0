/- The laws of layer 2, as walks. -/
import Derived.Test.YtmcodfjaeaociaaInvert
import Derived.Test.YtmcodfjaeaociaaTrod
namespace Go.Proofs.Ytmcodfjaeaociaa.Mat
open Go.ChangeShapes Go.WideShapes Go.ChangeAt Go.RowKit
open Go.Mem
open GfPlain Gf
theorem Tab_one {w : World} {v1 : Value} {l1 : List Nat} (t : Nat) (h1 : Bytes w v1 l1) : Tab (w.alloc (.cells #[v1] t)) (.slice (some ⟨w.heap.size, 0, none⟩) 1 1) [l1] := by
  have hal : Below w.heap.size w (w.alloc (.cells #[v1] t)) := (Below.refl _ _).alloc (Nat.le_refl _) _
  refine ⟨some ⟨w.heap.size, 0, none⟩, 1, 1, rfl, rfl, Nat.le_refl _, by unfold maxLen; omega, (fun e => by cases e), fun i hi => ?_⟩
  match i, hi with
  | 0, _ => exact ⟨w.heap.size, 0, v1, rfl, by simp, h1.below hal⟩
theorem Bytes_one (w : World) (t x : Nat) (hx : x < 256) : Bytes (w.alloc (.cells #[.int .u8 (x : Nat)] t)) (.slice (some ⟨w.heap.size, 0, none⟩) 1 1) [x] := by
  refine ⟨some ⟨w.heap.size, 0, none⟩, 1, 1, rfl, rfl, Nat.le_refl _, by unfold maxLen; omega, (fun e => by cases e), fun i hi => ?_⟩
  match i, hi with
  | 0, _ => exact ⟨w.heap.size, 0, _, rfl, by simp, rfl, hx⟩
/-- a table of one byte, as a literal lays it -/
theorem Tab_byte (w : World) (t t' x : Nat) (hx : x < 256) : Tab ((w.alloc (.cells #[.int .u8 (x : Nat)] t)).alloc (.cells #[.slice (some ⟨w.heap.size, 0, none⟩) 1 1] t')) (.slice (some ⟨w.heap.size + 1, 0, none⟩) 1 1) [[x]] := by
  have := Tab_one t' (Bytes_one w t x hx)
  simpa using this
theorem answer_code : (codeT 1 1).length = 2 := by decide +kernel
theorem answer_times : times [[2]] [[128]] = [[29]] := by decide +kernel
theorem answer_invert {e : Ending} {w : World} (h : InvPost [[1]] e w) : ∃ v M, e = .returned (.tuple #[v, .int .i64 0]) ∧ Tab w v M ∧ M.length = 1 := by
  rcases h with ⟨_, q, F, hq, hR, hz⟩ | ⟨v, F, he, _, ht⟩
  · exfalso
    have hq0 : q = 0 := by simp at hq; omega
    subst hq0
    cases hR
    have := hz 0 (Nat.le_refl _) (by simp)
    revert this
    decide +kernel
  · exact ⟨v, _, he, ht, by rw [tabOf_len]; rfl⟩
def okT (a b : List (List Nat)) : Bool := smallB a && smallB b
theorem small_len {M : List (List Nat)} (h : smallB M = true) : M.length ≤ 12 ∧ width M ≤ 12 := by
  unfold smallB at h
  rw [Bool.and_eq_true, decide_eq_true_eq, List.all_eq_true] at h
  refine ⟨h.1, ?_⟩
  by_cases h0 : 0 < M.length
  · rw [width_get h0]
    have := h.2 M[0] (List.getElem_mem h0)
    simpa using this
  · have : M = [] := List.length_eq_zero_iff.1 (by omega)
    subst this; simp [width]
end Go.Proofs.Ytmcodfjaeaociaa.Mat
