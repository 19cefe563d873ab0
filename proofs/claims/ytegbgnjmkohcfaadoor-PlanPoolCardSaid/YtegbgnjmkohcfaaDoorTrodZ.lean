/- An argument []int as the statements read it, in this place's words. No program is named here. -/
import Derived.Test.YtegbgnjmkohcfaaDoorTrod
import Derived.Test.YtegbgnjmkohcfaaDoorRecD
namespace Go.Mem
open Go.RowKit Go.WideShapes Go.ChangeShapes
variable {H : Type} {enc : TypeId × Value → H} {P : Program} {w : World} {held : Bool}
theorem ints_of {t e : TypeId} {v : Value} {d : DataW H} {ps : List MemPlace} (ht : P.underlying t = some (.slice e)) (he : P.underlying e = some (.int .i64)) (hc : P.cellsOf e = 1)
    (hv : ∃ A n C, v = .slice A n C) (h : DataW.Trod enc P w 0 (fun _ => true) held t v d ps) : ∃ l, Ints w v l := by
  obtain ⟨A0, n0, C0, rfl⟩ := hv
  obtain ⟨fuel, hf⟩ := h
  rcases open_ints ht he hc hf with ⟨h1, _⟩ | ⟨a, len, cap, zs, h1, _, hl, hm, hz, _, hcell, hwf⟩
  · have h1' : [Value.slice A0 n0 C0] = [.slice none 0 0] := h1
    cases h1'
    exact ⟨[], Ints.nil _⟩
  · have h1' : [Value.slice A0 n0 C0] = [.slice (some a) len cap] := h1
    cases h1'
    simp only [if_true] at hz
    refine ⟨zs.take n0, slice_make (by simp; omega) hl hm fun i hi => ?_⟩
    have hi' : i < n0 := by simp at hi; omega
    have hiz : i < zs.length := by omega
    refine ⟨_, hcell i hiz, ?_⟩
    rw [List.getElem_take]
    exact ⟨by simp [List.getD, hiz], bounds_i64 (hwf _ (List.getElem_mem hiz))⟩
end Go.Mem
