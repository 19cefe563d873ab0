/- What the laws share: how long small steps' text is. -/
import Derived.Test.YtegnheonncoodaaDoorScTxt
import Derived.Test.YtegnheonncoodaaDoorScSm
import Derived.Test.YtegnheonncoodaaDoorScAns
namespace Go.Proofs.YtegnheonncoodaaDoor.Scr
set_option linter.unusedVariables false
open Go.ChangeShapes Go.WideShapes Go.ChangeAt Go.RowKit
open Go.Mem Sc
theorem hexL_ln (l : List UInt8) : (hexL l).length = 2 * l.length := by
  unfold hexL
  induction l with
  | nil => rfl
  | cons c r ih => rw [List.flatMap_cons, List.length_append, ih]; simp [hex2]; omega
theorem lineOf_le {x : SD} (h : x.Ok) (hs : x.key.length + x.data.length ≤ 300) : (lineOf x).length ≤ 700 := by
  have h1 := itoa_len x.kind h.k
  have h2 := itoa_len x.a h.a
  have h3 := dec_len x.keep h.p
  unfold lineOf dig
  simp only [List.length_append, List.length_cons, List.length_nil, hexL_ln]
  omega
theorem textOf_small : ∀ (L : List SD), (∀ x ∈ L, x.Ok ∧ x.key.length + x.data.length ≤ 300) → (textOf L).length ≤ 700 * L.length
  | [], _ => Nat.le_refl _
  | x :: r, h => by
    have h1 := lineOf_le (h x (List.mem_cons_self ..)).1 (h x (List.mem_cons_self ..)).2
    have h2 := textOf_small r (fun y hy => h y (List.mem_cons_of_mem _ hy))
    unfold textOf at h2 ⊢
    rw [List.flatMap_cons, List.length_append, List.length_cons]
    omega
theorem Steps.ok {w : World} {v : Value} {L : List SD} (h : Steps w v L) : ∀ x ∈ L, x.Ok := fun x hx => by
  obtain ⟨A, C, rfl, _⟩ := h.shape
  obtain ⟨i, hi, rfl⟩ := List.mem_iff_getElem.1 hx
  obtain ⟨_, _, _, _, _, _, _, _, _, _, _, ok⟩ := h.at hi
  exact ok
theorem SmallL.mem {L : List SD} (h : SmallL L) : ∀ x ∈ L, x.key.length + x.data.length ≤ 300 := fun x hx => by
  obtain ⟨i, hi, rfl⟩ := List.mem_iff_getElem.1 hx
  exact h.2 i hi
theorem SmallL.text {w : World} {v : Value} {L : List SD} (h : SmallL L) (hv : Steps w v L) : (textOf L).length ≤ 70000 :=
  Nat.le_trans (textOf_small L (fun x hx => ⟨hv.ok x hx, h.mem x hx⟩)) (by have := h.1; omega)
theorem SmallL.small {L : List SD} (h : SmallL L) : ∀ i (h : i < L.length), Small L[i] := fun i hi => by
  have := h.2 i hi
  exact ⟨by omega, by omega⟩
theorem below_then {w w1 w2 : World} (h : Below w.heap.size w w1) (h2 : Below w1.heap.size w1 w2) : Below w.heap.size w w2 := h.trans (h2.mono h.size)
end Go.Proofs.YtegnheonncoodaaDoor.Scr
