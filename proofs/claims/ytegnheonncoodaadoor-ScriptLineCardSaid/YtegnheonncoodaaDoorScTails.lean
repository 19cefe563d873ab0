/- Lines that are none; steps from a place on. -/
import Derived.Test.YtegnheonncoodaaDoorScLw
namespace Go.Proofs.YtegnheonncoodaaDoor.Scr
set_option linter.unusedVariables false
open Go.ChangeShapes Go.WideShapes Go.ChangeAt Go.RowKit
open Go.Mem Sc
def tails : List (List UInt8) := [[], [49], [49, 32, 50, 32, 51, 32, 120], [49, 32, 50, 32, 51, 32, 120, 32, 120, 32, 120], [48, 49, 32, 50, 32, 51, 32, 120, 32, 120], [49, 32, 43, 50, 32, 51, 32, 120, 32, 120], [49, 32, 50, 32, 45, 51, 32, 120, 32, 120], [49, 32, 50, 32, 51, 32, 120, 49, 32, 120], [49, 32, 50, 32, 51, 32, 120, 65, 66, 32, 120], [49, 32, 50, 32, 51, 32, 54, 98, 32, 120], [49, 32, 50, 32, 51, 32, 120, 32, 120, 32], [49, 32, 50, 32, 32, 51, 32, 120, 32, 120]]
theorem tails_no10 : ∀ t ∈ tails, (10 : UInt8) ∉ t := by decide +kernel
theorem tails_len : ∀ t ∈ tails, t.length ≤ 20 := by decide +kernel
instance (l : List UInt8) : Decidable (good l) := by unfold good; exact inferInstance
theorem tails_bad : ∀ t ∈ tails, ¬ good (t ++ [10]) := by decide +kernel
theorem sizeStep (w : World) : (sizeOf TStep).run Tryd.prog w = .ok 5 w := by kernel_rfl
theorem steps_from {w : World} {A : Option Addr} {N C k : Nat} {L : List SD} (hv : Steps w (.slice A N C) L) (hN : L.length = N) (hk : k ≤ N) :
    ∃ A', (∀ W, (Instr.slice 22 (.slice A N C) (some (.int .i64 (k : Nat))) none none).run Tryd.prog W = .ok (.slice A' (N - k) (C - k)) W) ∧ Steps w (.slice A' (N - k) (C - k)) (L.drop k) := by
  obtain ⟨A1, n1, C1, e1, e2, e3, e4, e5, e6⟩ := hv
  cases e1
  refine ⟨if C = k then A else A.map (·.add (k * 5)), fun W => ?_, _, N - k, C - k, rfl, by rw [List.length_drop, hN], by omega, by omega, fun q => ?_, fun i hi => ?_⟩
  · rw [run_slice_l W 22 A N C Tryd.underlying22 .i64 (k : Nat) (by omega) (by omega)]
    rw [show Tryd.prog.elem 22 = TStep from rfl, sizeStep]
    simp only [Result.andThen, sliced, Int.toNat_natCast]
  · split at q
    · omega
    · cases A with
      | none => have := e5 rfl; omega
      | some a => cases q
  · have hi' : k + i < L.length := by rw [List.length_drop] at hi; omega
    obtain ⟨b, o, f, k1, k2, k3⟩ := e6 (k + i) hi'
    refine ⟨b, o + k * 5, f, ?_, fun j hj => ?_, by rw [List.getElem_drop]; exact k3⟩
    · rw [if_neg (by omega), k1]; simp [Addr.add]
    · have := k2 j hj
      rwa [show o + (k + i) * 5 + j = o + k * 5 + i * 5 + j by omega] at this
theorem steps_to {w : World} {A : Option Addr} {N C k : Nat} {L : List SD} (hv : Steps w (.slice A N C) L) (hN : L.length = N) (hk : k ≤ N) :
    ∃ A', (∀ W, (Instr.slice 22 (.slice A N C) none (some (.int .i64 (k : Nat))) none).run Tryd.prog W = .ok (.slice A' k C) W) ∧ Steps w (.slice A' k C) (L.take k) := by
  obtain ⟨A1, n1, C1, e1, e2, e3, e4, e5, e6⟩ := hv
  cases e1
  refine ⟨if C = 0 then A else A.map (·.add (0 * 5)), fun W => ?_, _, k, C, rfl, by rw [List.length_take]; omega, by omega, by omega, fun q => ?_, fun i hi => ?_⟩
  · rw [run_slice_h W 22 A N C Tryd.underlying22 .i64 (k : Nat) (by omega) (by omega)]
    rw [show Tryd.prog.elem 22 = TStep from rfl, sizeStep]
    simp only [Result.andThen, sliced, Int.toNat_natCast, Nat.sub_zero]
  · split at q
    · omega
    · cases A with
      | none => exact e5 rfl
      | some a => cases q
  · have hi' : i < L.length := by rw [List.length_take] at hi; omega
    obtain ⟨b, o, f, k1, k2, k3⟩ := e6 i hi'
    refine ⟨b, o, f, ?_, k2, by rw [List.getElem_take]; exact k3⟩
    rw [if_neg (by rw [List.length_take] at hi; omega), k1]
    simp [Addr.add]
end Go.Proofs.YtegnheonncoodaaDoor.Scr
