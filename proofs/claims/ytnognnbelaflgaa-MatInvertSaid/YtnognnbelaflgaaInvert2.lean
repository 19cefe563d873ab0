/- Where mat.Invert says that an argument may not be. -/
import Derived.Test.YtnognnbelaflgaaInvert
namespace Go.Proofs.Ytnognnbelaflgaa.Mat
open Go.ChangeShapes Go.WideShapes Go.ChangeAt Go.RowKit
open Go.Mem
open GfPlain Gf
def NoInv (a : List (List Nat)) : Prop := 7 < a.length ∨ fitB a = false ∨ ¬ width a = a.length
set_option maxHeartbeats 1000000 in
theorem invertNo (a : List (List Nat)) (va : Value) (w : World) (ha : Tab w va a) (h : NoInv a) :
    Calls Try.prog 14 #[va] w fun e w' => e = .returned (.tuple #[.slice none 0 0, .int .i64 1]) ∧ Below w.heap.size w w' := by
  obtain ⟨A, C, rfl, h1, h2, _⟩ := ha.shape
  by_cases h7 : 7 < a.length
  · clear h
    go_enter Try.func14, Try.ntmps14
    go_wp2
    go_ret2
    exact ⟨rfl, Below.refl _ _⟩
  · cases hf : fitB a
    · clear h
      go_enter Try.func14, Try.ntmps14
      go_wp2_with fail
      refine (filledC a _ _ ha).mono ?_; rintro e w1 ⟨rfl, hb1⟩
      go_wp2
      go_ret2
      exact ⟨rfl, hb1⟩
    · have hw : ¬ width a = a.length := by
        rcases h with h | h | h
        · exact absurd h h7
        · rw [hf] at h; cases h
        · exact h
      have hq : ((width a : Int) != (a.length : Int)) = true := by rw [bne_iff_ne]; omega
      obtain ⟨pa, _⟩ := fitB_iff.1 hf
      have hpa : (0 : Int) < a.length := by omega
      obtain ⟨ba, oa, Aa, Ca, rfl, hcaw, hma, _⟩ := ha.at pa
      rw [← width_get pa, Nat.add_zero] at hcaw
      rw [← width_get pa] at hma
      clear h hw
      go_enter Try.func14, Try.ntmps14
      go_wp2_with fail
      refine (filledC a _ _ ha).mono ?_; rintro e w1 ⟨rfl, hb1⟩
      have hca := below_cell hb1 _ _ hcaw
      go_wp2
      go_ret2
      exact ⟨rfl, hb1⟩
end Go.Proofs.Ytnognnbelaflgaa.Mat
