/-
  DERIVED. GIVEN WITH THE SEED: THE CARDS: each row of YtegbgnjmkohcfaaDoorRows.lean that lists a variable, with what it lists TIED to the program's text (the seventh form; the later family's looks); each row that meets fmt, with fmt's text TOLD by the authors' own Lean function (tested against real Go, not proved from fmt's source: count such statements apart). THE CARD IS WHAT COUNTS. Prove the row's statement (the work); the ties are given (YtegbgnjmkohcfaaDoorTie.lean); close each card by the builder's one call (the guide's Derived/Test/ToyasCard.lean, 'card_holds'). Laid BY PROGRAM, IN A SANDBOX (cutbox-door.mjs). By AI agents, Wed Nov 11 2026. No macro, syntax, notation, axiom, sorry.
-/
import Derived.Test.YtegbgnjmkohcfaaDoorRows
import GoSem.ClaimSeven
namespace Go.Proofs.YtegbgnjmkohcfaaDoor
namespace Rows

/-- THE TIED CARD OF 'flittinglaw17.PlanWrong'. -/
def planWrongCard : Claim7 := { stood := { row := planWrongRow, standIns := [], harness := (true, "fd527c6b0e80a8f2cce105dc4ddf3a617c3a54a55f04eabd947ad61bf10bba42"), looks := false }, kinds := [], alts := [], laidByText := true, laidKinds := [.data], laidTests := true, laidLooks := .later }
def PlanWrongCardSaid : Prop := Claim7.holds Tryd.pinned (.plain (OpenSpec.ofChange planWrongSpec)) planWrongCard

/-- THE TIED CARD OF 'flittinglaw17.PlanPool'. -/
def planPoolCard : Claim7 := { stood := { row := planPoolRow, standIns := [], harness := (true, "fd527c6b0e80a8f2cce105dc4ddf3a617c3a54a55f04eabd947ad61bf10bba42"), looks := false }, kinds := [], alts := [], laidByText := true, laidKinds := [.data], laidTests := true, laidLooks := .later }
def PlanPoolCardSaid : Prop := Claim7.holds Tryd.pinned (.plain (OpenSpec.ofChange planPoolSpec)) planPoolCard

/-- THE SECOND FORM's CARD OF 'flittinglaw17.PlanWrong'. -/
def planWrongUptoCard : Claim7 := { stood := { row := planWrongUptoRow, standIns := [], harness := (true, "fd527c6b0e80a8f2cce105dc4ddf3a617c3a54a55f04eabd947ad61bf10bba42"), looks := false }, kinds := [], alts := [], laidByText := true, laidKinds := [.data], laidTests := true, laidLooks := .later }
def PlanWrongUptoCardSaid : Prop := Claim7.holds Tryd.pinned (.plain (OpenSpec.upto planWrongSpec)) planWrongUptoCard

/-- THE SECOND FORM's CARD OF 'flittinglaw17.PlanPool'. -/
def planPoolUptoCard : Claim7 := { stood := { row := planPoolUptoRow, standIns := [], harness := (true, "fd527c6b0e80a8f2cce105dc4ddf3a617c3a54a55f04eabd947ad61bf10bba42"), looks := false }, kinds := [], alts := [], laidByText := true, laidKinds := [.data], laidTests := true, laidLooks := .later }
def PlanPoolUptoCardSaid : Prop := Claim7.holds Tryd.pinned (.plain (OpenSpec.upto planPoolSpec)) planPoolUptoCard
end Rows
end Go.Proofs.YtegbgnjmkohcfaaDoor
