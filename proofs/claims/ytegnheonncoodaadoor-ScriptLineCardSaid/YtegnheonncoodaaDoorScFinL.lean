/- ScriptLine, as a frame offers it its arguments. -/
import Derived.Test.YtegnheonncoodaaDoorScArg
import Derived.Test.YtegnheonncoodaaDoorScLine2
namespace Go.Proofs.YtegnheonncoodaaDoor.Scr
set_option linter.unusedVariables false
open Go.ChangeShapes Go.WideShapes Go.ChangeAt Go.RowKit
open Go.Mem Sc
theorem line_int (L : List SD) (v : Value) (a b : Int) (a0 : 0 ≤ a) (a1 : a < 256) (b0 : 0 ≤ b) (b1 : b < 256) (w : World) (hv : Steps w v L) (hz : SizedL L) (hT : Tabs w) : Calls Tryd.prog 5 #[v, .int .u8 a, .int .u8 b] w fun e w' => e = .returned (.bool true) ∧ Below w.heap.size w w' := by
  have := lineAC L v a.toNat b.toNat (by omega) (by omega) w hv hz hT
  rw [show ((a.toNat : Nat) : Int) = a by omega, show ((b.toNat : Nat) : Int) = b by omega] at this
  exact this
end Go.Proofs.YtegnheonncoodaaDoor.Scr
