/- ScriptNumbers, as a frame offers it its arguments. -/
import Derived.Test.YtegnheonncoodaaDoorScArg
import Derived.Test.YtegnheonncoodaaDoorScNum
namespace Go.Proofs.YtegnheonncoodaaDoor.Scr
set_option linter.unusedVariables false
open Go.ChangeShapes Go.WideShapes Go.ChangeAt Go.RowKit
open Go.Mem Sc
theorem numbers_int (k a p : Int) (k0 : -9223372036854775808 ≤ k) (k1 : k < 9223372036854775808) (a0 : -9223372036854775808 ≤ a) (a1 : a < 9223372036854775808) (p0 : 0 ≤ p) (p1 : p < 18446744073709551616) (l : List UInt8) (v : Value) (w : World) (hv : Bytes w v (nums l)) (hT : Tabs w) :
    Calls Tryd.prog 7 #[.int .i64 k, .int .i64 a, .int .u64 p, v] w fun e w' => e = .returned (.bool true) ∧ Below w.heap.size w w' := by
  have := numbersC ⟨k, a, l, l, p.toNat⟩ ⟨⟨k0, by show k ≤ _; omega⟩, ⟨a0, by show a ≤ _; omega⟩, by show p.toNat < _; omega⟩ rfl v w hv hT
  dsimp only at this
  rw [show ((p.toNat : Nat) : Int) = p by omega] at this
  exact this
end Go.Proofs.YtegnheonncoodaaDoor.Scr
