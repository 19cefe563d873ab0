/- ScriptReads, as a frame offers it its arguments. -/
import Derived.Test.YtegnheonncoodaaDoorScArg
import Derived.Test.YtegnheonncoodaaDoorScReads
namespace Go.Proofs.YtegnheonncoodaaDoor.Scr
set_option linter.unusedVariables false
open Go.ChangeShapes Go.WideShapes Go.ChangeAt Go.RowKit
open Go.Mem Sc
theorem reads_str (s : ByteArray) (h : KeyOk s) (w : World) (hT : Tabs w) : Calls Tryd.prog 4 #[.string s] w fun e w' => e = .returned (.bool true) ∧ Below w.heap.size w w' := by
  have hl : s.data.toList.length = s.size := by rw [← str_size, str_of]
  have := readsC s.data.toList (by unfold KeyOk at h; omega) w hT
  rw [str_of] at this
  exact this
end Go.Proofs.YtegnheonncoodaaDoor.Scr
