/- Package hash's table, as the row lists it. -/
import Derived.Test.YtcgjoidfmigpnaaDoorHashLaw
import Derived.Test.YtcgjoidfmigpnaaDoorTab
namespace Go.Proofs.YtcgjoidfmigpnaaDoor.Hash
open Go.ChangeShapes Go.WideShapes Go.ChangeAt Go.RowKit
open Go.Mem Sha
theorem tabs_of {w : World} {zs : List Int} (h : Lib.TabIs Tryd.prog w "flitting/hash.rounds" .u32 zs) (hz : (zs.map fun z => Value.int .u32 z).toArray = kArr) : Tabs w := by
  obtain ⟨t, fr, e⟩ := tab_heap h (g := 0) (by kernel_rfl)
  rw [hz] at e
  exact ⟨t, fr, e⟩
end Go.Proofs.YtcgjoidfmigpnaaDoor.Hash
