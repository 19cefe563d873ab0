/- A listed table of integers, as the block that holds it. No program is named here. -/
import Derived.Test.YtcgjoidfmigpnaaDoorWords
import Derived.Lib.LaidTab
namespace Go.Mem
open Go.RowKit
theorem tab_heap {P : Program} {w : World} {name : String} {k : IntKind} {zs : List Int} {g : Nat} (h : Lib.TabIs P w name k zs) (hg : P.globalNamed name = some g) :
    ∃ t fr, w.heap[g]? = some (.cells (zs.map fun z => Value.int k z).toArray t fr) := by
  unfold Lib.TabIs World.var? at h
  rw [hg, Option.bind_some] at h
  split at h
  · rename_i cs t fr e
    injection h with h
    exact ⟨t, fr, by rw [e, h]⟩
  · cases h
/-- .. goes on in every world that has turned nothing of what was there -/
theorem heap_below {w w' : World} {g : Nat} {ob : Obj} (h : w.heap[g]? = some ob) (hb : Below w.heap.size w w') : w'.heap[g]? = some ob :=
  (hb.block g (Array.getElem?_eq_some_iff.1 h).1).trans h
end Go.Mem
