/- The document's reader that asks whether two slices hold the same bytes. -/
import Derived.Test.YtcgjoidfmigpnaaDoorRows
import Derived.Test.YtcgjoidfmigpnaaDoorMem
import Derived.Deep.QuietTactic
import Derived.BigQuiet
namespace Go.Proofs.YtcgjoidfmigpnaaDoor.Same
open Go.ChangeShapes Go.WideShapes Go.ChangeAt Go.RowKit
open Go.Mem
def sameB (l m : List Nat) : Bool := decide (l = m)
def Agree (l m : List Nat) (k : Nat) : Prop := ∀ i (h : i < l.length) (h' : i < m.length), i < k → l[i] = m[i]
theorem Agree.succ {l m : List Nat} {k : Nat} (h : Agree l m k) (hk : k < l.length) (hk' : k < m.length) (h1 : l[k] = m[k]) : Agree l m (k + 1) := fun i hi hi' hlt => by
  by_cases e : i = k
  · subst e; exact h1
  · exact h i hi hi' (by omega)
theorem sameB_yes {l m : List Nat} (h0 : l.length = m.length) (h : Agree l m l.length) : sameB l m = true :=
  decide_eq_true (List.ext_getElem h0 fun i hi hi' => h i hi hi' hi)
theorem sameB_no {l m : List Nat} {k : Nat} (hk : k < l.length) (hk' : k < m.length) (h : ¬ l[k] = m[k]) : sameB l m = false :=
  decide_eq_false fun e => h (by subst e; rfl)
end Go.Proofs.YtcgjoidfmigpnaaDoor.Same
