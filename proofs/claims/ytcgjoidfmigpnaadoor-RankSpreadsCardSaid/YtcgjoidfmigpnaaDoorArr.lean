/- An element of an array by value, at an index that is a letter ('for i, x := range arr', arr an array). No program is named here. -/
import Derived.Test.YtcgjoidfmigpnaaDoorWords
namespace Go.Mem
open Go.RowKit
theorem run_index_arr {P : Program} (t e : TypeId) (n : Nat) (ke : IntKind) (cs : Array Value) (k : IntKind) (i : Nat) (x : Value) (ht : P.underlying t = some (.array n e)) (he : P.underlying e = some (.int ke)) (hs : (P.info? e).map (·.size) = some 1)
    (hi : i < n) (hx : cs[i]? = some x) (w : World) : (Instr.index t (.agg cs) (.int k (i : Nat))).run P w = .ok x w := by
  have h1 : (0 : Int) ≤ (i : Int) ∧ (i : Int) < (n : Int) := by omega
  cases hq : P.info? e with
  | none => simp [hq] at hs
  | some ie =>
    have hz : ie.size = 1 := by simpa [hq] using hs
    have hsz : (sizeOf e).run P w = .ok 1 w := by simp [sizeOf, typeInfo, hq, hz]
    have hagg : (isAgg e).run P w = .ok false w := by
      unfold isAgg
      rw [Sem.run_bind, run_underlying he w]
      rfl
    simp [Instr.index, run_underlying ht, asIntOf, h1, part, Sem.run_bind, hsz, hagg, hx]
    intro h
    exact absurd hi (by omega)
end Go.Mem
