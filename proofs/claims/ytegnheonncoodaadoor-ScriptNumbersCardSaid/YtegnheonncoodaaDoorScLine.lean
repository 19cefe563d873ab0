/- The program's line of a step. -/
import Derived.Test.YtegnheonncoodaaDoorScDig
import Derived.Laws.BytesArg
import Derived.Deep.RegionHeld3
import Derived.StillTailTactics
namespace Go.Proofs.YtegnheonncoodaaDoor.Scr
set_option linter.unusedVariables false
open Go.ChangeShapes Go.WideShapes Go.ChangeAt Go.RowKit
open Go.Mem Sc
def strs (l : List (List UInt8)) : List ByteArray := l.map str
theorem join5 (a b c d e : List UInt8) : Lib.join ((strs [a, b, c, d, e]).map (·.data.toList)) ((⟨#[32]⟩ : ByteArray).data.toList) = a ++ 32 :: (b ++ 32 :: (c ++ 32 :: (d ++ 32 :: e))) := by
  simp [strs, Lib.join, str]
theorem str_app (l m : List UInt8) : str l ++ str m = str (l ++ m) := by
  refine ByteArray.ext ?_
  apply Array.ext'
  simp [str]
theorem lineC (a b c d e : List UInt8) (hlen : a.length + b.length + c.length + d.length + e.length ≤ 100000000) (g C : Nat) (w : World) (hC : 5 ≤ C) (hc : ∀ (j : Nat) x, (strs [a, b, c, d, e])[j]? = some x → w.cell? ⟨g, 0 + j, none⟩ = some (.string x)) (hg : g < w.heap.size) :
    Calls Tryd.prog 22 #[.slice (some ⟨g, 0, none⟩) 5 C] w fun e' w' => e' = .returned (.string (str ((a ++ 32 :: (b ++ 32 :: (c ++ 32 :: (d ++ 32 :: e)))) ++ [10]))) ∧ Below w.heap.size w w' := by
  have hj := Tryd.strings_Join g 0 C (strs [a, b, c, d, e]) ⟨#[32]⟩ w hc hg (by simp [strs]) (by simpa [strs] using hC) (by rw [join5]; simp; omega)
  rw [join5] at hj
  rw [show (strs [a, b, c, d, e]).length = 5 from rfl] at hj
  have hll : (a ++ 32 :: (b ++ 32 :: (c ++ 32 :: (d ++ 32 :: e)))).length ≤ 100000010 := by simp; omega
  generalize (a ++ 32 :: (b ++ 32 :: (c ++ 32 :: (d ++ 32 :: e)))) = l at hj hll
  have hsz : (⟨l.toArray⟩ : ByteArray).size ≤ 100000010 := by rw [show (⟨l.toArray⟩ : ByteArray).size = l.length from str_size l]; exact hll
  clear hc
  go_enter Tryd.func22, Tryd.ntmps22
  go_wp2_with (go_at_call 33; refine hj.mono ?_; rintro e' w' ⟨rfl, hb⟩)
  go_ret
  exact ⟨by rw [← str_app]; rfl, hb⟩
end Go.Proofs.YtegnheonncoodaaDoor.Scr
