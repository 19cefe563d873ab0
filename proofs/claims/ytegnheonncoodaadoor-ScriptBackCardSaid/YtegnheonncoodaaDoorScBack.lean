/- Any steps' text is read as them. -/
import Derived.Test.YtegnheonncoodaaDoorScLw
namespace Go.Proofs.YtegnheonncoodaaDoor.Scr
set_option linter.unusedVariables false
open Go.ChangeShapes Go.WideShapes Go.ChangeAt Go.RowKit
open Go.Mem Sc
set_option maxHeartbeats 8000000 in
set_option maxRecDepth 100000 in
theorem backC (L : List SD) (v : Value) (w : World) (hv : Steps w v L) (hz : SizedL L) (hT : Tabs w) : Calls Tryd.prog 3 #[v] w fun e w' => e = .returned (.bool true) ∧ Below w.heap.size w w' := by
  obtain ⟨A, C, rfl, hl, hC, _⟩ := hv.shape
  have HT := Lib.hid hT
  have HV := Lib.hid hv
  have HZ := Lib.hid hz
  clear hT hv hz
  go_enter Tryd.func3, Tryd.ntmps3
  go_wp2_with fail
  refine (smallC L _ _ HV.out HZ.out).mono ?_
  rintro e w1 ⟨⟨b, rfl, hb, _⟩, n, hw1⟩
  have HB1 : Hid (Below w.heap.size w w1) := by rw [hw1]; exact below_drewN _ _ _
  clear hw1
  cases b with
  | false =>
    clear hb
    go_wp2_with fail
    refine (answersC _ (HT.out.below HB1.out)).mono ?_
    rintro e w2 ⟨rfl, hb2⟩
    go_wp2
    go_ret
    exact ⟨rfl, below_then HB1.out hb2⟩
  | true =>
    have HS := Lib.hid (hb rfl)
    have HLE := Lib.hid (HS.out.text HV.out)
    clear hb
    go_wp2_with fail
    refine (printC L _ _ (HV.out.below HB1.out) HS.out.small (Nat.le_trans HLE.out (by omega)) (HT.out.below HB1.out)).mono ?_
    rintro e w2 ⟨rfl, hb2⟩
    have HB2 := Lib.hid (below_then HB1.out hb2)
    clear hb2
    go_wp2_with fail
    refine (parseC (textOf L) (Nat.le_trans HLE.out (by omega)) _ (HT.out.below HB2.out)).mono ?_
    intro e w3 hp
    obtain ⟨A3, C3, rfl, hst, hb3⟩ := parse_ok hp (parse_text HV.out.ok)
    have HB3 := Lib.hid (below_then HB2.out hb3)
    have HM := Lib.hid hst
    clear hp hst hb3
    go_wp2_with fail
    refine (answersC _ (HT.out.below HB3.out)).mono ?_
    rintro e w4 ⟨rfl, hb4⟩
    have HB4 := Lib.hid (below_then HB3.out hb4)
    have HM4 := Lib.hid (HM.out.below hb4)
    clear hb4
    go_wp2_with fail
    refine (textC L _ _ (HV.out.below HB4.out) HS.out.small (Nat.le_trans HLE.out (by omega))).mono ?_
    rintro e w5 ⟨rfl, hb5⟩
    have HB5 := Lib.hid (below_then HB4.out hb5)
    have HM5 := Lib.hid (HM4.out.below hb5)
    clear hb5
    go_wp2_with fail
    refine (textC L _ _ HM5.out HS.out.small (Nat.le_trans HLE.out (by omega))).mono ?_
    rintro e w6 ⟨rfl, hb6⟩
    have HB6 := Lib.hid (below_then HB5.out hb6)
    clear hb6
    go_wp2
    go_ret
    exact ⟨by simp, HB6.out⟩
end Go.Proofs.YtegnheonncoodaaDoor.Scr
