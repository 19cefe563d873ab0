/- The program's calls, sorted by their moments: how two are compared; the sort of twenty, or none. -/
import Derived.Test.YtkibnpienbchaaaLnMap
import Derived.Test.YtkibnpienbchaaaShelf
import Derived.Sort.LotA
import Derived.RegionTactic
import Derived.StillTailTactics
import Derived.Deep.QuietTactic
import Derived.BigQuiet
namespace Go.Proofs.Ytkibnpienbchaaa.Lnr
set_option linter.unusedVariables false
open Go.ChangeShapes Go.WideShapes Go.ChangeAt Go.RowKit
open Go.Mem Ln
open Go.Sort (grow grow_grow alloc_eq_grow HoldsK PermIn SortedIn SWO)
abbrev TCall : Nat := 29
def cmpI (x y : Int) : Int := if x < y then -1 else if y < x then 1 else 0
theorem cmpI_lt {x y : Int} (h : x < y) : cmpI x y = -1 := by unfold cmpI; rw [if_pos h]
theorem cmpI_gt {x y : Int} (h : y < x) : cmpI x y = 1 := by unfold cmpI; rw [if_neg (by omega), if_pos h]
theorem cmpI_eq {x y : Int} (h : x = y) : cmpI x y = 0 := by unfold cmpI; rw [if_neg (by omega), if_neg (by omega)]
def cf (x y : Cl) : Int := cmpI x.mo y.mo
theorem cf_lt (x y : Cl) : Go.Proofs.ltOf cf x y = decide (x.mo < y.mo) := by
  unfold Go.Proofs.ltOf cf
  rcases Int.lt_trichotomy x.mo y.mo with h | h | h
  · rw [cmpI_lt h]; simp [h]
  · rw [cmpI_eq h]; simp [h]
  · rw [cmpI_gt h]; simp; omega
theorem cf_swo : SWO (Go.Proofs.ltOf cf) where
  irrefl x := by rw [cf_lt]; simp
  trans x y z h1 h2 := by rw [cf_lt] at *; simp at *; omega
  ntrans x y z h1 h2 := by rw [cf_lt] at *; simp at *; omega
set_option maxRecDepth 100000 in
set_option maxHeartbeats 1000000 in
theorem cmpIC (x y : Int) (w : World) : Calls Try.prog 14 #[.int .i64 x, .int .i64 y] w fun e w' => e = .returned (.int .i64 (cmpI x y)) ∧ w' = w := by
  rcases Int.lt_trichotomy x y with h | h | h
  · have d1 : decide (x < y) = true := by simpa using h
    rw [cmpI_lt h]
    clear h
    go_enter Try.func14, Try.ntmps14
    go_wp2
    go_ret
    exact ⟨rfl, rfl⟩
  · rw [cmpI_eq h]
    subst h
    have d1 : decide (x < x) = false := by simp
    go_enter Try.func14, Try.ntmps14
    go_wp2
    go_ret
    exact ⟨rfl, rfl⟩
  · have d1 : decide (x < y) = false := by simp; omega
    have d2 : decide (y < x) = true := by simpa using h
    rw [cmpI_gt h]
    clear h
    go_enter Try.func14, Try.ntmps14
    go_wp2
    go_ret
    exact ⟨rfl, rfl⟩
set_option maxRecDepth 100000 in
set_option maxHeartbeats 2000000 in
theorem nearerC (x y : Cl) (W : World) : Calls Try.prog 13 #[.agg (enc x).toArray, .agg (enc y).toArray] W fun e w' => e = .returned (.int .i64 (cf x y)) ∧ ∃ q os', w' = grow (W.drewN q) os' := by
  have hci := fun w => cmpIC x.mo y.mo w
  have HE := Lib.hid (show cf x y = cmpI x.mo y.mo from rfl)
  obtain ⟨r, hr⟩ : ∃ r, cf x y = r := ⟨_, rfl⟩
  rw [hr] at HE ⊢
  clear hr
  rw [← HE.out] at hci
  have HCI := Lib.hid hci
  obtain ⟨cx, hcx⟩ : ∃ c, (enc x).toArray = c := ⟨_, rfl⟩
  obtain ⟨cy, hcy⟩ : ∃ c, (enc y).toArray = c := ⟨_, rfl⟩
  clear HE hci
  subst hcx hcy
  unfold enc
  go_enter Try.func13, Try.ntmps13
  go_wp2_with (go_at_call 14; refine (HCI.out _).mono ?_; rintro _ _ ⟨rfl, rfl⟩)
  go_ret
  exact ⟨rfl, 0, _, by rw [alloc_eq_grow, alloc_eq_grow, grow_grow]; rfl⟩
end Go.Proofs.Ytkibnpienbchaaa.Lnr
