/- The program's order of drives: how two are compared, how they stand in memory. -/
import Derived.Test.YtcgjoidfmigpnaaDoorRkRef
import Derived.Test.YtcgjoidfmigpnaaDoorRows
import Derived.Deep.RegionHeld3
import Derived.Deep.QuietTactic
import Derived.BigQuiet
import Derived.RegionTactic
import Derived.BigRegion
import Derived.IntWalk
import Derived.Shelf.SlSortCmp.NoneTotal
import Derived.StillTailTactics
namespace Go.Proofs.YtcgjoidfmigpnaaDoor.Rk
set_option linter.unusedVariables false
open Go.ChangeShapes Go.WideShapes Go.ChangeAt Go.RowKit
open Go.Mem Sha Hash
open Go.Sort (grow grow_grow alloc_eq_grow ahead HoldsK PermIn SortedIn SWO)
def cmpI (x y : Int) : Int := if x < y then -1 else if y < x then 1 else 0
theorem cmpI_lt {x y : Int} (h : x < y) : cmpI x y = -1 := by unfold cmpI; rw [if_pos h]
theorem cmpI_gt {x y : Int} (h : y < x) : cmpI x y = 1 := by unfold cmpI; rw [if_neg (by omega), if_pos h]
theorem cmpI_eq {x y : Int} (h : x = y) : cmpI x y = 0 := by unfold cmpI; rw [if_neg (by omega), if_neg (by omega)]
def orI (a b : Int) : Int := if a = 0 then b else a
/-- a drive, and how near it is -/
def encW (x : Int × Int) : List Value := [.int .i64 x.1, .int .u64 x.2]
def nearF (x y : Int × Int) : Int := orI (cmpI y.2 x.2) (cmpI x.1 y.1)
theorem near_lt (x y : Int × Int) : Go.Proofs.ltOf nearF x y = decide (y.2 < x.2 ∨ (x.2 = y.2 ∧ x.1 < y.1)) := by
  unfold Go.Proofs.ltOf nearF
  rcases Int.lt_trichotomy y.2 x.2 with h | h | h
  · rw [cmpI_lt h]; simp [orI, h]
  · rw [cmpI_eq h]
    rcases Int.lt_trichotomy x.1 y.1 with k | k | k
    · rw [cmpI_lt k]; simp [orI, h, k]
    · rw [cmpI_eq k]; simp [orI, h, k]
    · rw [cmpI_gt k]
      have : ¬ x.1 < y.1 := by omega
      simp [orI, h, this]
  · rw [cmpI_gt h]
    have h1 : ¬ y.2 < x.2 := by omega
    have h2 : ¬ x.2 = y.2 := by omega
    simp [orI, h1, h2]
theorem near_swo : SWO (Go.Proofs.ltOf nearF) where
  irrefl x := by rw [near_lt]; simp
  trans x y z h1 h2 := by rw [near_lt] at *; simp at *; omega
  ntrans x y z h1 h2 := by rw [near_lt] at *; simp at *; omega
theorem near_tot (x y : Int × Int) (h : Go.Proofs.ltOf nearF x y = false) (k : Go.Proofs.ltOf nearF y x = false) : x = y := by
  rw [near_lt] at h k
  simp at h k
  exact Prod.ext (by omega) (by omega)
set_option maxHeartbeats 1000000 in
theorem cmpUC (x y : Int) (w : World) : Calls Tryd.prog 27 #[.int .u64 x, .int .u64 y] w fun e w' => e = .returned (.int .i64 (cmpI x y)) ∧ w' = w := by
  rcases Int.lt_trichotomy x y with h | h | h
  · have d1 : decide (x < y) = true := by simpa using h
    rw [cmpI_lt h]
    clear h
    go_enter Tryd.func27, Tryd.ntmps27
    go_wp2
    go_ret
    exact ⟨rfl, rfl⟩
  · rw [cmpI_eq h]
    subst h
    have d1 : decide (x < x) = false := by simp
    go_enter Tryd.func27, Tryd.ntmps27
    go_wp2
    go_ret
    exact ⟨rfl, rfl⟩
  · have d1 : decide (x < y) = false := by simp; omega
    have d2 : decide (y < x) = true := by simpa using h
    rw [cmpI_gt h]
    clear h
    go_enter Tryd.func27, Tryd.ntmps27
    go_wp2
    go_ret
    exact ⟨rfl, rfl⟩
set_option maxHeartbeats 1000000 in
theorem cmpIC (x y : Int) (w : World) : Calls Tryd.prog 28 #[.int .i64 x, .int .i64 y] w fun e w' => e = .returned (.int .i64 (cmpI x y)) ∧ w' = w := by
  rcases Int.lt_trichotomy x y with h | h | h
  · have d1 : decide (x < y) = true := by simpa using h
    rw [cmpI_lt h]
    clear h
    go_enter Tryd.func28, Tryd.ntmps28
    go_wp2
    go_ret
    exact ⟨rfl, rfl⟩
  · rw [cmpI_eq h]
    subst h
    have d1 : decide (x < x) = false := by simp
    go_enter Tryd.func28, Tryd.ntmps28
    go_wp2
    go_ret
    exact ⟨rfl, rfl⟩
  · have d1 : decide (x < y) = false := by simp; omega
    have d2 : decide (y < x) = true := by simpa using h
    rw [cmpI_gt h]
    clear h
    go_enter Tryd.func28, Tryd.ntmps28
    go_wp2
    go_ret
    exact ⟨rfl, rfl⟩
set_option maxHeartbeats 1000000 in
theorem orC (a b : Int) (g C : Nat) (w : World) (h0 : w.cell? ⟨g, 0, none⟩ = some (.int .i64 a)) (h1 : w.cell? ⟨g, 1, none⟩ = some (.int .i64 b)) :
    Calls Tryd.prog 26 #[.slice (some ⟨g, 0, none⟩) 2 C] w fun e w' => e = .returned (.int .i64 (orI a b)) ∧ w' = w := by
  by_cases ha : a = 0
  · have q1 : (a == 0) = true := by simpa using ha
    have q2 : (a != 0) = false := by simpa using ha
    have q3 : decide (a = 0) = true := by simpa using ha
    by_cases hb : b = 0
    · have e : orI a b = 0 := by unfold orI; rw [if_pos ha, hb]
      subst ha
      subst hb
      rw [e]
      go_enter Tryd.func26, Tryd.ntmps26
      go_wp2
      refine wp_loop_rounds 3 ?_
      rw [rounds_succ]
      go_wp2
      rw [rounds_succ]
      go_wp2
      rw [rounds_succ]
      go_wp2
      go_ret
      exact ⟨rfl, rfl⟩
    · have e : orI a b = b := by unfold orI; rw [if_pos ha]
      have p1 : (b == 0) = false := by simpa using hb
      have p2 : (b != 0) = true := by simpa using hb
      subst ha
      rw [e]
      clear e
      go_enter Tryd.func26, Tryd.ntmps26
      go_wp2
      refine wp_loop_rounds 2 ?_
      rw [rounds_succ]
      go_wp2
      rw [rounds_succ]
      go_wp2
      go_ret
      exact ⟨rfl, rfl⟩
  · have e : orI a b = a := by unfold orI; rw [if_neg ha]
    have p1 : (a == 0) = false := by simpa using ha
    have p2 : (a != 0) = true := by simpa using ha
    rw [e]
    clear e
    go_enter Tryd.func26, Tryd.ntmps26
    go_wp2
    refine wp_loop_rounds 1 ?_
    rw [rounds_succ]
    go_wp2
    go_ret
    exact ⟨rfl, rfl⟩
set_option maxHeartbeats 2000000 in
theorem nearerC (x1 x2 y1 y2 : Int) (W : World) : Calls Tryd.prog 17 #[.agg #[.int .i64 x1, .int .u64 x2], .agg #[.int .i64 y1, .int .u64 y2]] W fun e w' => e = .returned (.int .i64 (nearF (x1, x2) (y1, y2))) ∧ ∃ q os', w' = grow (W.drewN q) os' := by
  have HN := Lib.hid (show nearF (x1, x2) (y1, y2) = orI (cmpI y2 x2) (cmpI x1 y1) from rfl)
  obtain ⟨r, hr⟩ : ∃ r, nearF (x1, x2) (y1, y2) = r := ⟨_, rfl⟩
  rw [hr] at HN ⊢
  clear hr
  have hcu := fun w => cmpUC y2 x2 w
  have hci := fun w => cmpIC x1 y1 w
  obtain ⟨p, hp⟩ : ∃ p, cmpI y2 x2 = p := ⟨_, rfl⟩
  obtain ⟨s, hs⟩ : ∃ s, cmpI x1 y1 = s := ⟨_, rfl⟩
  rw [hp] at HN hcu
  rw [hs] at HN hci
  have HCU := Lib.hid hcu
  have HCI := Lib.hid hci
  clear hp hs hcu hci
  go_enter Tryd.func17, Tryd.ntmps17
  go_wp2
  generalize hwa : ((W.alloc (Obj.cells #[Value.int IntKind.i64 x1, Value.int IntKind.u64 x2] 37)).alloc (Obj.cells #[Value.int IntKind.i64 y1, Value.int IntKind.u64 y2] 37)) = wa
  have c0 : wa.cell? ⟨W.heap.size, 0, none⟩ = some (.int .i64 x1) := by rw [← hwa]; simp
  have c1 : wa.cell? ⟨W.heap.size, 1, none⟩ = some (.int .u64 x2) := by rw [← hwa]; simp
  have c2 : wa.cell? ⟨W.heap.size + 1, 0, none⟩ = some (.int .i64 y1) := by rw [← hwa]; simp
  have c3 : wa.cell? ⟨W.heap.size + 1, 1, none⟩ = some (.int .u64 y2) := by rw [← hwa]; simp
  have HWA := Lib.hid hwa
  clear hwa
  go_still_tail 10, (by kernel_rfl)
  still_call (still_of ((HCU.out _).mono fun _ _ h => ⟨h.1, h.2.symm⟩))
  repeat still_step
  still_call (still_of ((HCI.out _).mono fun _ _ h => ⟨h.1, h.2.symm⟩))
  refine wpStill_nil ?_
  change wpList _ _ _ _ _ wa.drew
  have HG := Lib.hid (show wa.drew = grow (W.drewN 1) #[.cells #[.int .i64 x1, .int .u64 x2] 37, .cells #[.int .i64 y1, .int .u64 y2] 37] by rw [← HWA.out, alloc_eq_grow, alloc_eq_grow, grow_grow]; rfl)
  clear c0 c1 c2 c3
  generalize hwb : wa.drew = wb at HG ⊢
  clear hwb HWA
  go_wp2_with fail
  refine (orC p s _ _ _ (by simp) (by simp)).mono ?_
  rintro _ _ ⟨rfl, rfl⟩
  rw [← HN.out]
  go_wp2
  go_ret
  exact ⟨rfl, 1, _, by rw [HG.out, alloc_eq_grow, grow_grow]⟩
end Go.Proofs.YtcgjoidfmigpnaaDoor.Rk
