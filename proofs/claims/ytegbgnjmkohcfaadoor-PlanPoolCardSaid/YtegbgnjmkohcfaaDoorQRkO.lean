/- The program's order of drives: how two are compared, how they stand in memory. The program's drives while they are sorted: as they stand in memory; the sort. The program's order of drives, those that are in, the nearest ones, as walks. -/
import Derived.Test.YtegbgnjmkohcfaaDoorQRkM
import Derived.Test.YtegbgnjmkohcfaaDoorRows
import Derived.Deep.RegionHeld3
import Derived.Deep.QuietTactic
import Derived.BigQuiet
import Derived.RegionTactic
import Derived.BigRegion
import Derived.IntWalk
import Derived.Shelf.SlSortCmp.NoneTotal
import Derived.StillTailTactics
import Derived.Test.YtegbgnjmkohcfaaDoorShelf
import Derived.Test.YtegbgnjmkohcfaaDoorRecSame
import Derived.Test.YtegbgnjmkohcfaaDoorQHsB
namespace Go.Proofs.YtegbgnjmkohcfaaDoor.Rk
set_option linter.unusedVariables false
open Go.ChangeShapes Go.WideShapes Go.ChangeAt Go.RowKit
open Go.Mem Sha Hash
open Go.Sort (grow grow_grow alloc_eq_grow ahead HoldsK PermIn SortedIn SWO)
def cmpI (x y : Int) : Int := if x < y then -1 else if y < x then 1 else 0
theorem cmpI_lt {x y : Int} (h : x < y) : cmpI x y = -1 := by unfold cmpI; rw [if_pos h]
theorem cmpI_gt {x y : Int} (h : y < x) : cmpI x y = 1 := by unfold cmpI; rw [if_neg (by omega), if_pos h]
theorem cmpI_eq {x y : Int} (h : x = y) : cmpI x y = 0 := by unfold cmpI; rw [if_neg (by omega), if_neg (by omega)]
def orI (a b : Int) : Int := if a = 0 then b else a
/-- a drive, and how near it is -/
def encW (x : Int × Int) : List Value := [.int .i64 x.1, .int .u64 x.2]
def nearF (x y : Int × Int) : Int := orI (cmpI y.2 x.2) (cmpI x.1 y.1)
theorem near_lt (x y : Int × Int) : Go.Proofs.ltOf nearF x y = decide (y.2 < x.2 ∨ (x.2 = y.2 ∧ x.1 < y.1)) := by
  unfold Go.Proofs.ltOf nearF
  rcases Int.lt_trichotomy y.2 x.2 with h | h | h
  · rw [cmpI_lt h]; simp [orI, h]
  · rw [cmpI_eq h]
    rcases Int.lt_trichotomy x.1 y.1 with k | k | k
    · rw [cmpI_lt k]; simp [orI, h, k]
    · rw [cmpI_eq k]; simp [orI, h, k]
    · rw [cmpI_gt k]
      have : ¬ x.1 < y.1 := by omega
      simp [orI, h, this]
  · rw [cmpI_gt h]
    have h1 : ¬ y.2 < x.2 := by omega
    have h2 : ¬ x.2 = y.2 := by omega
    simp [orI, h1, h2]
theorem near_swo : SWO (Go.Proofs.ltOf nearF) where
  irrefl x := by rw [near_lt]; simp
  trans x y z h1 h2 := by rw [near_lt] at *; simp at *; omega
  ntrans x y z h1 h2 := by rw [near_lt] at *; simp at *; omega
theorem near_tot (x y : Int × Int) (h : Go.Proofs.ltOf nearF x y = false) (k : Go.Proofs.ltOf nearF y x = false) : x = y := by
  rw [near_lt] at h k
  simp at h k
  exact Prod.ext (by omega) (by omega)
set_option maxRecDepth 100000 in
set_option maxHeartbeats 1000000 in
theorem cmpUC (x y : Int) (w : World) : Calls Tryd.prog 59 #[.int .u64 x, .int .u64 y] w fun e w' => e = .returned (.int .i64 (cmpI x y)) ∧ w' = w := by
  rcases Int.lt_trichotomy x y with h | h | h
  · have d1 : decide (x < y) = true := by simpa using h
    rw [cmpI_lt h]
    clear h
    go_enter Tryd.func59, Tryd.ntmps59
    go_wp2
    go_ret
    exact ⟨rfl, rfl⟩
  · rw [cmpI_eq h]
    subst h
    have d1 : decide (x < x) = false := by simp
    go_enter Tryd.func59, Tryd.ntmps59
    go_wp2
    go_ret
    exact ⟨rfl, rfl⟩
  · have d1 : decide (x < y) = false := by simp; omega
    have d2 : decide (y < x) = true := by simpa using h
    rw [cmpI_gt h]
    clear h
    go_enter Tryd.func59, Tryd.ntmps59
    go_wp2
    go_ret
    exact ⟨rfl, rfl⟩
set_option maxRecDepth 100000 in
set_option maxHeartbeats 1000000 in
theorem cmpIC (x y : Int) (w : World) : Calls Tryd.prog 31 #[.int .i64 x, .int .i64 y] w fun e w' => e = .returned (.int .i64 (cmpI x y)) ∧ w' = w := by
  rcases Int.lt_trichotomy x y with h | h | h
  · have d1 : decide (x < y) = true := by simpa using h
    rw [cmpI_lt h]
    clear h
    go_enter Tryd.func31, Tryd.ntmps31
    go_wp2
    go_ret
    exact ⟨rfl, rfl⟩
  · rw [cmpI_eq h]
    subst h
    have d1 : decide (x < x) = false := by simp
    go_enter Tryd.func31, Tryd.ntmps31
    go_wp2
    go_ret
    exact ⟨rfl, rfl⟩
  · have d1 : decide (x < y) = false := by simp; omega
    have d2 : decide (y < x) = true := by simpa using h
    rw [cmpI_gt h]
    clear h
    go_enter Tryd.func31, Tryd.ntmps31
    go_wp2
    go_ret
    exact ⟨rfl, rfl⟩
set_option maxRecDepth 100000 in
set_option maxHeartbeats 1000000 in
theorem orC (a b : Int) (g C : Nat) (w : World) (h0 : w.cell? ⟨g, 0, none⟩ = some (.int .i64 a)) (h1 : w.cell? ⟨g, 1, none⟩ = some (.int .i64 b)) :
    Calls Tryd.prog 58 #[.slice (some ⟨g, 0, none⟩) 2 C] w fun e w' => e = .returned (.int .i64 (orI a b)) ∧ w' = w := by
  by_cases ha : a = 0
  · have q1 : (a == 0) = true := by simpa using ha
    have q2 : (a != 0) = false := by simpa using ha
    have q3 : decide (a = 0) = true := by simpa using ha
    by_cases hb : b = 0
    · have e : orI a b = 0 := by unfold orI; rw [if_pos ha, hb]
      subst ha
      subst hb
      rw [e]
      go_enter Tryd.func58, Tryd.ntmps58
      go_wp2
      refine wp_loop_rounds 3 ?_
      rw [rounds_succ]
      go_wp2
      rw [rounds_succ]
      go_wp2
      rw [rounds_succ]
      go_wp2
      go_ret
      exact ⟨rfl, rfl⟩
    · have e : orI a b = b := by unfold orI; rw [if_pos ha]
      have p1 : (b == 0) = false := by simpa using hb
      have p2 : (b != 0) = true := by simpa using hb
      subst ha
      rw [e]
      clear e
      go_enter Tryd.func58, Tryd.ntmps58
      go_wp2
      refine wp_loop_rounds 2 ?_
      rw [rounds_succ]
      go_wp2
      rw [rounds_succ]
      go_wp2
      go_ret
      exact ⟨rfl, rfl⟩
  · have e : orI a b = a := by unfold orI; rw [if_neg ha]
    have p1 : (a == 0) = false := by simpa using ha
    have p2 : (a != 0) = true := by simpa using ha
    rw [e]
    clear e
    go_enter Tryd.func58, Tryd.ntmps58
    go_wp2
    refine wp_loop_rounds 1 ?_
    rw [rounds_succ]
    go_wp2
    go_ret
    exact ⟨rfl, rfl⟩
set_option maxRecDepth 100000 in
set_option maxHeartbeats 2000000 in
theorem nearerC (x1 x2 y1 y2 : Int) (W : World) : Calls Tryd.prog 42 #[.agg #[.int .i64 x1, .int .u64 x2], .agg #[.int .i64 y1, .int .u64 y2]] W fun e w' => e = .returned (.int .i64 (nearF (x1, x2) (y1, y2))) ∧ ∃ q os', w' = grow (W.drewN q) os' := by
  have HN := Lib.hid (show nearF (x1, x2) (y1, y2) = orI (cmpI y2 x2) (cmpI x1 y1) from rfl)
  obtain ⟨r, hr⟩ : ∃ r, nearF (x1, x2) (y1, y2) = r := ⟨_, rfl⟩
  rw [hr] at HN ⊢
  clear hr
  have hcu := fun w => cmpUC y2 x2 w
  have hci := fun w => cmpIC x1 y1 w
  obtain ⟨p, hp⟩ : ∃ p, cmpI y2 x2 = p := ⟨_, rfl⟩
  obtain ⟨s, hs⟩ : ∃ s, cmpI x1 y1 = s := ⟨_, rfl⟩
  rw [hp] at HN hcu
  rw [hs] at HN hci
  have HCU := Lib.hid hcu
  have HCI := Lib.hid hci
  clear hp hs hcu hci
  go_enter Tryd.func42, Tryd.ntmps42
  go_wp2
  generalize hwa : ((W.alloc (Obj.cells #[Value.int IntKind.i64 x1, Value.int IntKind.u64 x2] 77)).alloc (Obj.cells #[Value.int IntKind.i64 y1, Value.int IntKind.u64 y2] 77)) = wa
  have c0 : wa.cell? ⟨W.heap.size, 0, none⟩ = some (.int .i64 x1) := by rw [← hwa]; simp
  have c1 : wa.cell? ⟨W.heap.size, 1, none⟩ = some (.int .u64 x2) := by rw [← hwa]; simp
  have c2 : wa.cell? ⟨W.heap.size + 1, 0, none⟩ = some (.int .i64 y1) := by rw [← hwa]; simp
  have c3 : wa.cell? ⟨W.heap.size + 1, 1, none⟩ = some (.int .u64 y2) := by rw [← hwa]; simp
  have HWA := Lib.hid hwa
  clear hwa
  go_still_tail 10, (by kernel_rfl)
  still_call (still_of ((HCU.out _).mono fun _ _ h => ⟨h.1, h.2.symm⟩))
  repeat still_step
  still_call (still_of ((HCI.out _).mono fun _ _ h => ⟨h.1, h.2.symm⟩))
  refine wpStill_nil ?_
  change wpList _ _ _ _ _ wa.drew
  have HG := Lib.hid (show wa.drew = grow (W.drewN 1) #[.cells #[.int .i64 x1, .int .u64 x2] 77, .cells #[.int .i64 y1, .int .u64 y2] 77] by rw [← HWA.out, alloc_eq_grow, alloc_eq_grow, grow_grow]; rfl)
  clear c0 c1 c2 c3
  generalize hwb : wa.drew = wb at HG ⊢
  clear hwb HWA
  go_wp2_with fail
  refine (orC p s _ _ _ (by simp) (by simp)).mono ?_
  rintro _ _ ⟨rfl, rfl⟩
  rw [← HN.out]
  go_wp2
  go_ret
  exact ⟨rfl, 1, _, by rw [HG.out, alloc_eq_grow, grow_grow]⟩
end Go.Proofs.YtegbgnjmkohcfaaDoor.Rk
namespace Go.Proofs.YtegbgnjmkohcfaaDoor.Rk
set_option linter.unusedVariables false
open Go.ChangeShapes Go.WideShapes Go.ChangeAt Go.RowKit
open Go.Mem Sha Hash
open Go.Sort (grow grow_grow alloc_eq_grow HoldsK)
/-- drives and how near they are, that may be written, from the head of block b on -/
structure WRow (w : World) (b : Nat) (M : List (Int × Int)) : Prop where
  c0 : ∀ i (h : i < M.length), w.cell? ⟨b, i * 2, none⟩ = some (.int .i64 M[i].1)
  c1 : ∀ i (h : i < M.length), w.cell? ⟨b, i * 2 + 1, none⟩ = some (.int .u64 M[i].2)
  free : ∀ j, j < M.length * 2 → w.frozen? ⟨b, j, none⟩ = false
theorem WRow.keep {w w' : World} {b : Nat} {M : List (Int × Int)} (h : WRow w b M) (e : w'.heap[b]? = w.heap[b]?) : WRow w' b M :=
  ⟨fun i hi => (World.cell?_of_block (w := w) (a := ⟨b, i * 2, none⟩) e).trans (h.c0 i hi), fun i hi => (World.cell?_of_block (w := w) (a := ⟨b, i * 2 + 1, none⟩) e).trans (h.c1 i hi),
    fun j hj => (World.frozen?_of_block (w := w) (a := ⟨b, j, none⟩) e).trans (h.free j hj)⟩
theorem WRow.set {w : World} {b : Nat} {M : List (Int × Int)} (h : WRow w b M) (k : Nat) (x y : Int) :
    WRow ((w.setCell ⟨b, k * 2, none⟩ (.int .i64 x)).setCell ⟨b, k * 2 + 1, none⟩ (.int .u64 y)) b (M.set k (x, y)) := by
  refine ⟨fun i hi => ?_, fun i hi => ?_, fun j hj => ?_⟩
  · have hi' : i < M.length := by simpa using hi
    rw [World.cell?_setCell_other _ _ _ _ (fun q => by injection q; omega)]
    by_cases e : i = k
    · subst e
      simp only [List.getElem_set_self]
      exact World.cell?_setCell_same _ _ _ (h.c0 i hi')
    · rw [World.cell?_setCell_other _ _ _ _ (fun q => by injection q; omega)]
      simp only [List.getElem_set_ne (Ne.symm e)]
      exact h.c0 i hi'
  · have hi' : i < M.length := by simpa using hi
    by_cases e : i = k
    · subst e
      simp only [List.getElem_set_self]
      exact World.cell?_setCell_same _ _ _ ((World.cell?_setCell_other _ _ _ _ (fun q => by injection q; omega)).trans (h.c1 i hi'))
    · rw [World.cell?_setCell_other _ _ _ _ (fun q => by injection q; omega), World.cell?_setCell_other _ _ _ _ (fun q => by injection q; omega)]
      simp only [List.getElem_set_ne (Ne.symm e)]
      exact h.c1 i hi'
  · rw [World.frozen?_setCell, World.frozen?_setCell]
    exact h.free j (by simpa using hj)
theorem WRow.made (w : World) (t n : Nat) : WRow (w.alloc (.cells (madeCells #[.int .i64 0, .int .u64 0] (n * 2)) t)) w.heap.size (List.replicate n (0, 0)) := by
  have hm : (madeCells #[.int .i64 0, .int .u64 0] (n * 2) : Array Value).size = n * 2 := size_madeCells _ _
  have h := World.rowIs_alloc w (madeCells #[.int .i64 0, .int .u64 0] (n * 2)) t (fun i => if i % 2 = 0 then .int .i64 0 else .int .u64 0) (fun i hi => by
    have hi' : i < n * 2 := by rw [hm] at hi; exact hi
    rcases (by omega : i % 2 = 0 ∨ i % 2 = 1) with q | q <;> simp [madeCells, hi', q])
  refine ⟨fun i hi => ?_, fun i hi => ?_, fun j _ => h.frozen j⟩
  · have hi' : i < n := by simpa using hi
    rw [h.cell (i := i * 2) (by rw [hm]; omega)]
    simp
  · have hi' : i < n := by simpa using hi
    rw [h.cell (i := i * 2 + 1) (by rw [hm]; omega), if_neg (by omega)]
    simp
theorem enc_get (M : List (Int × Int)) (j : Nat) (hj : j < M.length * 2) : (Go.Sort.flatK encW 2 M.toArray)[j]! = (encW (M[j / 2]'(by omega)))[j % 2]! := by
  rw [Go.Sort.get_flatK _ _ _ _ (by simpa using hj)]
  rw [getElem!_pos M.toArray (j / 2) (by simp; omega)]
  rfl
theorem WRow.holds {w : World} {b : Nat} {M : List (Int × Int)} (h : WRow w b M) : HoldsK encW 2 w b 0 M.toArray := by
  intro j hj
  have hj' : j < M.length * 2 := by simpa [Go.Sort.size_flatK] using hj
  rw [enc_get M j hj', Nat.zero_add]
  refine ⟨?_, h.free j hj'⟩
  rcases (by omega : j % 2 = 0 ∨ j % 2 = 1) with q | q
  · have := h.c0 (j / 2) (by omega)
    rw [show j / 2 * 2 = j by omega] at this
    rw [this, q]
    rfl
  · have := h.c1 (j / 2) (by omega)
    rw [show j / 2 * 2 + 1 = j by omega] at this
    rw [this, q]
    rfl
theorem WRow.of {w : World} {b : Nat} {M : List (Int × Int)} (h : HoldsK encW 2 w b 0 M.toArray) : WRow w b M := by
  refine ⟨fun i hi => ?_, fun i hi => ?_, fun j hj => ?_⟩
  · have := (h (i * 2) (by simp [Go.Sort.size_flatK]; omega)).1
    rw [enc_get M _ (by omega), Nat.zero_add, show i * 2 % 2 = 0 by omega] at this
    rw [this]
    simp only [show i * 2 / 2 = i by omega]
    rfl
  · have := (h (i * 2 + 1) (by simp [Go.Sort.size_flatK]; omega)).1
    rw [enc_get M _ (by omega), Nat.zero_add, show (i * 2 + 1) % 2 = 1 by omega] at this
    rw [this]
    simp only [show (i * 2 + 1) / 2 = i by omega]
    rfl
  · have := (h j (by simp [Go.Sort.size_flatK]; omega)).2
    rwa [Nat.zero_add] at this
theorem sortWorld_below {B b n : Nat} {w : World} (d : Array (Int × Int)) (os : Array Obj) (hB : B ≤ b) (hb : b < w.heap.size) : Below B w (Go.Proofs.sortWorldK encW 2 w b 0 n d os) where
  os := rfl
  tape := rfl
  output := rfl
  size := by simp [Go.Proofs.sortWorldK, grow, Go.Sort.putRowK, Go.Sort.putRow, Go.Sort.mapBlock]
  block k hk := by
    unfold Go.Proofs.sortWorldK
    rw [Go.Sort.heap_grow_old _ _ (by rw [Go.Sort.putRowK, Go.Sort.size_putRow]; show k < w.heap.size; omega)]
    show ((Go.Sort.ahead w n).heap.modify b _)[k]? = _
    rw [Array.getElem?_modify, if_neg (by omega)]
    rfl
def sortP (M : List (Int × Int)) : List (Int × Int) := M.mergeSort (fun x y => !(Go.Proofs.ltOf nearF) y x)
theorem sortP_len (M : List (Int × Int)) : (sortP M).length = M.length := List.length_mergeSort _
def weigh (s : Int) (l : List Int) : List (Int × Int) := l.map (fun x => (x, ((wt s x : Nat) : Int)))
theorem sortP_ord (s : Int) (l : List Int) : (sortP (weigh s l)).map Prod.fst = ord s l := by
  have hp : (sortP (weigh s l)).Perm (weigh s l) := List.mergeSort_perm _ _
  refine ord_eq ⟨?_, ?_⟩
  · have h := hp.map Prod.fst
    rwa [weigh, List.map_map, show (Prod.fst ∘ fun x => (x, ((wt s x : Nat) : Int))) = id from rfl, List.map_id] at h
  · have hs : (sortP (weigh s l)).Pairwise (fun x y => (!(Go.Proofs.ltOf nearF) y x) = true) := by
      refine List.pairwise_mergeSort (fun a b c h1 h2 => ?_) (fun a b => ?_) _
      · rw [near_lt] at *
        simp at *
        omega
      · rw [near_lt, near_lt]
        simp
        omega
    unfold Sorted
    rw [List.pairwise_map]
    refine hs.imp_of_mem (fun {a b} ha hb h => ?_)
    have h1 := hp.mem_iff.1 ha
    have h2 := hp.mem_iff.1 hb
    unfold weigh at h1 h2
    obtain ⟨x, _, rfl⟩ := List.mem_map.1 h1
    obtain ⟨y, _, rfl⟩ := List.mem_map.1 h2
    rw [near_lt] at h
    simp at h
    unfold near
    show wt s y < wt s x ∨ (wt s x = wt s y ∧ x ≤ y)
    omega
set_option maxRecDepth 100000 in
set_option maxHeartbeats 1000000 in
theorem sortC (w : World) (b n C : Nat) (M : List (Int × Int)) (h : WRow w b M) (hb : b < w.heap.size) (hn : M.length = n) (hl : n ≤ 100) :
    Calls Tryd.prog 41 #[.slice (some ⟨b, 0, none⟩) n C, .func (.func 42) #[] #[]] w fun e w' => e = .returned (.tuple #[]) ∧ WRow w' b (sortP M) ∧ Below b w w' := by
  subst hn
  have eg : ∀ args w, (callFunc 42 args).run Tryd.prog w = .ok (.enter 42 args) w := enters_of Tryd.func42 (by kernel_rfl) rfl
  have hcmp : Go.Proofs.CmpLays Tryd.prog 42 #[] encW 2 nearF b 0 M.toArray.size w := fun _ _ _ _ x y => nearerC x.1 x.2 y.1 y.2 _
  have hcon := Go.Proofs.AnyQ.slices_SortFunc_total Tryd.sortW 2 Tryd.isAgg77 Tryd.sizeOf77 encW (fun _ => rfl) (fun x v hv => by simp [encW] at hv; rcases hv with rfl | rfl <;> rfl) nearF near_swo 42 #[] b 0 C M.toArray w eg hcmp h.holds hb (by simp; omega) near_tot
  rw [List.size_toArray] at hcon
  change Calls Tryd.prog 41 _ _ _ at hcon
  refine hcon.mono ?_
  rintro e w' ⟨rfl, n, os, rfl⟩
  refine ⟨rfl, WRow.of ?_, sortWorld_below _ _ (Nat.le_refl _) hb⟩
  refine Go.Sort.holdsK_grow encW 2 _ _ _ _ _ (by rw [Go.Sort.putRowK, Go.Sort.size_putRow]; exact hb) ?_
  exact Go.Sort.holdsK_putRowK encW 2 _ _ _ M.toArray _ (Go.Sort.holdsK_ahead encW 2 _ _ _ _ _ h.holds) (by simp)
end Go.Proofs.YtegbgnjmkohcfaaDoor.Rk
namespace Go.Proofs.YtegbgnjmkohcfaaDoor.Rk
set_option linter.unusedVariables false
open Go.ChangeShapes Go.WideShapes Go.ChangeAt Go.RowKit
open Go.Mem Sha Hash Rec
theorem made_zeros (w : World) (t n : Nat) : RowZ (w.alloc (.cells (madeCells #[.int .i64 0] n) t)) w.heap.size (List.replicate n 0) := by
  have hm : (madeCells #[.int .i64 0] n : Array Value).size = n := size_madeCells _ _
  have h := World.rowIs_alloc w (madeCells #[.int .i64 0] n) t (fun _ => .int .i64 0) (fun i hi => by
    have hi' : i < n := by rw [hm] at hi; exact hi
    simp [madeCells, hi', Nat.mod_one])
  refine ⟨fun i hi => ?_, fun i _ => h.frozen i⟩
  have hi' : i < n := by simpa using hi
  rw [h.cell (i := i) (by rw [hm]; exact hi')]
  simp [List.getD, hi']
/-- the first k of X, and z behind them -/
def fillZ {α : Type} (z : α) (X : List α) (k : Nat) : List α := X.take k ++ List.replicate (X.length - k) z
theorem fillZ_len {α : Type} (z : α) (X : List α) (k : Nat) (h : k ≤ X.length) : (fillZ z X k).length = X.length := by simp [fillZ]; omega
theorem fillZ_set {α : Type} (z : α) (X : List α) (k : Nat) (h : k < X.length) : (fillZ z X k).set k X[k] = fillZ z X (k + 1) := by
  unfold fillZ
  rw [List.set_append_right _ _ (by simp; omega), List.length_take, Nat.min_eq_left (by omega), Nat.sub_self, show X.length - k = (X.length - (k + 1)) + 1 by omega, List.replicate_succ, List.set_cons_zero, List.take_succ_eq_append_getElem h, List.append_assoc]
  rfl
theorem fillZ_zero {α : Type} (z : α) (X : List α) : fillZ z X 0 = List.replicate X.length z := by simp [fillZ]
theorem fillZ_all {α : Type} (z : α) (X : List α) : fillZ z X X.length = X := by simp [fillZ]
theorem makeW (k : Nat) (hk : k ≤ 100) (w : World) : (Instr.makeSlice 75 (.int .i64 (k : Nat)) (.int .i64 (k : Nat))).run Tryd.prog w = .ok (.slice (some ⟨w.heap.size, 0, none⟩) k k) (w.alloc (.cells (madeCells #[.int .i64 0, .int .u64 0] (k * 2)) 77)) := by
  obtain ⟨i, hi, hz0, hz1, hz2⟩ := info_parts (show (Tryd.prog.info? 77).map (fun i => (i.zero, i.size, i.bytes)) = some (some (.agg #[.int .i64 0, .int .u64 0]), 2, 16) by kernel_rfl)
  have hr := run_make (P := Tryd.prog) w 75 77 i _ Tryd.underlying75 hi hz0 .i64 .i64 k k (by omega) (Int.le_refl _) (by rw [hz2]; omega) (by omega)
  simp only [Int.toNat_natCast, hz1] at hr
  exact hr
def WAt (s : Int) (l : List Int) (k : Nat) (W : World) (b : Nat) (wr : World) : Prop := WRow wr b (fillZ (0, 0) (weigh s l) k) ∧ Below W.heap.size W wr ∧ b < wr.heap.size
def OAt (S : List (Int × Int)) (k : Nat) (W : World) (b g : Nat) (wr : World) : Prop := WRow wr b S ∧ RowZ wr g (fillZ 0 (S.map Prod.fst) k) ∧ Below W.heap.size W wr ∧ g < wr.heap.size
set_option maxRecDepth 100000 in
set_option maxHeartbeats 4000000 in
theorem orderC (W : World) (s : Int) (v : Value) (l : List Int) (hT : Tabs W) (hI : Ints W v l) (hs : I64 s) (hl : l.length ≤ 100) :
    Calls Tryd.prog 27 #[.int .i64 s, v] W (Ordered W s l) := by
  obtain ⟨A, C, rfl, g1, g2, -⟩ := hI.shape
  have HI := Lib.hid hI
  have HT := Lib.hid hT
  have H64 := Lib.hid (ints_i64 hI)
  obtain ⟨L, hL⟩ : ∃ L, l.length = L := ⟨_, rfl⟩
  have HL := Lib.hid hL
  have HWL := Lib.hid (show (weigh s l).length = L by unfold weigh; rw [List.length_map, hL])
  rw [hL] at hl g1 HI ⊢
  clear hI hL hT
  have hmk0 := run_make_row' (P := Tryd.prog) 22 3 (.int .i64 0) 8 Tryd.underlying22 infoInt rfl .i64 .i64 L (by omega) (by omega)
  have HMK := Lib.hid hmk0
  have hmk := makeW L hl
  have HST := Lib.hid (show WAt s l 0 W W.heap.size (W.alloc (.cells (madeCells #[.int .i64 0, .int .u64 0] (L * 2)) 77)) from ⟨by rw [fillZ_zero, HWL.out]; exact WRow.made W _ L, (Below.refl _ _).alloc (Nat.le_refl _) _, by simp⟩)
  clear hmk0
  go_enter Tryd.func27, Tryd.ntmps27
  go_wp2
  go_loopw [16] (fun c wr => ∃ k : Nat, k ≤ L ∧ c = .int .i64 k ∧ WAt s l k W W.heap.size wr) (fun c _ => L - (intOf c).toNat)
  case atStart => exact ⟨0, Nat.zero_le _, rfl, HST.out⟩
  case round =>
    clear HST hmk
    obtain ⟨k, hk, rfl, hrow, hbl, hgs⟩ := hrel
    have HBL := Lib.hid hbl
    by_cases hlt : k < L
    · have hk' : k < l.length := by rw [HL.out]; exact hlt
      obtain ⟨b, o, rfl, hc, hz⟩ := (HI.out.below hbl).at hk'
      have hkw : k < (weigh s l).length := by rw [HWL.out]; exact hlt
      have HNX := Lib.hid (fillZ_set ((0 : Int), (0 : Int)) (weigh s l) k hkw)
      have HLN := Lib.hid (fillZ_len ((0 : Int), (0 : Int)) (weigh s l) k (by omega))
      have HGW := Lib.hid (show (weigh s l)[k] = (l[k], ((wt s l[k] : Nat) : Int)) by simp [weigh])
      rw [HGW.out] at HNX
      obtain ⟨x, hx⟩ : ∃ x, l[k] = x := ⟨_, rfl⟩
      rw [hx] at hc hz HNX
      have q1 : (0 : Int) ≤ (k : Int) := by omega
      have q2 : (k : Int) < (L : Int) := by omega
      have HROW := Lib.hid hrow
      clear hrow hbl hk' hx HGW hkw
      go_wp2_with fail
      refine (weightC s x _ (HT.out.below HBL.out)).mono ?_
      rintro _ w1 ⟨rfl, hb1⟩
      have HB1 := Lib.hid (below_nxt HBL.out hb1 (Nat.le_refl _))
      have HR1 := Lib.hid (HROW.out.keep (hb1.block W.heap.size hgs))
      have hkl : k < (fillZ ((0 : Int), (0 : Int)) (weigh s l) k).length := by rw [HLN.out, HWL.out]; exact hlt
      obtain ⟨z0, c0⟩ : ∃ z : Int, w1.cell? ⟨W.heap.size, k * 2, none⟩ = some (.int .i64 z) := ⟨_, HR1.out.c0 k hkl⟩
      obtain ⟨z1, c1⟩ : ∃ z : Int, w1.cell? ⟨W.heap.size, k * 2 + 1, none⟩ = some (.int .u64 z) := ⟨_, HR1.out.c1 k hkl⟩
      have f0 := HR1.out.free (k * 2) (by omega)
      have f1 := HR1.out.free (k * 2 + 1) (by omega)
      have HX := Lib.hid (show WAt s l (k + 1) W W.heap.size ((w1.setCell ⟨W.heap.size, k * 2, none⟩ (.int .i64 x)).setCell ⟨W.heap.size, k * 2 + 1, none⟩ (.int .u64 (wt s x : Nat))) from
        ⟨by rw [← HNX.out]; exact HR1.out.set k x _, (HB1.out.setCell (Nat.le_refl _) _).setCell (Nat.le_refl _) _, by simpa using Nat.lt_of_lt_of_le hgs hb1.size⟩)
      clear hb1 hgs hkl
      go_wp2
      go_roundw
      case rel => exact ⟨k + 1, by omega, by go_num, HX.out⟩
      case measure => simp [intOf]; omega
    · obtain rfl : k = L := by omega
      rw [← HWL.out, fillZ_all] at hrow
      have HROW := Lib.hid hrow
      have HSL := Lib.hid (show (sortP (weigh s l)).length = k by rw [sortP_len, HWL.out])
      have HSO := Lib.hid (sortP_ord s l)
      obtain ⟨S, hS⟩ : ∃ S, sortP (weigh s l) = S := ⟨_, rfl⟩
      rw [hS] at HSL HSO
      have HS := Lib.hid hS
      clear hrow hbl hS
      go_wp2_with fail
      refine (sortC _ W.heap.size k k (weigh s l) HROW.out hgs HWL.out hl).mono ?_
      rintro _ w2 ⟨rfl, hrow2, hb2⟩
      rw [HS.out] at hrow2
      have HB2 := Lib.hid (HBL.out.trans hb2)
      have HR2 := Lib.hid hrow2
      have hmk2 := HMK.out w2
      have HST2 := Lib.hid (show OAt S 0 W W.heap.size w2.heap.size (w2.alloc (.cells (madeCells #[.int .i64 0] k) 3)) from
        ⟨HR2.out.keep (((Below.refl _ _).alloc (Nat.le_refl _) _).block _ (Nat.lt_of_lt_of_le hgs hb2.size)), by rw [fillZ_zero, List.length_map, HSL.out]; exact made_zeros w2 _ k, HB2.out.alloc (by have := HB2.out.size; omega) _, by simp⟩)
      have HGS := Lib.hid (show W.heap.size < w2.heap.size from Nat.lt_of_lt_of_le hgs hb2.size)
      clear hrow2 hb2 hgs HBL HROW
      go_wp2
      go_loopw [37] (fun c wr => ∃ j : Nat, j ≤ k ∧ c = .int .i64 j ∧ OAt S j W W.heap.size w2.heap.size wr) (fun c _ => k - (intOf c).toNat)
      case atStart => exact ⟨0, Nat.zero_le _, rfl, HST2.out⟩
      case round =>
        clear HST2 hmk2
        obtain ⟨j, hj, rfl, hrow, hro, hbl, hgs⟩ := hrel
        have HSM := Lib.hid (show (S.map Prod.fst).length = k by rw [List.length_map, HSL.out])
        by_cases hlt : j < k
        · have q1 : (0 : Int) ≤ (j : Int) := by omega
          have q2 : (j : Int) < (k : Int) := by omega
          have hjS : j < S.length := by rw [HSL.out]; exact hlt
          have hjM : j < (S.map Prod.fst).length := by rw [HSM.out]; exact hlt
          have c0 := hrow.c0 j hjS
          have c1 := hrow.c1 j hjS
          have HNX := Lib.hid (fillZ_set (0 : Int) (S.map Prod.fst) j hjM)
          have HLN := Lib.hid (fillZ_len (0 : Int) (S.map Prod.fst) j (by omega))
          have HGW := Lib.hid (show (S.map Prod.fst)[j] = S[j].1 by simp)
          rw [HGW.out] at HNX
          obtain ⟨x, hx⟩ : ∃ x, S[j].1 = x := ⟨_, rfl⟩
          obtain ⟨y, hy⟩ : ∃ y, S[j].2 = y := ⟨_, rfl⟩
          rw [hx] at c0 HNX
          rw [hy] at c1
          have cc := hro.cell j (by rw [HLN.out]; exact hjM)
          have fr := hro.free j (by rw [HLN.out]; exact hjM)
          have HROW := Lib.hid hrow
          have HRO := Lib.hid hro
          have HBL := Lib.hid hbl
          have HX := Lib.hid (show OAt S (j + 1) W W.heap.size w2.heap.size ((wr.setCell ⟨w2.heap.size, j, none⟩ (.int .i64 x)).alloc (.cells #[.int .i64 x, .int .u64 y] 77)) from by
            have hsz : (wr.setCell ⟨w2.heap.size, j, none⟩ (.int .i64 x)).heap.size = wr.heap.size := by simp
            have hbb : Below w2.heap.size wr ((wr.setCell ⟨w2.heap.size, j, none⟩ (.int .i64 x)).alloc (.cells #[.int .i64 x, .int .u64 y] 77)) := ((Below.refl w2.heap.size wr).setCell (Nat.le_refl w2.heap.size) _).alloc (by rw [hsz]; omega) _
            refine ⟨hrow.keep (hbb.block _ HGS.out), ?_, hbl.trans (hbb.mono HB2.out.size), by simp; omega⟩
            rw [← HNX.out]
            exact (hro.set j x).keep (((Below.refl (wr.setCell ⟨w2.heap.size, j, none⟩ (.int .i64 x)).heap.size _).alloc (Nat.le_refl _) _).block w2.heap.size (by rw [hsz]; exact hgs)))
          clear hrow hro hbl hx hy HGW hjS hjM
          go_wp2
          go_roundw
          case rel => exact ⟨j + 1, by omega, by go_num, HX.out⟩
          case measure => simp [intOf]; omega
        · obtain rfl : j = k := by omega
          have hro2 := hro
          rw [show fillZ 0 (S.map Prod.fst) j = ord s l by rw [← HSM.out, fillZ_all, HSO.out]] at hro2
          have hol : (ord s l).length = j := by rw [ord_len, HL.out]
          have hin := hro2.ints (C := j) (fun x hx => H64.out x (ord_mem.1 hx)) (by omega) (by omega)
          rw [hol] at hin
          have HIN := Lib.hid hin
          have HBL := Lib.hid hbl
          clear hrow hro hro2 hbl hol hin
          go_wp2
          go_ret
          exact ⟨_, rfl, HIN.out, HBL.out⟩
set_option maxRecDepth 100000 in
set_option maxHeartbeats 4000000 in
theorem inC (W : World) (v : Value) (l : List Int) (hI : Ints W v l) (hl : l.length ≤ 100) :
    Calls Tryd.prog 26 #[v] W fun e w' => ∃ u, e = .returned u ∧ Ints w' u (insOf l) ∧ Below W.heap.size W w' := by
  obtain ⟨A, C, rfl, g1, g2, -⟩ := hI.shape
  have HI := Lib.hid hI
  obtain ⟨L, hL⟩ : ∃ L, l.length = L := ⟨_, rfl⟩
  have HL := Lib.hid hL
  have HIL := Lib.hid (show ∀ k, (insOf (l.take k)).length ≤ L from fun k => Nat.le_trans (insOf_len _) (by rw [List.length_take]; omega))
  rw [hL] at hl g1 HI ⊢
  clear hI hL
  go_enter Tryd.func26, Tryd.ntmps26
  go_wp2
  go_loopw [3, 8] (fun v c wr => ∃ k : Nat, k ≤ L ∧ c = .int .i64 k ∧ InsAt l k W v wr) (fun _ c _ => L - (intOf c).toNat)
  case atStart => exact ⟨0, Nat.zero_le _, rfl, by rw [InsAt, List.take_zero]; exact ⟨Built.start _ _ _, Below.refl _ _⟩⟩
  case round =>
    obtain ⟨k, hk, rfl, hbu, hbl⟩ := hrel
    have HBU := Lib.hid hbu
    have HBL := Lib.hid hbl
    by_cases hlt : k < L
    · have hk' : k < l.length := by rw [HL.out]; exact hlt
      obtain ⟨b, o, rfl, hc, hz⟩ := (HI.out.below hbl).at hk'
      have HNX := Lib.hid (insOf_take hk')
      obtain ⟨x, hx⟩ : ∃ x, l[k] = x := ⟨_, rfl⟩
      rw [hx] at hc hz HNX
      have q1 : (0 : Int) ≤ (k : Int) := by omega
      have q2 : (k : Int) < (L : Int) := by omega
      obtain ⟨A1, C1, e1, hl1, hl2⟩ := hbu.len
      obtain ⟨M, hM⟩ : ∃ M, (insOf (l.take k)).length = M := ⟨_, rfl⟩
      have HM := Lib.hid hM
      rw [hM] at e1 hl1
      subst e1
      have hML : M ≤ L := by rw [← hM]; exact HIL.out k
      clear hbu hx hk' hM
      by_cases h1 : x = 1
      · have hq : (x == 1) = true := by rw [h1]; rfl
        have HNX2 := Lib.hid (show insOf (l.take (k + 1)) = insOf (l.take k) ++ [(k : Int)] by rw [HNX.out, if_pos h1])
        clear h1 hbl
        go_wp2_with (at_builtin; refine wpList_append_built (R := IntR) _ rfl (.tmp 15) (.tmp 17) 22 rfl W.heap.size 3 (.int .i64 0) 8 Tryd.underlying22 infoInt rfl _ _ rfl HBU.out _ (k : Int) _ rfl rfl rfl (fun _ _ => ⟨rfl, by omega, by omega⟩) (by rw [HM.out]; omega) HBL.out.size ?_; intro v' w' hbu' hg' hb'; have HX := Lib.hid (show InsAt l (k + 1) W v' w' from ⟨by rw [HNX2.out]; exact hbu', HBL.out.trans hb'⟩); obtain ⟨A2, C2, e2, _⟩ := hbu'.len; obtain ⟨L2, hL2⟩ : ∃ L2, (insOf (l.take k) ++ [(k : Int)]).length = L2 := ⟨_, rfl⟩; rw [hL2] at e2; subst e2; clear hbu' hg' hb' hL2)
        go_roundw
        case rel => exact ⟨k + 1, by omega, by go_num, HX.out⟩
        case measure => simp [intOf]; omega
      · have hq : (x == 1) = false := by simpa using h1
        have HX := Lib.hid (show InsAt l (k + 1) W (.slice A1 M C1) wr from ⟨by rw [HNX.out, if_neg h1, List.append_nil]; exact HBU.out, HBL.out⟩)
        clear h1 hbl
        go_wp2
        go_roundw
        case rel => exact ⟨k + 1, by omega, by go_num, HX.out⟩
        case measure => simp [intOf]; omega
    · obtain rfl : k = L := by omega
      rw [List.take_of_length_le (Nat.le_of_eq HL.out)] at HBU
      obtain ⟨A1, C1, e1, hl1, hl2⟩ := hbu.len
      have HIN := Lib.hid (show Ints wr _ (insOf l) from HBU.out.slice)
      obtain ⟨M, hM⟩ : ∃ M, (insOf (l.take k)).length = M := ⟨_, rfl⟩
      rw [hM] at e1
      subst e1
      clear hbu hbl hM HBU
      go_wp2
      go_ret
      exact ⟨_, rfl, HIN.out, HBL.out⟩
theorem ints_take3 {w : World} {A : Option Addr} {n C : Nat} {l : List Int} (h : Ints w (.slice A n C) l) {j D : Nat} (hj : j ≤ l.length) (hD : j ≤ D) (hC : D ≤ C) : Ints w (.slice A j D) (l.take j) := by
  obtain ⟨A', n', C', q1, q2, q3, q4, q5, q6⟩ := h
  cases q1
  refine ⟨A, j, D, rfl, by simp; omega, hD, by omega, fun e => by have := q5 e; omega, fun i hi => ?_⟩
  have hi' : i < j := by simp at hi; omega
  rw [List.getElem_take]
  exact q6 i (by omega)
set_option maxRecDepth 100000 in
set_option maxHeartbeats 4000000 in
theorem targetsC (W : World) (s : Int) (v : Value) (l : List Int) (n : Int) (hT : Tabs W) (hI : Ints W v l) (hs : I64 s) (hn : I64 n) (hl : l.length ≤ 100) :
    Calls Tryd.prog 20 #[.int .i64 s, v, .int .i64 n] W (Tgted W s l n) := by
  obtain ⟨A, C, rfl, g1, g2, -⟩ := hI.shape
  have HI := Lib.hid hI
  have HT := Lib.hid hT
  obtain ⟨n0, n1⟩ := hn
  have HTO := Lib.hid (show tgtOk l n = (decide (0 ≤ n) && decide (n ≤ ((insOf l).length : Int))) from rfl)
  have HOL := Lib.hid (ord_len s (insOf l))
  have hle : (insOf l).length ≤ 100 := Nat.le_trans (insOf_len l) hl
  have HLN := Lib.hid hl
  obtain ⟨M, hM⟩ : ∃ M, (insOf l).length = M := ⟨_, rfl⟩
  have HM := Lib.hid hM
  rw [hM] at HTO HOL hle
  clear hI hT hM
  go_enter Tryd.func20, Tryd.ntmps20
  go_wp2_with fail
  refine (inC _ _ l HI.out HLN.out).mono ?_
  rintro _ w1 ⟨u1, rfl, hu1, hb1⟩
  obtain ⟨A1, C1, rfl, k1, k2, -⟩ := hu1.shape
  rw [HM.out] at hu1 k1 ⊢
  have HU1 := Lib.hid hu1
  have HB1 := Lib.hid hb1
  clear hu1 hb1
  by_cases c1 : n < 0
  · have d1 : decide (n < 0) = true := by simpa using c1
    have HF := Lib.hid (show tgtOk l n = false by rw [HTO.out]; simp; omega)
    go_wp2
    go_ret2
    exact ⟨.slice none 0 0, by rw [HF.out]; rfl, by rw [tgt_no HF.out]; exact Ints.nil _, HB1.out⟩
  · have d1 : decide (n < 0) = false := by simpa using c1
    by_cases c2 : (M : Int) < n
    · have d2 : decide ((M : Int) < n) = true := by simpa using c2
      have HF := Lib.hid (show tgtOk l n = false by rw [HTO.out]; simp; omega)
      go_wp2
      go_ret2
      exact ⟨.slice none 0 0, by rw [HF.out]; rfl, by rw [tgt_no HF.out]; exact Ints.nil _, HB1.out⟩
    · have d2 : decide ((M : Int) < n) = false := by simpa using c2
      have HF := Lib.hid (show tgtOk l n = true by rw [HTO.out]; simp; omega)
      obtain ⟨N, rfl⟩ := Int.eq_ofNat_of_zero_le (show 0 ≤ n by omega)
      have hNM : N ≤ M := by omega
      go_wp2_with fail
      refine (orderC _ s _ (insOf l) (HT.out.below HB1.out) HU1.out hs (by rw [HM.out]; exact hle)).mono ?_
      rintro _ w2 ⟨u, rfl, hu, hb2⟩
      have HB2 := Lib.hid (below_nxt HB1.out hb2 (Nat.le_refl _))
      obtain ⟨A2, C2, rfl, k3, k4, -⟩ := hu.shape
      rw [HOL.out] at hu k3 ⊢
      have hNC : N ≤ C2 := by omega
      have HTT := Lib.hid (show Ints w2 (.slice A2 N N) (tgt s l (N : Nat)) by
        rw [tgt_yes HF.out, Int.toNat_natCast]
        exact ints_take3 hu (by rw [HOL.out]; omega) (Nat.le_refl _) hNC)
      clear hu hb2
      go_wp2
      go_ret2
      exact ⟨.slice A2 N N, by rw [HF.out]; rfl, HTT.out, HB2.out⟩
end Go.Proofs.YtegbgnjmkohcfaaDoor.Rk
