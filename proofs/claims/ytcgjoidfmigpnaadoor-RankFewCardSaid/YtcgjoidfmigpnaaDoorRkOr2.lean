/- The program's drives while they are sorted: as they stand in memory; the sort. -/
import Derived.Test.YtcgjoidfmigpnaaDoorRkOr
import Derived.Test.YtcgjoidfmigpnaaDoorShelf
namespace Go.Proofs.YtcgjoidfmigpnaaDoor.Rk
set_option linter.unusedVariables false
open Go.ChangeShapes Go.WideShapes Go.ChangeAt Go.RowKit
open Go.Mem Sha Hash
open Go.Sort (grow grow_grow alloc_eq_grow HoldsK)
/-- drives and how near they are, that may be written, from the head of block b on -/
structure WRow (w : World) (b : Nat) (M : List (Int × Int)) : Prop where
  c0 : ∀ i (h : i < M.length), w.cell? ⟨b, i * 2, none⟩ = some (.int .i64 M[i].1)
  c1 : ∀ i (h : i < M.length), w.cell? ⟨b, i * 2 + 1, none⟩ = some (.int .u64 M[i].2)
  free : ∀ j, j < M.length * 2 → w.frozen? ⟨b, j, none⟩ = false
theorem WRow.keep {w w' : World} {b : Nat} {M : List (Int × Int)} (h : WRow w b M) (e : w'.heap[b]? = w.heap[b]?) : WRow w' b M :=
  ⟨fun i hi => (World.cell?_of_block (w := w) (a := ⟨b, i * 2, none⟩) e).trans (h.c0 i hi), fun i hi => (World.cell?_of_block (w := w) (a := ⟨b, i * 2 + 1, none⟩) e).trans (h.c1 i hi),
    fun j hj => (World.frozen?_of_block (w := w) (a := ⟨b, j, none⟩) e).trans (h.free j hj)⟩
theorem WRow.set {w : World} {b : Nat} {M : List (Int × Int)} (h : WRow w b M) (k : Nat) (x y : Int) :
    WRow ((w.setCell ⟨b, k * 2, none⟩ (.int .i64 x)).setCell ⟨b, k * 2 + 1, none⟩ (.int .u64 y)) b (M.set k (x, y)) := by
  refine ⟨fun i hi => ?_, fun i hi => ?_, fun j hj => ?_⟩
  · have hi' : i < M.length := by simpa using hi
    rw [World.cell?_setCell_other _ _ _ _ (fun q => by injection q; omega)]
    by_cases e : i = k
    · subst e
      simp only [List.getElem_set_self]
      exact World.cell?_setCell_same _ _ _ (h.c0 i hi')
    · rw [World.cell?_setCell_other _ _ _ _ (fun q => by injection q; omega)]
      simp only [List.getElem_set_ne (Ne.symm e)]
      exact h.c0 i hi'
  · have hi' : i < M.length := by simpa using hi
    by_cases e : i = k
    · subst e
      simp only [List.getElem_set_self]
      exact World.cell?_setCell_same _ _ _ ((World.cell?_setCell_other _ _ _ _ (fun q => by injection q; omega)).trans (h.c1 i hi'))
    · rw [World.cell?_setCell_other _ _ _ _ (fun q => by injection q; omega), World.cell?_setCell_other _ _ _ _ (fun q => by injection q; omega)]
      simp only [List.getElem_set_ne (Ne.symm e)]
      exact h.c1 i hi'
  · rw [World.frozen?_setCell, World.frozen?_setCell]
    exact h.free j (by simpa using hj)
theorem WRow.made (w : World) (t n : Nat) : WRow (w.alloc (.cells (madeCells #[.int .i64 0, .int .u64 0] (n * 2)) t)) w.heap.size (List.replicate n (0, 0)) := by
  have hm : (madeCells #[.int .i64 0, .int .u64 0] (n * 2) : Array Value).size = n * 2 := size_madeCells _ _
  have h := World.rowIs_alloc w (madeCells #[.int .i64 0, .int .u64 0] (n * 2)) t (fun i => if i % 2 = 0 then .int .i64 0 else .int .u64 0) (fun i hi => by
    have hi' : i < n * 2 := by rw [hm] at hi; exact hi
    rcases (by omega : i % 2 = 0 ∨ i % 2 = 1) with q | q <;> simp [madeCells, hi', q])
  refine ⟨fun i hi => ?_, fun i hi => ?_, fun j _ => h.frozen j⟩
  · have hi' : i < n := by simpa using hi
    rw [h.cell (i := i * 2) (by rw [hm]; omega)]
    simp
  · have hi' : i < n := by simpa using hi
    rw [h.cell (i := i * 2 + 1) (by rw [hm]; omega), if_neg (by omega)]
    simp
theorem enc_get (M : List (Int × Int)) (j : Nat) (hj : j < M.length * 2) : (Go.Sort.flatK encW 2 M.toArray)[j]! = (encW (M[j / 2]'(by omega)))[j % 2]! := by
  rw [Go.Sort.get_flatK _ _ _ _ (by simpa using hj)]
  rw [getElem!_pos M.toArray (j / 2) (by simp; omega)]
  rfl
theorem WRow.holds {w : World} {b : Nat} {M : List (Int × Int)} (h : WRow w b M) : HoldsK encW 2 w b 0 M.toArray := by
  intro j hj
  have hj' : j < M.length * 2 := by simpa [Go.Sort.size_flatK] using hj
  rw [enc_get M j hj', Nat.zero_add]
  refine ⟨?_, h.free j hj'⟩
  rcases (by omega : j % 2 = 0 ∨ j % 2 = 1) with q | q
  · have := h.c0 (j / 2) (by omega)
    rw [show j / 2 * 2 = j by omega] at this
    rw [this, q]
    rfl
  · have := h.c1 (j / 2) (by omega)
    rw [show j / 2 * 2 + 1 = j by omega] at this
    rw [this, q]
    rfl
theorem WRow.of {w : World} {b : Nat} {M : List (Int × Int)} (h : HoldsK encW 2 w b 0 M.toArray) : WRow w b M := by
  refine ⟨fun i hi => ?_, fun i hi => ?_, fun j hj => ?_⟩
  · have := (h (i * 2) (by simp [Go.Sort.size_flatK]; omega)).1
    rw [enc_get M _ (by omega), Nat.zero_add, show i * 2 % 2 = 0 by omega] at this
    rw [this]
    simp only [show i * 2 / 2 = i by omega]
    rfl
  · have := (h (i * 2 + 1) (by simp [Go.Sort.size_flatK]; omega)).1
    rw [enc_get M _ (by omega), Nat.zero_add, show (i * 2 + 1) % 2 = 1 by omega] at this
    rw [this]
    simp only [show (i * 2 + 1) / 2 = i by omega]
    rfl
  · have := (h j (by simp [Go.Sort.size_flatK]; omega)).2
    rwa [Nat.zero_add] at this
theorem sortWorld_below {B b n : Nat} {w : World} (d : Array (Int × Int)) (os : Array Obj) (hB : B ≤ b) (hb : b < w.heap.size) : Below B w (Go.Proofs.sortWorldK encW 2 w b 0 n d os) where
  os := rfl
  tape := rfl
  output := rfl
  size := by simp [Go.Proofs.sortWorldK, grow, Go.Sort.putRowK, Go.Sort.putRow, Go.Sort.mapBlock]
  block k hk := by
    unfold Go.Proofs.sortWorldK
    rw [Go.Sort.heap_grow_old _ _ (by rw [Go.Sort.putRowK, Go.Sort.size_putRow]; show k < w.heap.size; omega)]
    show ((Go.Sort.ahead w n).heap.modify b _)[k]? = _
    rw [Array.getElem?_modify, if_neg (by omega)]
    rfl
def sortP (M : List (Int × Int)) : List (Int × Int) := M.mergeSort (fun x y => !(Go.Proofs.ltOf nearF) y x)
theorem sortP_len (M : List (Int × Int)) : (sortP M).length = M.length := List.length_mergeSort _
def weigh (s : Int) (l : List Int) : List (Int × Int) := l.map (fun x => (x, ((wt s x : Nat) : Int)))
theorem sortP_ord (s : Int) (l : List Int) : (sortP (weigh s l)).map Prod.fst = ord s l := by
  have hp : (sortP (weigh s l)).Perm (weigh s l) := List.mergeSort_perm _ _
  refine ord_eq ⟨?_, ?_⟩
  · have h := hp.map Prod.fst
    rwa [weigh, List.map_map, show (Prod.fst ∘ fun x => (x, ((wt s x : Nat) : Int))) = id from rfl, List.map_id] at h
  · have hs : (sortP (weigh s l)).Pairwise (fun x y => (!(Go.Proofs.ltOf nearF) y x) = true) := by
      refine List.pairwise_mergeSort (fun a b c h1 h2 => ?_) (fun a b => ?_) _
      · rw [near_lt] at *
        simp at *
        omega
      · rw [near_lt, near_lt]
        simp
        omega
    unfold Sorted
    rw [List.pairwise_map]
    refine hs.imp_of_mem (fun {a b} ha hb h => ?_)
    have h1 := hp.mem_iff.1 ha
    have h2 := hp.mem_iff.1 hb
    unfold weigh at h1 h2
    obtain ⟨x, _, rfl⟩ := List.mem_map.1 h1
    obtain ⟨y, _, rfl⟩ := List.mem_map.1 h2
    rw [near_lt] at h
    simp at h
    unfold near
    show wt s y < wt s x ∨ (wt s x = wt s y ∧ x ≤ y)
    omega
set_option maxHeartbeats 1000000 in
theorem sortC (w : World) (b n C : Nat) (M : List (Int × Int)) (h : WRow w b M) (hb : b < w.heap.size) (hn : M.length = n) (hl : n ≤ 100) :
    Calls Tryd.prog 16 #[.slice (some ⟨b, 0, none⟩) n C, .func (.func 17) #[] #[]] w fun e w' => e = .returned (.tuple #[]) ∧ WRow w' b (sortP M) ∧ Below b w w' := by
  subst hn
  have eg : ∀ args w, (callFunc 17 args).run Tryd.prog w = .ok (.enter 17 args) w := enters_of Tryd.func17 (by kernel_rfl) rfl
  have hcmp : Go.Proofs.CmpLays Tryd.prog 17 #[] encW 2 nearF b 0 M.toArray.size w := fun _ _ _ _ x y => nearerC x.1 x.2 y.1 y.2 _
  have hcon := Go.Proofs.AnyQ.slices_SortFunc_total Tryd.sortW 2 Tryd.isAgg37 Tryd.sizeOf37 encW (fun _ => rfl) (fun x v hv => by simp [encW] at hv; rcases hv with rfl | rfl <;> rfl) nearF near_swo 17 #[] b 0 C M.toArray w eg hcmp h.holds hb (by simp; omega) near_tot
  rw [List.size_toArray] at hcon
  change Calls Tryd.prog 16 _ _ _ at hcon
  refine hcon.mono ?_
  rintro e w' ⟨rfl, n, os, rfl⟩
  refine ⟨rfl, WRow.of ?_, sortWorld_below _ _ (Nat.le_refl _) hb⟩
  refine Go.Sort.holdsK_grow encW 2 _ _ _ _ _ (by rw [Go.Sort.putRowK, Go.Sort.size_putRow]; exact hb) ?_
  exact Go.Sort.holdsK_putRowK encW 2 _ _ _ M.toArray _ (Go.Sort.holdsK_ahead encW 2 _ _ _ _ _ h.holds) (by simp)
end Go.Proofs.YtcgjoidfmigpnaaDoor.Rk
