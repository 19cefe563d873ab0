/- A table of the call's own whose rows change places and are written. No program is named here. -/
import Derived.Test.YtmcodfjaeaociaaOwn
namespace Go.Mem
open Go.RowKit
/-- n rows of m bytes: row j lies in block G j (C j places), the places of the rows in block P0; all are the call's own, from block base on -/
structure Sq (w : World) (base P0 n m : Nat) (G C : Nat → Nat) (F : Nat → Nat → Nat) : Prop where
  cell : ∀ j, j < n → w.cell? ⟨P0, j, none⟩ = some (.slice (some ⟨G j, 0, none⟩) m (C j))
  free : ∀ j, j < n → w.frozen? ⟨P0, j, none⟩ = false
  cap : ∀ j, j < n → m ≤ C j ∧ C j ≤ 9223372036854775807
  row : ∀ j, j < n → Row w (G j) 0 m (F j)
  ne : ∀ j, j < n → G j ≠ P0
  inj : ∀ i j, i < n → j < n → i ≠ j → G i ≠ G j
  lo : base ≤ P0 ∧ ∀ j, j < n → base ≤ G j
  hi : P0 < w.heap.size ∧ ∀ j, j < n → G j < w.heap.size
variable {w w' : World} {base P0 n m : Nat} {G C : Nat → Nat} {F : Nat → Nat → Nat}
theorem Sq.congr {F' : Nat → Nat → Nat} (h : Sq w base P0 n m G C F) (e : ∀ j, j < n → ∀ i, i < m → F' j i = F j i) : Sq w base P0 n m G C F' :=
  ⟨h.cell, h.free, h.cap, fun j hj => (h.row j hj).congr (e j hj), h.ne, h.inj, h.lo, h.hi⟩
theorem Sq.keep (h : Sq w base P0 n m G C F) (hs : w.heap.size ≤ w'.heap.size) (hP : w'.heap[P0]? = w.heap[P0]?) (hG : ∀ j, j < n → w'.heap[G j]? = w.heap[G j]?) : Sq w' base P0 n m G C F :=
  ⟨fun j hj => (World.cell?_of_block (w := w) (a := ⟨P0, j, none⟩) hP).trans (h.cell j hj), fun j hj => (World.frozen?_of_block (w := w) (a := ⟨P0, j, none⟩) hP).trans (h.free j hj), h.cap,
    fun j hj => (h.row j hj).keep (hG j hj), h.ne, h.inj, h.lo, Nat.lt_of_lt_of_le h.hi.1 hs, fun j hj => Nat.lt_of_lt_of_le (h.hi.2 j hj) hs⟩
theorem Sq.below (h : Sq w base P0 n m G C F) (hb : Below w.heap.size w w') : Sq w' base P0 n m G C F :=
  h.keep hb.size (hb.block _ h.hi.1) (fun j hj => hb.block _ (h.hi.2 j hj))
theorem Sq.drewN (h : Sq w base P0 n m G C F) (k : Nat) : Sq (w.drewN k) base P0 n m G C F := h.below (below_drewN _ _ _)
/-- the rows from row a on, as a slice -/
theorem Sq.tab (h : Sq w base P0 n m G C F) {a : Nat} (hn : n ≤ 9223372036854775807) : Tab w (.slice (some ⟨P0, a, none⟩) (n - a) (n - a)) (tabOf (n - a) m (fun i => F (a + i))) := by
  refine ⟨some ⟨P0, a, none⟩, n - a, n - a, rfl, by rw [tabOf_len], Nat.le_refl _, by unfold maxLen; omega, (fun e => by cases e), fun i hi => ?_⟩
  rw [tabOf_len] at hi
  refine ⟨P0, a, _, rfl, h.cell (a + i) (by omega), ?_⟩
  have hc := h.cap (a + i) (by omega)
  have := (h.row (a + i) (by omega)).bytes hc.1 hc.2
  simpa [tabOf] using this
/-- row a alone is written -/
theorem Sq.turn (h : Sq w base P0 n m G C F) {a : Nat} (ha : a < n) {g : Nat → Nat} (hg : w.grownBy w' (some (G a))) (hr : Row w' (G a) 0 m g) : Sq w' base P0 n m G C (fun j => if j = a then g else F j) := by
  have hP : w'.heap[P0]? = w.heap[P0]? := hg.block _ h.hi.1 (fun e => h.ne a ha (by injection e with e; exact e.symm))
  refine ⟨fun j hj => (World.cell?_of_block (w := w) (a := ⟨P0, j, none⟩) hP).trans (h.cell j hj), fun j hj => (World.frozen?_of_block (w := w) (a := ⟨P0, j, none⟩) hP).trans (h.free j hj), h.cap, fun j hj => ?_, h.ne, h.inj, h.lo,
    Nat.lt_of_lt_of_le h.hi.1 hg.size, fun j hj => Nat.lt_of_lt_of_le (h.hi.2 j hj) hg.size⟩
  by_cases e : j = a
  · subst e; rw [if_pos rfl]; exact hr
  · rw [if_neg e]
    exact (h.row j hj).keep (hg.block _ (h.hi.2 j hj) (fun q => h.inj j a hj ha e (by injection q)))
def swapF {α : Type} (F : Nat → α) (a b : Nat) : Nat → α := fun i => if i = a then F b else if i = b then F a else F i
theorem swapF_lt (a b j n : Nat) (ha : a < n) (hb : b < n) (hj : j < n) {p : Nat → Prop} (h : ∀ i, i < n → p i) {α : Type} (F : Nat → α) : ∃ i, i < n ∧ p i ∧ swapF F a b j = F i := by
  unfold swapF
  by_cases e : j = a
  · exact ⟨b, hb, h b hb, by rw [if_pos e]⟩
  · rw [if_neg e]
    by_cases e' : j = b
    · exact ⟨a, ha, h a ha, by rw [if_pos e']⟩
    · exact ⟨j, hj, h j hj, by rw [if_neg e']⟩
/-- the place that place j has become -/
def sw (a b j : Nat) : Nat := if j = a then b else if j = b then a else j
theorem swapF_sw {α : Type} (F : Nat → α) (a b j : Nat) : swapF F a b j = F (sw a b j) := by
  unfold swapF sw
  split
  · rfl
  · split <;> rfl
theorem sw_lt {a b j n : Nat} (ha : a < n) (hb : b < n) (hj : j < n) : sw a b j < n := by
  unfold sw; split
  · exact hb
  · split <;> assumption
theorem sw_inj {a b i j : Nat} (h : i ≠ j) : sw a b i ≠ sw a b j := by
  unfold sw; split <;> split <;> (try split) <;> (try split) <;> omega
theorem set_other {w : World} {P0 a j : Nat} {v : Value} (h : j ≠ a) : (w.setCell ⟨P0, a, none⟩ v).cell? ⟨P0, j, none⟩ = w.cell? ⟨P0, j, none⟩ :=
  World.cell?_setCell_other _ _ _ _ (fun e => h (by injection e with _ e; exact e.symm))
/-- rows a and b change places -/
theorem Sq.swap (h : Sq w base P0 n m G C F) {a b : Nat} (ha : a < n) (hb : b < n) :
    Sq ((w.setCell ⟨P0, a, none⟩ (.slice (some ⟨G b, 0, none⟩) m (C b))).setCell ⟨P0, b, none⟩ (.slice (some ⟨G a, 0, none⟩) m (C a))) base P0 n m (swapF G a b) (swapF C a b) (swapF F a b) := by
  have hs : ∀ (w : World) (p : Addr) (v : Value), (w.setCell p v).heap.size = w.heap.size := fun w p v => by simp [World.setCell]
  have hrow : ∀ j, j < n → Row ((w.setCell ⟨P0, a, none⟩ (.slice (some ⟨G b, 0, none⟩) m (C b))).setCell ⟨P0, b, none⟩ (.slice (some ⟨G a, 0, none⟩) m (C a))) (G j) 0 m (F j) := fun j hj =>
    ((h.row j hj).keep (Below.heap_setCell _ _ _ _ (h.ne j hj))).keep (Below.heap_setCell _ _ _ _ (h.ne j hj))
  refine ⟨fun j hj => ?_, fun j hj => ?_, fun j hj => ?_, fun j hj => ?_, fun j hj => ?_, fun i j hi hj hne => ?_, ⟨h.lo.1, fun j hj => ?_⟩, ?_, fun j hj => ?_⟩
  · by_cases e : j = b
    · subst e
      have h1 : ∃ u, (w.setCell ⟨P0, a, none⟩ (.slice (some ⟨G j, 0, none⟩) m (C j))).cell? ⟨P0, j, none⟩ = some u := by
        by_cases e' : j = a
        · subst e'; exact ⟨_, World.cell?_setCell_same _ _ _ (h.cell j hj)⟩
        · exact ⟨_, (set_other e').trans (h.cell j hj)⟩
      obtain ⟨u, hu⟩ := h1
      rw [World.cell?_setCell_same _ _ _ hu]
      unfold swapF
      by_cases e' : j = a
      · subst e'; rw [if_pos rfl, if_pos rfl]
      · rw [if_neg e', if_neg e', if_pos rfl, if_pos rfl]
    · rw [set_other e]
      unfold swapF
      by_cases e' : j = a
      · subst e'; rw [World.cell?_setCell_same _ _ _ (h.cell j hj), if_pos rfl, if_pos rfl]
      · rw [set_other e', h.cell j hj, if_neg e', if_neg e', if_neg e, if_neg e]
  · rw [World.frozen?_setCell, World.frozen?_setCell]; exact h.free j hj
  · rw [swapF_sw]; exact h.cap _ (sw_lt ha hb hj)
  · rw [swapF_sw G, swapF_sw F]; exact hrow _ (sw_lt ha hb hj)
  · rw [swapF_sw]; exact h.ne _ (sw_lt ha hb hj)
  · rw [swapF_sw, swapF_sw]; exact h.inj _ _ (sw_lt ha hb hi) (sw_lt ha hb hj) (sw_inj hne)
  · rw [swapF_sw]; exact h.lo.2 _ (sw_lt ha hb hj)
  · rw [hs, hs]; exact h.hi.1
  · rw [hs, hs, swapF_sw]; exact h.hi.2 _ (sw_lt ha hb hj)
end Go.Mem
