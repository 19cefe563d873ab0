/- A table of the call's own whose rows are put in, one by one. No program is named here. -/
import Derived.Test.YtmcodfjaeaociaaSq
import Derived.Deep.Slices
namespace Go.Mem
open Go.RowKit
/-- n rows: row j has m j bytes and lies in block g j (C j places), the places of the rows in block P0 -/
structure Rws (w : World) (P0 n : Nat) (g m C : Nat → Nat) (F : Nat → Nat → Nat) : Prop where
  cell : ∀ j, j < n → w.cell? ⟨P0, j, none⟩ = some (.slice (some ⟨g j, 0, none⟩) (m j) (C j))
  free : ∀ j, j < n → w.frozen? ⟨P0, j, none⟩ = false
  cap : ∀ j, j < n → m j ≤ C j ∧ C j ≤ 9223372036854775807
  row : ∀ j, j < n → Row w (g j) 0 (m j) (F j)
  ne : ∀ j, j < n → g j ≠ P0
  hi : P0 < w.heap.size ∧ ∀ j, j < n → g j < w.heap.size
variable {w w' : World} {P0 n : Nat} {g m C : Nat → Nat} {F : Nat → Nat → Nat}
theorem Rws.below (h : Rws w P0 n g m C F) (hb : Below w.heap.size w w') : Rws w' P0 n g m C F :=
  ⟨fun j hj => (hb.cell (p := ⟨P0, j, none⟩) h.hi.1).trans (h.cell j hj), fun j hj => (hb.frozen (p := ⟨P0, j, none⟩) h.hi.1).trans (h.free j hj), h.cap, fun j hj => (h.row j hj).keep (hb.block _ (h.hi.2 j hj)), h.ne,
    Nat.lt_of_lt_of_le h.hi.1 hb.size, fun j hj => Nat.lt_of_lt_of_le (h.hi.2 j hj) hb.size⟩
theorem Rws.congr {m' : Nat → Nat} {F' : Nat → Nat → Nat} (h : Rws w P0 n g m C F) (em : ∀ j, j < n → m' j = m j) (e : ∀ j, j < n → ∀ i, i < m j → F' j i = F j i) : Rws w P0 n g m' C F' :=
  ⟨fun j hj => by rw [em j hj]; exact h.cell j hj, h.free, fun j hj => by rw [em j hj]; exact h.cap j hj, fun j hj => by rw [em j hj]; exact (h.row j hj).congr (e j hj), h.ne, h.hi⟩
/-- row k becomes another one -/
theorem Rws.put (h : Rws w P0 n g m C F) {k g' m' C' : Nat} {f : Nat → Nat} (hk : k < n) (hr : Row w g' 0 m' f) (hg : g' ≠ P0) (hlt : g' < w.heap.size) (hC : m' ≤ C' ∧ C' ≤ 9223372036854775807) :
    Rws (w.setCell ⟨P0, k, none⟩ (.slice (some ⟨g', 0, none⟩) m' C')) P0 n (fun j => if j = k then g' else g j) (fun j => if j = k then m' else m j) (fun j => if j = k then C' else C j) (fun j => if j = k then f else F j) := by
  have hs : (w.setCell ⟨P0, k, none⟩ (.slice (some ⟨g', 0, none⟩) m' C')).heap.size = w.heap.size := by simp [World.setCell]
  refine ⟨fun j hj => ?_, fun j hj => by rw [World.frozen?_setCell]; exact h.free j hj, fun j hj => ?_, fun j hj => ?_, fun j hj => ?_, by rw [hs]; exact h.hi.1, fun j hj => ?_⟩
  · by_cases e : j = k
    · subst e; rw [World.cell?_setCell_same _ _ _ (h.cell j hj)]; simp
    · rw [set_other e, h.cell j hj]; simp [e]
  · by_cases e : j = k
    · simp only [if_pos e]; exact hC
    · simp only [if_neg e]; exact h.cap j hj
  · by_cases e : j = k
    · simp only [if_pos e]; exact hr.keep (Below.heap_setCell _ _ _ _ hg)
    · simp only [if_neg e]; exact (h.row j hj).keep (Below.heap_setCell _ _ _ _ (h.ne j hj))
  · by_cases e : j = k
    · simp only [if_pos e]; exact hg
    · simp only [if_neg e]; exact h.ne j hj
  · rw [hs]
    by_cases e : j = k
    · simp only [if_pos e]; exact hlt
    · simp only [if_neg e]; exact h.hi.2 j hj
theorem Rws.tab {mm : Nat} (h : Rws w P0 n g m C F) (hn : n ≤ 9223372036854775807) (hm : ∀ j, j < n → m j = mm) : Tab w (.slice (some ⟨P0, 0, none⟩) n n) (tabOf n mm F) := by
  refine ⟨some ⟨P0, 0, none⟩, n, n, rfl, by rw [tabOf_len], Nat.le_refl _, by unfold maxLen; exact hn, (fun e => by cases e), fun i hi => ?_⟩
  rw [tabOf_len] at hi
  refine ⟨P0, 0, _, rfl, by rw [Nat.zero_add]; exact h.cell i hi, ?_⟩
  have hc := h.cap i hi
  have := (h.row i hi).bytes hc.1 hc.2
  rw [hm i hi] at this ⊢
  simpa [tabOf] using this
theorem Rws.sq {mm base : Nat} (h : Rws w P0 n g m C F) (hm : ∀ j, j < n → m j = mm) (inj : ∀ i j, i < n → j < n → i ≠ j → g i ≠ g j) (lo : base ≤ P0 ∧ ∀ j, j < n → base ≤ g j) : Sq w base P0 n mm g C F :=
  ⟨fun j hj => by rw [← hm j hj]; exact h.cell j hj, h.free, fun j hj => by rw [← hm j hj]; exact h.cap j hj, fun j hj => by rw [← hm j hj]; exact h.row j hj, h.ne, inj, lo, h.hi⟩
theorem Sq.rws {mm base : Nat} (h : Sq w base P0 n mm g C F) : Rws w P0 n g (fun _ => mm) C F := ⟨h.cell, h.free, h.cap, h.row, h.ne, h.hi⟩
theorem Fam.rws {B t mm : Nat} (h : Fam w B P0 t n mm n F) (hB : B ≤ w.heap.size) (hm : mm ≤ 9223372036854775807) : ∃ g, Rws w P0 n g (fun _ => mm) (fun _ => mm) F := by
  have hins := h.inside
  obtain ⟨⟨V, hV, hr⟩, hlt⟩ := h
  obtain ⟨g, hg⟩ := Deep.choose_lt hr
  exact ⟨g, fun j hj => by rw [hV.cell hj, (hg j hj).1], fun j _ => hV.frozen j, fun _ _ => ⟨Nat.le_refl _, hm⟩, fun j hj => (hg j hj).2.2.2, fun j hj => (hg j hj).2.2.1, hins, fun j hj => by have := (hg j hj).2.1; omega⟩
/-- what was built byte by byte, as a row -/
theorem Built.row {base t : Nat} {v : Value} {L : List Nat} (h : Built ByteR w base t v L) (h0 : 0 < L.length) :
    ∃ b cap, v = .slice (some ⟨b, 0, none⟩) L.length cap ∧ L.length ≤ cap ∧ cap ≤ 9223372036854775807 ∧ base ≤ b ∧ b < w.heap.size ∧ Row w b 0 L.length (fun i => L.getD i 0) := by
  have hsl := h.slice
  have hlt := h.own_lt
  obtain ⟨xs, hrow, hel⟩ := h
  rcases hrow.2 with ⟨_, e2⟩ | ⟨b, cap, cur, e1, _, e3, e4, e5, _, _⟩
  · omega
  · have hl := hlt b (by rw [e1]; rfl)
    rw [e1] at hsl
    refine ⟨b, cap, e1, e4, e5, hl.1, hl.2, fun i hi => ?_, fun i hi => ?_, fun i _ => by simp [World.frozen?, e3]⟩
    · obtain ⟨hc, _⟩ := Bytes.here hsl hi
      rw [hc]; simp [hi]
    · obtain ⟨_, hb⟩ := Bytes.here hsl hi
      simpa [hi] using hb
end Go.Mem
