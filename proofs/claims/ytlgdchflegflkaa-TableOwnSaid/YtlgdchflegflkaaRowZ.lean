/- Ints in memory that may be written; copies; two rows. No program is named here. -/
import Derived.Test.YtlgdchflegflkaaRecD
import Derived.Test.YtlgdchflegflkaaZeros
namespace Go.Mem
open Go.RowKit
set_option linter.unusedVariables false
/-- ints that may be written, from the head of block b on -/
structure RowZ (w : World) (b : Nat) (m : List Int) : Prop where
  cell : ∀ i, i < m.length → w.cell? ⟨b, i, none⟩ = some (.int .i64 (m.getD i 0))
  free : ∀ i, i < m.length → w.frozen? ⟨b, i, none⟩ = false
theorem RowZ.lt {w : World} {b : Nat} {m : List Int} (h : RowZ w b m) (hn : 0 < m.length) : b < w.heap.size := World.block_lt_of_cell? _ _ (h.cell 0 hn)
theorem RowZ.keep {w w' : World} {b : Nat} {m : List Int} (h : RowZ w b m) (e : w'.heap[b]? = w.heap[b]?) : RowZ w' b m :=
  ⟨fun i hi => (World.cell?_of_block (w := w) (a := ⟨b, i, none⟩) e).trans (h.cell i hi), fun i hi => (World.frozen?_of_block (w := w) (a := ⟨b, i, none⟩) e).trans (h.free i hi)⟩
theorem RowZ.below {w w' : World} {b : Nat} {m : List Int} (h : RowZ w b m) (hn : 0 < m.length) (hb : Below w.heap.size w w') : RowZ w' b m := h.keep (hb.block b (h.lt hn))
theorem RowZ.set {w : World} {b : Nat} {m : List Int} (h : RowZ w b m) (k : Nat) (x : Int) : RowZ (w.setCell ⟨b, k, none⟩ (.int .i64 x)) b (m.set k x) := by
  refine ⟨fun i hi => ?_, fun i hi => ?_⟩
  · have hi' : i < m.length := by simpa using hi
    by_cases e : i = k
    · subst e
      rw [show (m.set i x).getD i 0 = x by simp [List.getD, hi']]
      exact World.cell?_setCell_same _ _ _ (h.cell i hi')
    · rw [World.cell?_setCell_other _ _ _ _ (fun q => by injection q; omega), show (m.set k x).getD i 0 = m.getD i 0 by simp [List.getD, Ne.symm e]]
      exact h.cell i hi'
  · rw [World.frozen?_setCell]
    exact h.free i (by simpa using hi)
theorem intR_world : ∀ (w1 w2 : World) (c : Value) (x : Int), IntR w1 c x → IntR w2 c x := fun _ _ _ _ h => h
theorem intR_one : ∀ (w : World) (c : Value) (x : Int), IntR w c x → c.oneCell' = true := fun _ _ _ h => by rw [h.1]; rfl
theorem built_rowZ {w : World} {base t : Nat} {v : Value} {L : List Int} (h : Built IntR w base t v L) (h0 : 0 < L.length) : ∃ g C, v = .slice (some ⟨g, 0, none⟩) L.length C ∧ L.length ≤ C ∧ C ≤ 9223372036854775807 ∧ base ≤ g ∧ RowZ w g L := by
  obtain ⟨xs, h1, h2⟩ := h
  have hs := Built.slice ⟨xs, h1, h2⟩
  rcases h1.2 with ⟨_, e⟩ | ⟨g, cap, cur, e, hb, hg, h3, h4, _, _⟩
  · omega
  · subst e
    refine ⟨g, cap, rfl, h3, by unfold maxLen at h4; exact h4, hb, fun i hi => ?_, fun i hi => by simp [World.frozen?, hg]⟩
    have hI : Ints w (.slice (some ⟨g, 0, none⟩) L.length cap) L := hs
    have := (hI.here hi).1
    rw [Nat.zero_add] at this
    rw [this]
    simp [List.getD, hi]
theorem RowZ.ints {w : World} {b C : Nat} {m : List Int} (h : RowZ w b m) (hi : ∀ x ∈ m, I64 x) (h1 : m.length ≤ C) (h2 : C ≤ 9223372036854775807) : Ints w (.slice (some ⟨b, 0, none⟩) m.length C) m :=
  ⟨some ⟨b, 0, none⟩, m.length, C, rfl, rfl, h1, by unfold maxLen; exact h2, (fun e => by cases e), fun i hj => ⟨b, 0, .int .i64 m[i], rfl, by rw [Nat.zero_add, h.cell i hj]; simp [List.getD, hj], rfl, hi _ (List.getElem_mem hj)⟩⟩
theorem ints_i64 {w : World} {v : Value} {l : List Int} (h : Ints w v l) : ∀ x ∈ l, I64 x := by
  intro x hx
  obtain ⟨i, hi, rfl⟩ := List.getElem_of_mem hx
  obtain ⟨A, C, rfl, _⟩ := h.shape
  obtain ⟨_, _, _, _, q⟩ := h.at hi
  exact q
theorem made_rowZ (w : World) (t n : Nat) : RowZ (w.alloc (.cells (madeCells #[.int .i64 0] n) t)) w.heap.size (List.replicate n 0) := by
  have hm : (madeCells #[.int .i64 0] n : Array Value).size = n := size_madeCells _ _
  have h := World.rowIs_alloc w (madeCells #[.int .i64 0] n) t (fun _ => .int .i64 0) (fun i hi => by
    have hi' : i < n := by rw [hm] at hi; exact hi
    simp [madeCells, hi', Nat.mod_one])
  refine ⟨fun i hi => ?_, fun i _ => h.frozen i⟩
  have hi' : i < n := by simpa using hi
  rw [h.cell (i := i) (by rw [hm]; exact hi')]
  simp [List.getD, hi']
def onesTo (n k : Nat) : List Int := List.replicate k 1 ++ List.replicate (n - k) 0
theorem onesTo_len {n k : Nat} (h : k ≤ n) : (onesTo n k).length = n := by simp [onesTo]; omega
theorem onesTo_set {n k : Nat} (h : k < n) : (onesTo n k).set k 1 = onesTo n (k + 1) := by
  unfold onesTo
  rw [List.set_append_right _ _ (by simp), List.length_replicate, Nat.sub_self, show n - k = (n - (k + 1)) + 1 by omega, List.replicate_succ, List.set_cons_zero, List.replicate_succ', List.append_assoc]
  rfl
theorem two_ints (T : TypeId) (w : World) (x y : Int) (hx : I64 x) (hy : I64 y) : Ints (w.alloc (.cells #[.int .i64 x, .int .i64 y] T)) (.slice (some ⟨w.heap.size, 0, none⟩) 2 2) [x, y] := by
  have h := World.rowIs_alloc w #[.int .i64 x, .int .i64 y] T (fun i => if i = 0 then .int .i64 x else .int .i64 y) (fun i hi => by
    have : i < 2 := hi
    rcases (by omega : i = 0 ∨ i = 1) with rfl | rfl <;> rfl)
  refine ⟨_, 2, 2, rfl, rfl, Nat.le_refl _, by decide, (fun e => by cases e), fun i hi => ?_⟩
  have hi' : i < 2 := hi
  rcases (by omega : i = 0 ∨ i = 1) with rfl | rfl
  · exact ⟨_, 0, _, rfl, h.cell (i := 0) (by omega), rfl, hx⟩
  · exact ⟨_, 0, _, rfl, h.cell (i := 1) (by omega), rfl, hy⟩
theorem one_int (T : TypeId) (w : World) (x : Int) (hx : I64 x) : Ints (w.alloc (.cells #[.int .i64 x] T)) (.slice (some ⟨w.heap.size, 0, none⟩) 1 1) [x] := by
  have h := World.rowIs_alloc w #[.int .i64 x] T (fun _ => .int .i64 x) (fun i hi => by
    have : i < 1 := hi
    rw [show i = 0 by omega]; rfl)
  refine ⟨_, 1, 1, rfl, rfl, Nat.le_refl _, by decide, (fun e => by cases e), fun i hi => ?_⟩
  have hi' : i < 1 := hi
  obtain rfl : i = 0 := by omega
  exact ⟨_, 0, _, rfl, h.cell (i := 0) (by omega), rfl, hx⟩
theorem below_nxt {B : Nat} {w w1 w2 : World} (h : Below B w w1) (k : Below w1.heap.size w1 w2) (hB : B ≤ w.heap.size) : Below B w w2 := h.trans (k.mono (Nat.le_trans hB h.size))
end Go.Mem
