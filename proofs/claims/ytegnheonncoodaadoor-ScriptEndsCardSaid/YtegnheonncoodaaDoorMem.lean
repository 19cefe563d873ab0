/- What slices in memory read as: lists of bytes, lists of such lists; that such a reading goes on in every world that has turned nothing of what was there. No program is named here. -/
import Derived.WalkKit
import Derived.ProofKit
import Derived.OpenShut
import Derived.Deep.OwnRows
import Derived.Deep.Draws
import Derived.Deep.QuietTactic
import Derived.BigQuiet
import Derived.Lib.Hide
namespace Go.Mem
open Go.RowKit
/-- v is a slice of one-cell elements that read, each by R, as the elements of l -/
def SliceOf {α : Type} (R : World → Value → α → Prop) (w : World) (v : Value) (l : List α) : Prop :=
  ∃ (A : Option Addr) (n C : Nat), v = .slice A n C ∧ n = l.length ∧ n ≤ C ∧ C ≤ maxLen ∧ (A = none → C = 0) ∧
    ∀ i (h : i < l.length), ∃ b o c, A = some ⟨b, o, none⟩ ∧ w.cell? ⟨b, o + i, none⟩ = some c ∧ R w c l[i]
def ByteR (_ : World) (c : Value) (x : Nat) : Prop := c = .int .u8 x ∧ x < 256
def Bytes (w : World) (v : Value) (l : List Nat) : Prop := SliceOf ByteR w v l
def Tab (w : World) (v : Value) (M : List (List Nat)) : Prop := SliceOf Bytes w v M
theorem SliceOf.mono {α : Type} {R R' : World → Value → α → Prop} {w w' : World} {v : Value} {l : List α} (h : SliceOf R w v l)
    (hc : ∀ a c, w.cell? a = some c → w'.cell? a = some c) (hR : ∀ c x, R w c x → R' w' c x) : SliceOf R' w' v l := by
  obtain ⟨A, n, C, h1, h2, h3, h4, h5, h6⟩ := h
  refine ⟨A, n, C, h1, h2, h3, h4, h5, fun i hi => ?_⟩
  obtain ⟨b, o, c, e1, e2, e3⟩ := h6 i hi
  exact ⟨b, o, c, e1, hc _ _ e2, hR _ _ e3⟩
theorem below_cell {w w' : World} (hb : Below w.heap.size w w') (a : Addr) (c : Value) (h : w.cell? a = some c) : w'.cell? a = some c :=
  (hb.cell (World.block_lt_of_cell? _ _ h)).trans h
theorem Bytes.below {w w' : World} {v : Value} {l : List Nat} (h : Bytes w v l) (hb : Below w.heap.size w w') : Bytes w' v l :=
  SliceOf.mono h (below_cell hb) (fun _ _ h => h)
theorem Tab.below {w w' : World} {v : Value} {M : List (List Nat)} (h : Tab w v M) (hb : Below w.heap.size w w') : Tab w' v M :=
  SliceOf.mono h (below_cell hb) (fun _ _ h => Bytes.below h hb)
/-- the cell of a byte -/
theorem Bytes.at {w : World} {A : Option Addr} {n C : Nat} {l : List Nat} (h : Bytes w (.slice A n C) l) {i : Nat} (hi : i < l.length) :
    ∃ b o, A = some ⟨b, o, none⟩ ∧ w.cell? ⟨b, o + i, none⟩ = some (.int .u8 (l[i] : Nat)) ∧ l[i] < 256 := by
  obtain ⟨A', n', C', h1, _, _, _, _, h6⟩ := h
  cases h1
  obtain ⟨b, o, c, e1, e2, e3, e4⟩ := h6 i hi
  exact ⟨b, o, e1, by rw [e2, e3], e4⟩
/-- the cell of a row -/
theorem Tab.at {w : World} {A : Option Addr} {n C : Nat} {M : List (List Nat)} (h : Tab w (.slice A n C) M) {i : Nat} (hi : i < M.length) :
    ∃ b o A' C', A = some ⟨b, o, none⟩ ∧ w.cell? ⟨b, o + i, none⟩ = some (.slice A' M[i].length C') ∧ M[i].length ≤ 9223372036854775807 ∧ Bytes w (.slice A' M[i].length C') M[i] := by
  obtain ⟨A', n', C', h1, _, _, _, _, h6⟩ := h
  cases h1
  obtain ⟨b, o, c, e1, e2, e3⟩ := h6 i hi
  have h7 := e3
  obtain ⟨A'', n'', C'', k1, k2, k3, k4, _⟩ := e3
  subst k2; subst k1
  unfold maxLen at k4
  exact ⟨b, o, A'', C'', e1, e2, by omega, h7⟩
theorem Tab.here {w : World} {b o n C : Nat} {M : List (List Nat)} (h : Tab w (.slice (some ⟨b, o, none⟩) n C) M) {i : Nat} (hi : i < M.length) :
    ∃ A' C', w.cell? ⟨b, o + i, none⟩ = some (.slice A' M[i].length C') ∧ M[i].length ≤ 9223372036854775807 ∧ Bytes w (.slice A' M[i].length C') M[i] := by
  obtain ⟨b', o', A', C', e, h1, h2, h3⟩ := h.at hi
  cases e
  exact ⟨A', C', h1, h2, h3⟩
theorem Bytes.here {w : World} {b o n C : Nat} {l : List Nat} (h : Bytes w (.slice (some ⟨b, o, none⟩) n C) l) {i : Nat} (hi : i < l.length) :
    w.cell? ⟨b, o + i, none⟩ = some (.int .u8 (l[i] : Nat)) ∧ l[i] < 256 := by
  obtain ⟨b', o', e, h1, h2⟩ := h.at hi
  cases e
  exact ⟨h1, h2⟩
theorem SliceOf.shape {α : Type} {R : World → Value → α → Prop} {w : World} {v : Value} {l : List α} (h : SliceOf R w v l) :
    ∃ A C, v = .slice A l.length C ∧ l.length ≤ C ∧ C ≤ 9223372036854775807 ∧ (A = none → C = 0) := by
  obtain ⟨A, n, C, h1, h2, h3, h4, h5, _⟩ := h
  subst h2; unfold maxLen at h4
  exact ⟨A, C, h1, h3, h4, h5⟩
theorem Bytes.shape {w : World} {v : Value} {l : List Nat} (h : Bytes w v l) : ∃ A C, v = .slice A l.length C ∧ l.length ≤ C ∧ C ≤ 9223372036854775807 ∧ (A = none → C = 0) := SliceOf.shape h
theorem Tab.shape {w : World} {v : Value} {M : List (List Nat)} (h : Tab w v M) : ∃ A C, v = .slice A M.length C ∧ M.length ≤ C ∧ C ≤ 9223372036854775807 ∧ (A = none → C = 0) := SliceOf.shape h
theorem below_drewN (B : Nat) (w : World) (n : Nat) : Below B w (w.drewN n) := ⟨rfl, rfl, rfl, Nat.le_refl _, fun _ _ => rfl⟩
theorem Bytes.drewN {w : World} {v : Value} {l : List Nat} (h : Bytes w v l) (n : Nat) : Bytes (w.drewN n) v l := h.below (below_drewN _ _ _)
theorem Tab.drewN {w : World} {v : Value} {M : List (List Nat)} (h : Tab w v M) (n : Nat) : Tab (w.drewN n) v M := h.below (below_drewN _ _ _)
theorem ret_bool {a b : Bool} (h : a = b) : Ending.returned (.bool a) = .returned (.bool b) := by rw [h]
/-- a reader's contract, behind draws that are counted already -/
theorem quiet_at {P : Program} {f : FuncId} {args : Array Value} {w : World} {a n : Nat} {v : Value} (h : Calls P f args (w.drewN (a + n)) fun e w' => e = .returned v ∧ ∃ m, w' = (w.drewN (a + n)).drewN m) :
    Calls P f args (w.drewN (a + n)) fun e w' => e = .returned v ∧ ∃ m, w' = w.drewN (a + m) :=
  h.mono fun _ _ hh => by
    obtain ⟨he, m, hm⟩ := hh
    exact ⟨he, n + m, by rw [hm, World.drewN_drewN, Nat.add_assoc]⟩
theorem quiets (w : World) (n m : Nat) : ∃ k, (w.drewN n).drewN m = w.drewN k := ⟨n + m, World.drewN_drewN ..⟩
/-- a reader's contract, in a region whose reads come first -/
theorem still_of {P : Program} {f : FuncId} {args : Array Value} {w : World} {v : Value} (h : Calls P f args w fun e w' => e = .returned v ∧ w = w') : Calls P f args w fun e w' => e = .returned v ∧ w' = w :=
  h.mono fun _ _ hh => ⟨hh.1, hh.2.symm⟩
/-- n bytes that may be written, from place o of block b on; byte i is g i -/
structure Row (w : World) (b o n : Nat) (g : Nat → Nat) : Prop where
  cell : ∀ i, i < n → w.cell? ⟨b, o + i, none⟩ = some (.int .u8 (g i : Nat))
  bd : ∀ i, i < n → g i < 256
  free : ∀ i, i < n → w.frozen? ⟨b, o + i, none⟩ = false
theorem Row.congr {w : World} {b o n : Nat} {g g' : Nat → Nat} (h : Row w b o n g) (e : ∀ i, i < n → g' i = g i) : Row w b o n g' :=
  ⟨fun i hi => by rw [e i hi]; exact h.cell i hi, fun i hi => by rw [e i hi]; exact h.bd i hi, h.free⟩
theorem Row.lt {w : World} {b o n : Nat} {g : Nat → Nat} (h : Row w b o n g) (hn : 0 < n) : b < w.heap.size :=
  World.block_lt_of_cell? _ _ (h.cell 0 hn)
theorem Row.keep {w w' : World} {b o n : Nat} {g : Nat → Nat} (h : Row w b o n g) (e : w'.heap[b]? = w.heap[b]?) : Row w' b o n g :=
  ⟨fun i hi => (World.cell?_of_block (w := w) (a := ⟨b, o + i, none⟩) e).trans (h.cell i hi), h.bd, fun i hi => (World.frozen?_of_block (w := w) (a := ⟨b, o + i, none⟩) e).trans (h.free i hi)⟩
theorem Row.drewN {w : World} {b o n : Nat} {g : Nat → Nat} (h : Row w b o n g) (k : Nat) : Row (w.drewN k) b o n g := h.keep rfl
theorem Row.drew {w : World} {b o n : Nat} {g : Nat → Nat} (h : Row w b o n g) : Row w.drew b o n g := h.keep rfl
theorem Row.set {w : World} {b o n : Nat} {g : Nat → Nat} (h : Row w b o n g) {k x : Nat} (hk : k < n) (hx : x < 256) : Row (w.setCell ⟨b, o + k, none⟩ (.int .u8 (x : Nat))) b o n (fun i => if i = k then x else g i) := by
  refine ⟨fun i hi => ?_, fun i hi => ?_, fun i hi => ?_⟩
  · by_cases e : i = k
    · subst e
      rw [if_pos rfl]
      exact World.cell?_setCell_same _ _ _ (h.cell i hi)
    · rw [if_neg e, World.cell?_setCell_other _ _ _ _ (fun q => by injection q; omega)]
      exact h.cell i hi
  · by_cases e : i = k
    · rw [if_pos e]; exact hx
    · rw [if_neg e]; exact h.bd i hi
  · rw [World.frozen?_setCell]; exact h.free i hi
/-- the same row as a slice -/
theorem Row.bytes {w : World} {b o n C : Nat} {g : Nat → Nat} (h : Row w b o n g) (hC : n ≤ C) (hm : C ≤ 9223372036854775807) : Bytes w (.slice (some ⟨b, o, none⟩) n C) ((List.range n).map g) :=
  ⟨some ⟨b, o, none⟩, n, C, rfl, by simp, hC, by unfold maxLen; exact hm, (fun e => by cases e), fun i hi => by
    have hi' : i < n := by simpa using hi
    exact ⟨b, o, _, rfl, h.cell i hi', by simp, by simpa using h.bd i hi'⟩⟩
/-- only block b, and what is new, has turned -/
theorem grown_drewN {a w : World} {b : Option Nat} (h : a.grownBy w b) (n : Nat) : a.grownBy (w.drewN n) b := ⟨h.os, h.tape, h.output, h.size, h.block⟩
theorem grown_set {a w : World} {b o : Nat} (h : a.grownBy w (some b)) (u : Value) : a.grownBy (w.setCell ⟨b, o, none⟩ u) (some b) :=
  ⟨h.os, h.tape, h.output, by simpa [World.setCell] using h.size, fun i hi hne => (Below.heap_setCell w ⟨b, o, none⟩ u i (fun e => hne (by rw [e]))).trans (h.block i hi hne)⟩
theorem grown_of_drew {w w' : World} {b : Option Nat} (h : w.drew.grownBy w' b) : w.grownBy w' b := ⟨h.os, h.tape, h.output, h.size, h.block⟩
/-- v lies elsewhere than in block b -/
def Off (v : Value) (b : Nat) : Prop := ∀ a n C, v = .slice (some a) n C → 0 < n → a.block ≠ b
theorem Bytes.far {w : World} {v : Value} {l : List Nat} {b : Nat} (h : Bytes w v l) (hb : w.heap.size ≤ b) : Off v b := by
  intro a n C e hn
  obtain ⟨A, n', C', h1, h2, h3, h4, h5, h6⟩ := h
  rw [h1] at e
  cases e
  obtain ⟨b1, o1, c, e1, e2, e3⟩ := h6 0 (by omega)
  cases e1
  have hlt : b1 < w.heap.size := World.block_lt_of_cell? _ _ e2
  show b1 ≠ b
  omega
theorem Bytes.off {w w' : World} {v : Value} {l : List Nat} {b : Nat} (h : Bytes w v l) (ho : Off v b) (hg : w.grownBy w' (some b)) : Bytes w' v l := by
  obtain ⟨A, n, C, h1, h2, h3, h4, h5, h6⟩ := h
  refine ⟨A, n, C, h1, h2, h3, h4, h5, fun i hi => ?_⟩
  obtain ⟨b1, o1, c, e1, e2, e3⟩ := h6 i hi
  refine ⟨b1, o1, c, e1, ?_, e3⟩
  have hne : b1 ≠ b := ho ⟨b1, o1, none⟩ n C (by rw [h1, e1]) (by omega)
  rw [World.cell?_of_block (w := w) (a := ⟨b1, o1 + i, none⟩) (hg.block b1 (World.block_lt_of_cell? _ _ e2) (fun e => hne (by injection e)))]
  exact e2
/-- A table that the call makes row by row: its own row of n places lies in block P0, k rows of m bytes stand in it; all lie below block B. -/
structure Fam (w : World) (B P0 t n m k : Nat) (F : Nat → Nat → Nat) : Prop where
  ex : ∃ V : Nat → Value, w.rowIs P0 t n V ∧ ∀ j, j < k → ∃ g, V j = .slice (some ⟨g, 0, none⟩) m m ∧ g < B ∧ g ≠ P0 ∧ Row w g 0 m (F j)
  lt : P0 < B
theorem Fam.below {w w' : World} {B P0 t n m k : Nat} {F : Nat → Nat → Nat} (h : Fam w B P0 t n m k F) (hb : Below B w w') : Fam w' B P0 t n m k F := by
  obtain ⟨⟨V, hV, hr⟩, hlt⟩ := h
  refine ⟨⟨V, hV.of_block (hb.block _ hlt), fun j hj => ?_⟩, hlt⟩
  obtain ⟨g, e, hg, hn, hrow⟩ := hr j hj
  exact ⟨g, e, hg, hn, hrow.keep (hb.block g hg)⟩
theorem Fam.start (w : World) (t n m : Nat) (F : Nat → Nat → Nat) : Fam (w.alloc (.cells (madeCells #[.slice none 0 0] n) t)) (w.heap.size + 1) w.heap.size t n m 0 F :=
  ⟨⟨_, World.rowIs_made w _ n t, fun _ hj => absurd hj (by omega)⟩, by omega⟩
theorem Fam.store {w : World} {B P0 t n m k : Nat} {F : Nat → Nat → Nat} (h : Fam w B P0 t n m k F) (u : Value) : Fam (w.setCell ⟨P0, k, none⟩ u) B P0 t n m k F := by
  obtain ⟨⟨V, hV, hr⟩, hlt⟩ := h
  refine ⟨⟨_, hV.set k u, fun j hj => ?_⟩, hlt⟩
  obtain ⟨g, e, hg, hn, hrow⟩ := hr j hj
  refine ⟨g, by rw [if_neg (by omega)]; exact e, hg, hn, hrow.keep (Below.heap_setCell _ _ _ _ hn)⟩
theorem Fam.cell {w : World} {B P0 t n m k : Nat} {F : Nat → Nat → Nat} (h : Fam w B P0 t n m k F) {i : Nat} (hi : i < n) : ∃ u, w.cell? ⟨P0, i, none⟩ = some u := by
  obtain ⟨⟨V, hV, _⟩, _⟩ := h
  exact ⟨_, hV.cell hi⟩
theorem Fam.free {w : World} {B P0 t n m k : Nat} {F : Nat → Nat → Nat} (h : Fam w B P0 t n m k F) (i : Nat) : w.frozen? ⟨P0, i, none⟩ = false := by
  obtain ⟨⟨V, hV, _⟩, _⟩ := h
  exact hV.frozen i
theorem Fam.inside {w : World} {B P0 t n m k : Nat} {F : Nat → Nat → Nat} (h : Fam w B P0 t n m k F) : P0 < w.heap.size := by
  obtain ⟨⟨V, hV, _⟩, _⟩ := h
  exact hV.lt
theorem Fam.next {w : World} {B B' P0 t n m k g : Nat} {F : Nat → Nat → Nat} (h : Fam w B P0 t n m k F) (hk : k < n) (hc : w.cell? ⟨P0, k, none⟩ = some (.slice (some ⟨g, 0, none⟩) m m)) (hg : g ≠ P0) (hgB : g < B') (hB : B ≤ B')
    (hr : Row w g 0 m (F k)) : Fam w B' P0 t n m (k + 1) F := by
  obtain ⟨⟨V, hV, hr'⟩, hlt⟩ := h
  refine ⟨⟨V, hV, fun j hj => ?_⟩, by omega⟩
  by_cases e : j = k
  · subst e
    have := hV.cell hk
    rw [hc] at this
    exact ⟨g, by injection this with this; exact this.symm, hgB, hg, hr⟩
  · obtain ⟨g', e', hg', hn', hrow⟩ := hr' j (by omega)
    exact ⟨g', e', by omega, hn', hrow⟩
def tabOf (n m : Nat) (F : Nat → Nat → Nat) : List (List Nat) := (List.range n).map fun j => (List.range m).map (F j)
theorem Fam.tab {w : World} {B P0 t n m : Nat} {F : Nat → Nat → Nat} (h : Fam w B P0 t n m n F) (hn : n ≤ 9223372036854775807) (hm : m ≤ 9223372036854775807) : Tab w (.slice (some ⟨P0, 0, none⟩) n n) (tabOf n m F) := by
  obtain ⟨⟨V, hV, hr⟩, _⟩ := h
  refine ⟨some ⟨P0, 0, none⟩, n, n, rfl, by simp [tabOf], Nat.le_refl _, by unfold maxLen; exact hn, (fun e => by cases e), fun i hi => ?_⟩
  have hi' : i < n := by simpa [tabOf] using hi
  obtain ⟨g, e, _, _, hrow⟩ := hr i hi'
  refine ⟨P0, 0, _, rfl, by rw [Nat.zero_add]; exact hV.cell hi', ?_⟩
  rw [e]
  have := hrow.bytes (Nat.le_refl _) hm
  simpa [tabOf] using this
/-- what make lays for n bytes -/
theorem Row.made (w : World) (t n : Nat) : Row (w.alloc (.cells (madeCells #[.int .u8 0] n) t)) w.heap.size 0 n (fun _ => 0) :=
  ⟨fun i hi => by rw [Nat.zero_add]; exact (World.rowIs_made w (.int .u8 0) n t).cell hi, fun _ _ => by omega, fun i _ => (World.rowIs_made w (.int .u8 0) n t).frozen _⟩
/-- .. and row k of it is being filled, in block B -/
structure Inner (w wi : World) (B P0 t n m k : Nat) (F : Nat → Nat → Nat) (g : Nat → Nat) : Prop where
  fam : Fam wi B P0 t n m k F
  cur : wi.cell? ⟨P0, k, none⟩ = some (.slice (some ⟨B, 0, none⟩) m m)
  row : Row wi B 0 m g
  old : Below w.heap.size w wi
  lt : B < wi.heap.size
  ge : w.heap.size ≤ P0
theorem Inner.start {w wr : World} {P0 t t' n m k : Nat} {F : Nat → Nat → Nat} (h : Fam wr wr.heap.size P0 t n m k F) (hk : k < n) (hb : Below w.heap.size w wr) (hP : w.heap.size ≤ P0) :
    Inner w ((wr.setCell ⟨P0, k, none⟩ (.slice (some ⟨wr.heap.size, 0, none⟩) m m)).alloc (.cells (madeCells #[.int .u8 0] m) t')) wr.heap.size P0 t n m k F (fun _ => 0) := by
  obtain ⟨u, hu⟩ := h.cell hk
  have hs : (wr.setCell ⟨P0, k, none⟩ (.slice (some ⟨wr.heap.size, 0, none⟩) m m)).heap.size = wr.heap.size := by simp [World.setCell]
  have hi := h.inside
  generalize hw1 : wr.setCell ⟨P0, k, none⟩ (.slice (some ⟨wr.heap.size, 0, none⟩) m m) = w1 at *
  have hf : Fam w1 wr.heap.size P0 t n m k F := by rw [← hw1]; exact h.store _
  have hc : w1.cell? ⟨P0, k, none⟩ = some (.slice (some ⟨wr.heap.size, 0, none⟩) m m) := by rw [← hw1]; exact World.cell?_setCell_same _ _ _ hu
  have hb1 : Below w.heap.size w w1 := by rw [← hw1]; exact hb.setCell hP _
  have ha : Below wr.heap.size w1 (w1.alloc (.cells (madeCells #[.int .u8 0] m) t')) := (Below.refl _ _).alloc (by omega) _
  have hr := Row.made w1 t' m
  rw [hs] at hr
  exact ⟨hf.below ha, (ha.cell (by exact hi)).trans hc, hr, hb1.alloc hb1.size _, by simp; omega, hP⟩
theorem Inner.done {w wi : World} {B P0 t n m k : Nat} {F : Nat → Nat → Nat} {g : Nat → Nat} (h : Inner w wi B P0 t n m k F g) (hk : k < n) (e : ∀ i, i < m → F k i = g i) : Fam wi wi.heap.size P0 t n m (k + 1) F :=
  h.fam.next hk h.cur (by have := h.fam.lt; omega) h.lt (Nat.le_of_lt h.lt) (h.row.congr e)
/-- what turns row k alone -/
theorem Inner.turn {w wi w' : World} {B P0 t n m k : Nat} {F : Nat → Nat → Nat} {g g' : Nat → Nat} (h : Inner w wi B P0 t n m k F g) (hg : wi.grownBy w' (some B)) (hr : Row w' B 0 m g') : Inner w w' B P0 t n m k F g' := by
  have hb : Below B wi w' := (Below.refl _ _).grown hg (Nat.le_of_lt h.lt) (fun k e => by injection e; omega)
  refine ⟨h.fam.below hb, (hb.cell h.fam.lt).trans h.cur, hr, h.old.trans (hb.mono ?_), Nat.lt_of_lt_of_le h.lt hb.size, h.ge⟩
  have := h.fam.lt; have := h.ge; omega
end Go.Mem
