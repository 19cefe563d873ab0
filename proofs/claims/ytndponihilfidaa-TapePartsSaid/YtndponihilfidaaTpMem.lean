/- Two tapes in memory as the document has them: a block of twelve cells, and slices in blocks of their own. No program is named here. -/
import Derived.Test.YtndponihilfidaaFoot
import Derived.Test.YtndponihilfidaaTpSt
namespace Tp
/-- one side's part of a write -/
def St.stepN (t : St) (i : Nat) (l : List Nat) (sw : Bool) : St :=
  if i = 0 then ⟨t.s0.did t.fuse l sw, t.s1, left t.s0 t.fuse, goes t.s0 t.fuse⟩ else ⟨t.s0, t.s1.did t.fuse l sw, left t.s1 t.fuse, goes t.s1 t.fuse⟩
theorem write_down {t : St} (h : t.down = true) (l : List Nat) (sw : Bool) : t.write l sw = t ∧ t.writeE = 9 := by
  unfold St.write St.writeE; rw [if_pos h, if_pos h]; exact ⟨rfl, rfl⟩
theorem write_lost {t : St} (h : t.down = false) (h1 : t.s0.lost = true ∧ t.s1.lost = true) (l : List Nat) (sw : Bool) : t.write l sw = t ∧ t.writeE = 8 := by
  have h' : ¬ t.down = true := by rw [h]; decide
  unfold St.write St.writeE
  rw [if_neg h', if_neg h', if_pos h1, if_pos h1]; exact ⟨rfl, rfl⟩
theorem left_goes {s : Sd} {f : Int} (h : goes s f = true) : left s f = f := by
  unfold goes at h
  unfold left
  rw [Bool.and_eq_true] at h
  have h2 : f = 0 := by simpa using h.2
  subst h2
  split <;> rfl
theorem write_first {t : St} (h : t.down = false) (h1 : ¬ (t.s0.lost = true ∧ t.s1.lost = true)) (h2 : goes t.s0 t.fuse = true) (l : List Nat) (sw : Bool) : t.write l sw = t.stepN 0 l sw ∧ t.writeE = 9 := by
  have h' : ¬ t.down = true := by rw [h]; decide
  unfold St.write St.writeE St.stepN
  rw [if_neg h', if_neg h', if_neg h1, if_neg h1, if_pos h2, if_pos h2, if_pos rfl, h2, left_goes h2]; exact ⟨rfl, rfl⟩
theorem write_both {t : St} (h : t.down = false) (h1 : ¬ (t.s0.lost = true ∧ t.s1.lost = true)) (h2 : goes t.s0 t.fuse = false) (l : List Nat) (sw : Bool) :
    t.write l sw = (t.stepN 0 l sw).stepN 1 l sw ∧ t.writeE = if goes (t.stepN 0 l sw).s1 (t.stepN 0 l sw).fuse = true then 9 else 0 := by
  have h' : ¬ t.down = true := by rw [h]; decide
  have h2' : ¬ goes t.s0 t.fuse = true := by rw [h2]; decide
  unfold St.write St.writeE St.stepN
  rw [if_neg h', if_neg h', if_neg h1, if_neg h1, if_neg h2', if_neg h2']
  exact ⟨rfl, rfl⟩
end Tp
namespace Go.Mem
open Go.RowKit Tp
/-- what the cells hold -/
def tc (V : Nat → Value) (t : St) : Nat → Value
  | 0 => V 0 | 1 => V 1 | 2 => .bool t.s0.wet | 3 => .bool t.s0.swap | 4 => .bool t.s0.lost
  | 5 => V 2 | 6 => V 3 | 7 => .bool t.s1.wet | 8 => .bool t.s1.swap | 9 => .bool t.s1.lost
  | 10 => .int .i64 t.fuse | _ => .bool t.down
def updV (V : Nat → Value) (i : Nat) (v : Value) : Nat → Value := fun k => if k = i then v else V k
/-- what the slices read as -/
def tl (t : St) : Nat → List Nat
  | 0 => t.s0.b | 1 => t.s0.l | 2 => t.s1.b | _ => t.s1.l
structure TpAt (T : Nat) (w : World) (G : Nat → Prop) (r : Nat) (V : Nat → Value) (t : St) : Prop where
  head : w.rowIs r T 12 (tc V t)
  rows : ∀ i, i < 4 → RowIn (fun b => G b ∧ b ≠ r) w (V i) (tl t i)
  gr : G r
  lt : ∀ b, G b → b < w.heap.size
def RTp (T : Nat) (w : World) (G : Nat → Prop) (r : Nat) (t : St) : Prop := ∃ V, TpAt T w G r V t
section
variable {T : Nat} {w w' : World} {G : Nat → Prop} {r : Nat} {V : Nat → Value} {t : St}
theorem TpAt.same (h : TpAt T w G r V t) (hs : ∀ b, G b → w'.heap[b]? = w.heap[b]?) (hz : w.heap.size ≤ w'.heap.size) : TpAt T w' G r V t :=
  ⟨h.head.of_block (hs r h.gr), fun i hi => (h.rows i hi).same (fun b hb => hs b hb.1) (fun _ q => q), h.gr, fun b hb => Nat.lt_of_lt_of_le (h.lt b hb) hz⟩
theorem TpAt.turned {F : Nat → Prop} (h : TpAt T w G r V t) (ht : Turned F w w') (hd : ∀ b, F b → ¬ G b) : TpAt T w' G r V t := h.same (ht.stay h.lt hd) ht.size
theorem RTp.turned {F : Nat → Prop} (h : RTp T w G r t) (ht : Turned F w w') (hd : ∀ b, F b → ¬ G b) : RTp T w' G r t := by
  obtain ⟨V, h⟩ := h
  exact ⟨V, h.turned ht hd⟩
theorem RTp.lt (h : RTp T w G r t) : ∀ b, G b → b < w.heap.size := by
  obtain ⟨V, h⟩ := h
  exact h.lt
theorem TpAt.below (h : TpAt T w G r V t) (hb : Below w.heap.size w w') : TpAt T w' G r V t := h.same (fun b q => hb.block b (h.lt b q)) hb.size
theorem TpAt.cell (h : TpAt T w G r V t) {i : Nat} (hi : i < 12) : w.cell? ⟨r, i, none⟩ = some (tc V t i) := h.head.cell hi
theorem TpAt.free (h : TpAt T w G r V t) (i : Nat) : w.frozen? ⟨r, i, none⟩ = false := h.head.frozen i
/-- more blocks -/
theorem TpAt.more (h : TpAt T w G r V t) {G' : Nat → Prop} (hg : ∀ b, G b → G' b) (hl : ∀ b, G' b → b < w.heap.size) : TpAt T w G' r V t :=
  ⟨h.head, fun i hi => (h.rows i hi).same (fun _ _ => rfl) (fun b q => ⟨hg b q.1, q.2⟩), hg r h.gr, hl⟩
/-- a store into one of the cells -/
theorem TpAt.set (h : TpAt T w G r V t) (i : Nat) (v : Value) {V' : Nat → Value} {t' : St} (hc : ∀ j, j < 12 → (if j = i then v else tc V t j) = tc V' t' j) (hr : ∀ j, j < 4 → RowIn (fun b => G b ∧ b ≠ r) w (V' j) (tl t' j)) :
    TpAt T (w.setCell ⟨r, i, none⟩ v) G r V' t' :=
  ⟨(h.head.set i v).congr hc, fun j hj => (hr j hj).same (fun b hb => Below.heap_setCell w ⟨r, i, none⟩ v b hb.2) (fun _ q => q), h.gr, fun b hb => by simpa [World.setCell] using h.lt b hb⟩
theorem lt12 {P : Nat → Prop} (h0 : P 0) (h1 : P 1) (h2 : P 2) (h3 : P 3) (h4 : P 4) (h5 : P 5) (h6 : P 6) (h7 : P 7) (h8 : P 8) (h9 : P 9) (h10 : P 10) (h11 : P 11) : ∀ j, j < 12 → P j := by
  intro j hj
  rcases (by omega : j = 0 ∨ j = 1 ∨ j = 2 ∨ j = 3 ∨ j = 4 ∨ j = 5 ∨ j = 6 ∨ j = 7 ∨ j = 8 ∨ j = 9 ∨ j = 10 ∨ j = 11) with rfl | rfl | rfl | rfl | rfl | rfl | rfl | rfl | rfl | rfl | rfl | rfl <;> assumption
theorem lt4 {P : Nat → Prop} (h0 : P 0) (h1 : P 1) (h2 : P 2) (h3 : P 3) : ∀ j, j < 4 → P j := by
  intro j hj
  rcases (by omega : j = 0 ∨ j = 1 ∨ j = 2 ∨ j = 3) with rfl | rfl | rfl | rfl <;> assumption
theorem TpAt.fuse (h : TpAt T w G r V t) (n : Int) : TpAt T (w.setCell ⟨r, 10, none⟩ (.int .i64 n)) G r V { t with fuse := n } :=
  h.set 10 _ (lt12 rfl rfl rfl rfl rfl rfl rfl rfl rfl rfl rfl rfl) (lt4 (h.rows 0 (by omega)) (h.rows 1 (by omega)) (h.rows 2 (by omega)) (h.rows 3 (by omega)))
theorem TpAt.down (h : TpAt T w G r V t) (x : Bool) : TpAt T (w.setCell ⟨r, 11, none⟩ (.bool x)) G r V { t with down := x } :=
  h.set 11 _ (lt12 rfl rfl rfl rfl rfl rfl rfl rfl rfl rfl rfl rfl) (lt4 (h.rows 0 (by omega)) (h.rows 1 (by omega)) (h.rows 2 (by omega)) (h.rows 3 (by omega)))
theorem TpAt.wet0 (h : TpAt T w G r V t) (x : Bool) : TpAt T (w.setCell ⟨r, 2, none⟩ (.bool x)) G r V { t with s0 := { t.s0 with wet := x } } :=
  h.set 2 _ (lt12 rfl rfl rfl rfl rfl rfl rfl rfl rfl rfl rfl rfl) (lt4 (h.rows 0 (by omega)) (h.rows 1 (by omega)) (h.rows 2 (by omega)) (h.rows 3 (by omega)))
theorem TpAt.swap0 (h : TpAt T w G r V t) (x : Bool) : TpAt T (w.setCell ⟨r, 3, none⟩ (.bool x)) G r V { t with s0 := { t.s0 with swap := x } } :=
  h.set 3 _ (lt12 rfl rfl rfl rfl rfl rfl rfl rfl rfl rfl rfl rfl) (lt4 (h.rows 0 (by omega)) (h.rows 1 (by omega)) (h.rows 2 (by omega)) (h.rows 3 (by omega)))
theorem TpAt.lost0 (h : TpAt T w G r V t) (x : Bool) : TpAt T (w.setCell ⟨r, 4, none⟩ (.bool x)) G r V { t with s0 := { t.s0 with lost := x } } :=
  h.set 4 _ (lt12 rfl rfl rfl rfl rfl rfl rfl rfl rfl rfl rfl rfl) (lt4 (h.rows 0 (by omega)) (h.rows 1 (by omega)) (h.rows 2 (by omega)) (h.rows 3 (by omega)))
theorem TpAt.b0 (h : TpAt T w G r V t) (v : Value) (l : List Nat) (hv : RowIn (fun b => G b ∧ b ≠ r) w v l) : TpAt T (w.setCell ⟨r, 0, none⟩ v) G r (updV V 0 v) { t with s0 := { t.s0 with b := l } } :=
  h.set 0 _ (lt12 rfl rfl rfl rfl rfl rfl rfl rfl rfl rfl rfl rfl) (lt4 hv (h.rows 1 (by omega)) (h.rows 2 (by omega)) (h.rows 3 (by omega)))
theorem TpAt.l0 (h : TpAt T w G r V t) (v : Value) (l : List Nat) (hv : RowIn (fun b => G b ∧ b ≠ r) w v l) : TpAt T (w.setCell ⟨r, 1, none⟩ v) G r (updV V 1 v) { t with s0 := { t.s0 with l := l } } :=
  h.set 1 _ (lt12 rfl rfl rfl rfl rfl rfl rfl rfl rfl rfl rfl rfl) (lt4 (h.rows 0 (by omega)) hv (h.rows 2 (by omega)) (h.rows 3 (by omega)))
theorem TpAt.wet1 (h : TpAt T w G r V t) (x : Bool) : TpAt T (w.setCell ⟨r, 7, none⟩ (.bool x)) G r V { t with s1 := { t.s1 with wet := x } } :=
  h.set 7 _ (lt12 rfl rfl rfl rfl rfl rfl rfl rfl rfl rfl rfl rfl) (lt4 (h.rows 0 (by omega)) (h.rows 1 (by omega)) (h.rows 2 (by omega)) (h.rows 3 (by omega)))
theorem TpAt.swap1 (h : TpAt T w G r V t) (x : Bool) : TpAt T (w.setCell ⟨r, 8, none⟩ (.bool x)) G r V { t with s1 := { t.s1 with swap := x } } :=
  h.set 8 _ (lt12 rfl rfl rfl rfl rfl rfl rfl rfl rfl rfl rfl rfl) (lt4 (h.rows 0 (by omega)) (h.rows 1 (by omega)) (h.rows 2 (by omega)) (h.rows 3 (by omega)))
theorem TpAt.lost1 (h : TpAt T w G r V t) (x : Bool) : TpAt T (w.setCell ⟨r, 9, none⟩ (.bool x)) G r V { t with s1 := { t.s1 with lost := x } } :=
  h.set 9 _ (lt12 rfl rfl rfl rfl rfl rfl rfl rfl rfl rfl rfl rfl) (lt4 (h.rows 0 (by omega)) (h.rows 1 (by omega)) (h.rows 2 (by omega)) (h.rows 3 (by omega)))
theorem TpAt.b1 (h : TpAt T w G r V t) (v : Value) (l : List Nat) (hv : RowIn (fun b => G b ∧ b ≠ r) w v l) : TpAt T (w.setCell ⟨r, 5, none⟩ v) G r (updV V 2 v) { t with s1 := { t.s1 with b := l } } :=
  h.set 5 _ (lt12 rfl rfl rfl rfl rfl rfl rfl rfl rfl rfl rfl rfl) (lt4 (h.rows 0 (by omega)) (h.rows 1 (by omega)) hv (h.rows 3 (by omega)))
theorem TpAt.l1 (h : TpAt T w G r V t) (v : Value) (l : List Nat) (hv : RowIn (fun b => G b ∧ b ≠ r) w v l) : TpAt T (w.setCell ⟨r, 6, none⟩ v) G r (updV V 3 v) { t with s1 := { t.s1 with l := l } } :=
  h.set 6 _ (lt12 rfl rfl rfl rfl rfl rfl rfl rfl rfl rfl rfl rfl) (lt4 (h.rows 0 (by omega)) (h.rows 1 (by omega)) (h.rows 2 (by omega)) hv)
/-- .. since w0, where they held the blocks G0 -/
def TpOn (T : Nat) (w0 : World) (G0 : Nat → Prop) (w : World) (G : Nat → Prop) (r : Nat) (V : Nat → Value) (t : St) : Prop := TpAt T w G r V t ∧ Turned G0 w0 w ∧ Grown G0 G w0
variable {w0 : World} {G0 : Nat → Prop}
theorem TpAt.on (h : TpAt T w G r V t) : TpOn T w G w G r V t := ⟨h, Turned.refl _ _, Grown.refl _ _⟩
theorem TpOn.news (h : TpOn T w0 G0 w G r V t) (hb : Below w.heap.size w w') : TpOn T w0 G0 w' (fun b => G b ∨ (w.heap.size ≤ b ∧ b < w'.heap.size)) r V t := by
  obtain ⟨h1, h2, h3⟩ := h
  refine ⟨(h1.below hb).more (fun _ q => .inl q) (fun b q => ?_), h2.trans (Turned.of_below G hb) h3, fun b q => ?_⟩
  · rcases q with q | q
    · exact Nat.lt_of_lt_of_le (h1.lt b q) hb.size
    · exact q.2
  · rcases q with q | q
    · exact h3 b q
    · exact .inr (Nat.le_trans h2.size q.1)
theorem TpOn.below (h : TpOn T w0 G0 w G r V t) (hb : Below w.heap.size w w') : TpOn T w0 G0 w' G r V t := ⟨h.1.below hb, h.2.1.trans (Turned.of_below G hb) h.2.2, h.2.2⟩
theorem TpOn.new_row (h : TpOn T w0 G0 w G r V t) {v : Value} {l : List Nat} (hv : RowIn (fun b => w.heap.size ≤ b ∧ b < w'.heap.size) w' v l) : RowIn (fun b => (G b ∨ (w.heap.size ≤ b ∧ b < w'.heap.size)) ∧ b ≠ r) w' v l :=
  hv.same (fun _ _ => rfl) (fun b q => ⟨.inr q, fun e => by have := h.1.lt r h.1.gr; omega⟩)
theorem TpOn.done (h : TpOn T w0 G0 w G r V t) : ∃ G', RTp T w G' r t ∧ Turned G0 w0 w ∧ Grown G0 G' w0 := ⟨G, ⟨V, h.1⟩, h.2.1, h.2.2⟩
theorem TpOn.fuse (h : TpOn T w0 G0 w G r V t) (n : Int) : TpOn T w0 G0 (w.setCell ⟨r, 10, none⟩ (.int .i64 n)) G r V { t with fuse := n } := ⟨h.1.fuse n, h.2.1.trans (Turned.set _ h.1.gr) h.2.2, h.2.2⟩
theorem TpOn.down (h : TpOn T w0 G0 w G r V t) (x : Bool) : TpOn T w0 G0 (w.setCell ⟨r, 11, none⟩ (.bool x)) G r V { t with down := x } := ⟨h.1.down x, h.2.1.trans (Turned.set _ h.1.gr) h.2.2, h.2.2⟩
theorem TpOn.wet0 (h : TpOn T w0 G0 w G r V t) (x : Bool) : TpOn T w0 G0 (w.setCell ⟨r, 2, none⟩ (.bool x)) G r V { t with s0 := { t.s0 with wet := x } } := ⟨h.1.wet0 x, h.2.1.trans (Turned.set _ h.1.gr) h.2.2, h.2.2⟩
theorem TpOn.swap0 (h : TpOn T w0 G0 w G r V t) (x : Bool) : TpOn T w0 G0 (w.setCell ⟨r, 3, none⟩ (.bool x)) G r V { t with s0 := { t.s0 with swap := x } } := ⟨h.1.swap0 x, h.2.1.trans (Turned.set _ h.1.gr) h.2.2, h.2.2⟩
theorem TpOn.lost0 (h : TpOn T w0 G0 w G r V t) (x : Bool) : TpOn T w0 G0 (w.setCell ⟨r, 4, none⟩ (.bool x)) G r V { t with s0 := { t.s0 with lost := x } } := ⟨h.1.lost0 x, h.2.1.trans (Turned.set _ h.1.gr) h.2.2, h.2.2⟩
theorem TpOn.b0 (h : TpOn T w0 G0 w G r V t) (v : Value) (l : List Nat) (hv : RowIn (fun b => G b ∧ b ≠ r) w v l) : TpOn T w0 G0 (w.setCell ⟨r, 0, none⟩ v) G r (updV V 0 v) { t with s0 := { t.s0 with b := l } } := ⟨h.1.b0 v l hv, h.2.1.trans (Turned.set _ h.1.gr) h.2.2, h.2.2⟩
theorem TpOn.l0 (h : TpOn T w0 G0 w G r V t) (v : Value) (l : List Nat) (hv : RowIn (fun b => G b ∧ b ≠ r) w v l) : TpOn T w0 G0 (w.setCell ⟨r, 1, none⟩ v) G r (updV V 1 v) { t with s0 := { t.s0 with l := l } } := ⟨h.1.l0 v l hv, h.2.1.trans (Turned.set _ h.1.gr) h.2.2, h.2.2⟩
theorem TpOn.wet1 (h : TpOn T w0 G0 w G r V t) (x : Bool) : TpOn T w0 G0 (w.setCell ⟨r, 7, none⟩ (.bool x)) G r V { t with s1 := { t.s1 with wet := x } } := ⟨h.1.wet1 x, h.2.1.trans (Turned.set _ h.1.gr) h.2.2, h.2.2⟩
theorem TpOn.swap1 (h : TpOn T w0 G0 w G r V t) (x : Bool) : TpOn T w0 G0 (w.setCell ⟨r, 8, none⟩ (.bool x)) G r V { t with s1 := { t.s1 with swap := x } } := ⟨h.1.swap1 x, h.2.1.trans (Turned.set _ h.1.gr) h.2.2, h.2.2⟩
theorem TpOn.lost1 (h : TpOn T w0 G0 w G r V t) (x : Bool) : TpOn T w0 G0 (w.setCell ⟨r, 9, none⟩ (.bool x)) G r V { t with s1 := { t.s1 with lost := x } } := ⟨h.1.lost1 x, h.2.1.trans (Turned.set _ h.1.gr) h.2.2, h.2.2⟩
theorem TpOn.b1 (h : TpOn T w0 G0 w G r V t) (v : Value) (l : List Nat) (hv : RowIn (fun b => G b ∧ b ≠ r) w v l) : TpOn T w0 G0 (w.setCell ⟨r, 5, none⟩ v) G r (updV V 2 v) { t with s1 := { t.s1 with b := l } } := ⟨h.1.b1 v l hv, h.2.1.trans (Turned.set _ h.1.gr) h.2.2, h.2.2⟩
theorem TpOn.l1 (h : TpOn T w0 G0 w G r V t) (v : Value) (l : List Nat) (hv : RowIn (fun b => G b ∧ b ≠ r) w v l) : TpOn T w0 G0 (w.setCell ⟨r, 6, none⟩ v) G r (updV V 3 v) { t with s1 := { t.s1 with l := l } } := ⟨h.1.l1 v l hv, h.2.1.trans (Turned.set _ h.1.gr) h.2.2, h.2.2⟩
theorem RowIn.turned {F : Nat → Prop} {w w' : World} {v : Value} {l : List Nat} (h : RowIn (fun b => ¬ F b) w v l) (ht : Turned F w w') : Bytes w' v l := by
  obtain ⟨⟨A, n, C, h1, h2, h3, h4, h5, h6⟩, hin⟩ := h
  refine ⟨A, n, C, h1, h2, h3, h4, h5, fun i hi => ?_⟩
  obtain ⟨b, o, c, e1, e2, e3⟩ := h6 i hi
  have hb : ¬ F b := hin ⟨b, o, none⟩ n C (by rw [h1, e1]) (by omega)
  exact ⟨b, o, c, e1, (World.cell?_of_block (w := w) (a := ⟨b, o + i, none⟩) (ht.block b (World.block_lt_of_cell? _ _ e2) hb)).trans e2, e3⟩
theorem RowIn.set {w : World} {R : Nat → Prop} {v : Value} {l : List Nat} (hv : RowIn R w v l) (a : Addr) (u : Value) (ha : ¬ R a.block) : RowIn R (w.setCell a u) v l := hv.same (fun b hb => Below.heap_setCell w a u b (fun e => ha (e ▸ hb))) (fun _ q => q)
end
end Go.Mem
namespace Tp
theorem stepN_lost0 {s : St} (h : s.s0.lost = true) (hd : s.down = false) (l : List Nat) (sw : Bool) : s.stepN 0 l sw = s ∧ goes s.s0 s.fuse = false := by
  obtain ⟨a, b, f, d⟩ := s
  have hd : d = false := hd
  have h : a.lost = true := h
  subst hd
  refine ⟨?_, by show (!a.lost && _) = false; rw [h]; rfl⟩
  show St.mk (a.did f l sw) b (left a f) (goes a f) = _
  unfold Sd.did left goes
  rw [if_pos h, if_pos h, h]; rfl
theorem stepN_goes0 {s : St} (h : s.s0.lost = false) (hf : s.fuse = 0) (l : List Nat) (sw : Bool) : s.stepN 0 l sw = ⟨⟨s.s0.b, l, true, sw, s.s0.lost⟩, s.s1, s.fuse, true⟩ ∧ goes s.s0 s.fuse = true := by
  have hl : ¬ s.s0.lost = true := by rw [h]; decide
  have hg : goes s.s0 s.fuse = true := by unfold goes; rw [h, hf]; rfl
  refine ⟨?_, hg⟩
  show St.mk (s.s0.did s.fuse l sw) s.s1 (left s.s0 s.fuse) (goes s.s0 s.fuse) = _
  rw [hg, left_goes hg]
  unfold Sd.did
  rw [if_neg hl, if_pos hf]; rfl
theorem stepN_put0 {s : St} (h : s.s0.lost = false) (hf : ¬ s.fuse = 0) (l : List Nat) (sw : Bool) : s.stepN 0 l sw = ⟨{ s.s0 with b := if sw = true then l else s.s0.b ++ l }, s.s1, (if 0 < s.fuse then s.fuse - 1 else s.fuse), false⟩ ∧ goes s.s0 s.fuse = false := by
  have hl : ¬ s.s0.lost = true := by rw [h]; decide
  have hg : goes s.s0 s.fuse = false := by unfold goes; rw [decide_eq_false hf, Bool.and_false]
  refine ⟨?_, hg⟩
  show St.mk (s.s0.did s.fuse l sw) s.s1 (left s.s0 s.fuse) (goes s.s0 s.fuse) = _
  rw [hg]
  unfold Sd.did left Sd.put
  rw [if_neg hl, if_neg hf, if_neg hl]
theorem stepN_lost1 {s : St} (h : s.s1.lost = true) (hd : s.down = false) (l : List Nat) (sw : Bool) : s.stepN 1 l sw = s ∧ goes s.s1 s.fuse = false := by
  obtain ⟨a, b, f, d⟩ := s
  have hd : d = false := hd
  have h : b.lost = true := h
  subst hd
  refine ⟨?_, by show (!b.lost && _) = false; rw [h]; rfl⟩
  show St.mk a (b.did f l sw) (left b f) (goes b f) = _
  unfold Sd.did left goes
  rw [if_pos h, if_pos h, h]; rfl
theorem stepN_goes1 {s : St} (h : s.s1.lost = false) (hf : s.fuse = 0) (l : List Nat) (sw : Bool) : s.stepN 1 l sw = ⟨s.s0, ⟨s.s1.b, l, true, sw, s.s1.lost⟩, s.fuse, true⟩ ∧ goes s.s1 s.fuse = true := by
  have hl : ¬ s.s1.lost = true := by rw [h]; decide
  have hg : goes s.s1 s.fuse = true := by unfold goes; rw [h, hf]; rfl
  refine ⟨?_, hg⟩
  show St.mk s.s0 (s.s1.did s.fuse l sw) (left s.s1 s.fuse) (goes s.s1 s.fuse) = _
  rw [hg, left_goes hg]
  unfold Sd.did
  rw [if_neg hl, if_pos hf]; rfl
theorem stepN_put1 {s : St} (h : s.s1.lost = false) (hf : ¬ s.fuse = 0) (l : List Nat) (sw : Bool) : s.stepN 1 l sw = ⟨s.s0, { s.s1 with b := if sw = true then l else s.s1.b ++ l }, (if 0 < s.fuse then s.fuse - 1 else s.fuse), false⟩ ∧ goes s.s1 s.fuse = false := by
  have hl : ¬ s.s1.lost = true := by rw [h]; decide
  have hg : goes s.s1 s.fuse = false := by unfold goes; rw [decide_eq_false hf, Bool.and_false]
  refine ⟨?_, hg⟩
  show St.mk s.s0 (s.s1.did s.fuse l sw) (left s.s1 s.fuse) (goes s.s1 s.fuse) = _
  rw [hg]
  unfold Sd.did left Sd.put
  rw [if_neg hl, if_neg hf, if_neg hl]
theorem put0_pos_rep {s : St} (h : s.s0.lost = false) (hd : s.down = false) (hf : 0 < s.fuse) (l : List Nat) : s.stepN 0 l true = { ({ s with fuse := s.fuse - 1 } : St) with s0 := { ({ s with fuse := s.fuse - 1 } : St).s0 with b := l } } ∧ goes s.s0 s.fuse = false := by
  have k := stepN_put0 h (show ¬ s.fuse = 0 by omega) l true
  refine ⟨k.1.trans ?_, k.2⟩
  rw [if_pos hf]
  obtain ⟨a, b, f, d⟩ := s
  have hd : d = false := hd
  subst hd
  rfl
theorem put0_pos_app {s : St} (h : s.s0.lost = false) (hd : s.down = false) (hf : 0 < s.fuse) (l : List Nat) : s.stepN 0 l false = { ({ s with fuse := s.fuse - 1 } : St) with s0 := { ({ s with fuse := s.fuse - 1 } : St).s0 with b := s.s0.b ++ l } } ∧ goes s.s0 s.fuse = false := by
  have k := stepN_put0 h (show ¬ s.fuse = 0 by omega) l false
  refine ⟨k.1.trans ?_, k.2⟩
  rw [if_pos hf]
  obtain ⟨a, b, f, d⟩ := s
  have hd : d = false := hd
  subst hd
  rfl
theorem put0_neg_rep {s : St} (h : s.s0.lost = false) (hd : s.down = false) (hf : s.fuse < 0) (l : List Nat) : s.stepN 0 l true = { (s : St) with s0 := { (s : St).s0 with b := l } } ∧ goes s.s0 s.fuse = false := by
  have k := stepN_put0 h (show ¬ s.fuse = 0 by omega) l true
  refine ⟨k.1.trans ?_, k.2⟩
  rw [if_neg (show ¬ 0 < s.fuse by omega)]
  obtain ⟨a, b, f, d⟩ := s
  have hd : d = false := hd
  subst hd
  rfl
theorem put0_neg_app {s : St} (h : s.s0.lost = false) (hd : s.down = false) (hf : s.fuse < 0) (l : List Nat) : s.stepN 0 l false = { (s : St) with s0 := { (s : St).s0 with b := s.s0.b ++ l } } ∧ goes s.s0 s.fuse = false := by
  have k := stepN_put0 h (show ¬ s.fuse = 0 by omega) l false
  refine ⟨k.1.trans ?_, k.2⟩
  rw [if_neg (show ¬ 0 < s.fuse by omega)]
  obtain ⟨a, b, f, d⟩ := s
  have hd : d = false := hd
  subst hd
  rfl
theorem put1_pos_rep {s : St} (h : s.s1.lost = false) (hd : s.down = false) (hf : 0 < s.fuse) (l : List Nat) : s.stepN 1 l true = { ({ s with fuse := s.fuse - 1 } : St) with s1 := { ({ s with fuse := s.fuse - 1 } : St).s1 with b := l } } ∧ goes s.s1 s.fuse = false := by
  have k := stepN_put1 h (show ¬ s.fuse = 0 by omega) l true
  refine ⟨k.1.trans ?_, k.2⟩
  rw [if_pos hf]
  obtain ⟨a, b, f, d⟩ := s
  have hd : d = false := hd
  subst hd
  rfl
theorem put1_pos_app {s : St} (h : s.s1.lost = false) (hd : s.down = false) (hf : 0 < s.fuse) (l : List Nat) : s.stepN 1 l false = { ({ s with fuse := s.fuse - 1 } : St) with s1 := { ({ s with fuse := s.fuse - 1 } : St).s1 with b := s.s1.b ++ l } } ∧ goes s.s1 s.fuse = false := by
  have k := stepN_put1 h (show ¬ s.fuse = 0 by omega) l false
  refine ⟨k.1.trans ?_, k.2⟩
  rw [if_pos hf]
  obtain ⟨a, b, f, d⟩ := s
  have hd : d = false := hd
  subst hd
  rfl
theorem put1_neg_rep {s : St} (h : s.s1.lost = false) (hd : s.down = false) (hf : s.fuse < 0) (l : List Nat) : s.stepN 1 l true = { (s : St) with s1 := { (s : St).s1 with b := l } } ∧ goes s.s1 s.fuse = false := by
  have k := stepN_put1 h (show ¬ s.fuse = 0 by omega) l true
  refine ⟨k.1.trans ?_, k.2⟩
  rw [if_neg (show ¬ 0 < s.fuse by omega)]
  obtain ⟨a, b, f, d⟩ := s
  have hd : d = false := hd
  subst hd
  rfl
theorem put1_neg_app {s : St} (h : s.s1.lost = false) (hd : s.down = false) (hf : s.fuse < 0) (l : List Nat) : s.stepN 1 l false = { (s : St) with s1 := { (s : St).s1 with b := s.s1.b ++ l } } ∧ goes s.s1 s.fuse = false := by
  have k := stepN_put1 h (show ¬ s.fuse = 0 by omega) l false
  refine ⟨k.1.trans ?_, k.2⟩
  rw [if_neg (show ¬ 0 < s.fuse by omega)]
  obtain ⟨a, b, f, d⟩ := s
  have hd : d = false := hd
  subst hd
  rfl
end Tp
