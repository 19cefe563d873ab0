/- The program's tapes in memory: a block of eleven cells, and four slices of bytes, each in a block of its own. No program is named here. -/
import Derived.Test.YtndponihilfidaaFoot
import Derived.Test.YtndponihilfidaaTpMem
namespace Tp
/-- what the program's cells hold: of each side what lasts (l), what is loose (b), whether it stands in their stead (w), whether the side is lost (x) -/
structure Ts where
  l0 : List Nat
  b0 : List Nat
  w0 : Bool
  x0 : Bool
  l1 : List Nat
  b1 : List Nat
  w1 : Bool
  x1 : Bool
  f : Bool
  n : Int
  d : Bool
def Sd.pl (s : Sd) : List Nat := if s.lost = true then [] else s.b
def Sd.pb (s : Sd) : List Nat := if s.lost = true then [] else if s.wet = true then s.l else []
def Sd.pw (s : Sd) : Bool := !s.lost && (s.wet && s.swap)
def St.ts (s : St) : Ts := ⟨s.s0.pl, s.s0.pb, s.s0.pw, s.s0.lost, s.s1.pl, s.s1.pb, s.s1.pw, s.s1.lost, decide (0 ≤ s.fuse), if 0 ≤ s.fuse then s.fuse else 0, s.down⟩
end Tp
namespace Go.Mem
open Go.RowKit Tp
def pc (V : Nat → Value) (t : Ts) : Nat → Value
  | 0 => V 0 | 1 => V 1 | 2 => .bool t.w0 | 3 => .bool t.x0
  | 4 => V 2 | 5 => V 3 | 6 => .bool t.w1 | 7 => .bool t.x1
  | 8 => .bool t.f | 9 => .int .i64 t.n | _ => .bool t.d
def pls (t : Ts) : Nat → List Nat
  | 0 => t.l0 | 1 => t.b0 | 2 => t.l1 | _ => t.b1
structure PtAt (T U : Nat) (w : World) (G : Nat → Prop) (r : Nat) (V : Nat → Value) (t : Ts) : Prop where
  head : w.rowIs r T 11 (pc V t)
  rows : ∀ i, i < 4 → Built ByteR w 0 U (V i) (pls t i)
  ins : ∀ i b, i < 4 → (V i).ownBlock = some b → G b ∧ b ≠ r
  apart : ∀ i j b, i < 4 → j < 4 → i ≠ j → (V i).ownBlock = some b → (V j).ownBlock ≠ some b
  gr : G r
  lt : ∀ b, G b → b < w.heap.size
theorem Built.same {α : Type} {R : World → Value → α → Prop} {w w' : World} {base t : Nat} {v : Value} {L : List α} (hRw : ∀ w1 w2 c x, R w1 c x → R w2 c x) (h : Built R w base t v L) (hs : ∀ b, v.ownBlock = some b → w'.heap[b]? = w.heap[b]?) : Built R w' base t v L := by
  obtain ⟨xs, h1, h2⟩ := h
  refine ⟨xs, ?_, fun i hi => ?_⟩
  · obtain ⟨e, k⟩ := h1
    refine ⟨e, ?_⟩
    rcases k with k | ⟨g, cap, cur, rfl, q2, q3, q4⟩
    · exact .inl k
    · exact .inr ⟨g, cap, cur, rfl, q2, (hs g rfl).trans q3, q4⟩
  · obtain ⟨c, e, hR⟩ := h2 i hi
    exact ⟨c, e, fun w'' _ => hRw _ _ _ _ (hR w (World.grownBy.refl _ _))⟩
theorem Built.base0 {α : Type} {R : World → Value → α → Prop} {w : World} {base t : Nat} {v : Value} {L : List α} (h : Built R w base t v L) : Built R w 0 t v L := by
  obtain ⟨xs, h1, h2⟩ := h
  refine ⟨xs, ?_, h2⟩
  obtain ⟨e, k⟩ := h1
  refine ⟨e, ?_⟩
  rcases k with k | ⟨g, cap, cur, q1, q2, q3⟩
  · exact .inl k
  · exact .inr ⟨g, cap, cur, q1, Nat.zero_le _, q3⟩
theorem Built.lower {α : Type} {R : World → Value → α → Prop} {w : World} {base base' t : Nat} {v : Value} {L : List α} (h : Built R w base t v L) (hb : base' ≤ base) : Built R w base' t v L := by
  obtain ⟨xs, h1, h2⟩ := h
  refine ⟨xs, ?_, h2⟩
  obtain ⟨e, k⟩ := h1
  refine ⟨e, ?_⟩
  rcases k with k | ⟨g, cap, cur, q1, q2, q3⟩
  · exact .inl k
  · exact .inr ⟨g, cap, cur, q1, Nat.le_trans hb q2, q3⟩
section
variable {T U : Nat} {w w' : World} {G : Nat → Prop} {r : Nat} {V : Nat → Value} {t : Ts}
theorem PtAt.same (h : PtAt T U w G r V t) (hs : ∀ b, G b → w'.heap[b]? = w.heap[b]?) (hz : w.heap.size ≤ w'.heap.size) : PtAt T U w' G r V t :=
  ⟨h.head.of_block (hs r h.gr), fun i hi => (h.rows i hi).same byteR_world (fun b hb => hs b (h.ins i b hi hb).1), h.ins, h.apart, h.gr, fun b hb => Nat.lt_of_lt_of_le (h.lt b hb) hz⟩
theorem PtAt.turned {F : Nat → Prop} (h : PtAt T U w G r V t) (ht : Turned F w w') (hd : ∀ b, F b → ¬ G b) : PtAt T U w' G r V t := h.same (ht.stay h.lt hd) ht.size
theorem PtAt.below (h : PtAt T U w G r V t) (hb : Below w.heap.size w w') : PtAt T U w' G r V t := h.same (fun b q => hb.block b (h.lt b q)) hb.size
theorem PtAt.cell (h : PtAt T U w G r V t) {i : Nat} (hi : i < 11) : w.cell? ⟨r, i, none⟩ = some (pc V t i) := h.head.cell hi
theorem PtAt.free (h : PtAt T U w G r V t) (i : Nat) : w.frozen? ⟨r, i, none⟩ = false := h.head.frozen i
theorem PtAt.more (h : PtAt T U w G r V t) {G' : Nat → Prop} (hg : ∀ b, G b → G' b) (hl : ∀ b, G' b → b < w.heap.size) : PtAt T U w G' r V t :=
  ⟨h.head, h.rows, fun i b hi q => ⟨hg b (h.ins i b hi q).1, (h.ins i b hi q).2⟩, h.apart, hg r h.gr, hl⟩
theorem lt11 {P : Nat → Prop} (h0 : P 0) (h1 : P 1) (h2 : P 2) (h3 : P 3) (h4 : P 4) (h5 : P 5) (h6 : P 6) (h7 : P 7) (h8 : P 8) (h9 : P 9) (h10 : P 10) : ∀ j, j < 11 → P j := by
  intro j hj
  rcases (by omega : j = 0 ∨ j = 1 ∨ j = 2 ∨ j = 3 ∨ j = 4 ∨ j = 5 ∨ j = 6 ∨ j = 7 ∨ j = 8 ∨ j = 9 ∨ j = 10) with rfl | rfl | rfl | rfl | rfl | rfl | rfl | rfl | rfl | rfl | rfl <;> assumption
/-- a store into one of the cells that hold no slice -/
theorem PtAt.set (h : PtAt T U w G r V t) (i : Nat) (v : Value) {t' : Ts} (hc : ∀ j, j < 11 → (if j = i then v else pc V t j) = pc V t' j) (hr : ∀ j, j < 4 → pls t' j = pls t j) : PtAt T U (w.setCell ⟨r, i, none⟩ v) G r V t' :=
  ⟨(h.head.set i v).congr hc, fun j hj => by
    rw [hr j hj]
    exact (h.rows j hj).same byteR_world (fun b hb => Below.heap_setCell w ⟨r, i, none⟩ v b (h.ins j b hj hb).2), h.ins, h.apart, h.gr, fun b hb => by simpa [World.setCell] using h.lt b hb⟩
/-- .. and into one that holds the slice k -/
theorem PtAt.setV (h : PtAt T U w G r V t) (k i : Nat) (v : Value) {t' : Ts} (hk : k < 4) (hc : ∀ j, j < 11 → (if j = i then v else pc V t j) = pc (updV V k v) t' j) (hr : ∀ j, j < 4 → j ≠ k → pls t' j = pls t j)
    (hv : Built ByteR w 0 U v (pls t' k)) (hin : ∀ b, v.ownBlock = some b → (G b ∧ b ≠ r) ∧ ∀ j, j < 4 → j ≠ k → (V j).ownBlock ≠ some b) : PtAt T U (w.setCell ⟨r, i, none⟩ v) G r (updV V k v) t' := by
  refine ⟨(h.head.set i v).congr hc, fun j hj => ?_, fun j b hj q => ?_, fun j j' b hj hj' hne q q' => ?_, h.gr, fun b hb => by simpa [World.setCell] using h.lt b hb⟩
  · by_cases e : j = k
    · subst e
      show Built ByteR _ 0 U (if j = j then v else V j) _
      rw [if_pos rfl]
      exact hv.same byteR_world (fun b hb => Below.heap_setCell w ⟨r, i, none⟩ v b (hin b hb).1.2)
    · show Built ByteR _ 0 U (if j = k then v else V j) _
      rw [if_neg e, hr j hj e]
      exact (h.rows j hj).same byteR_world (fun b hb => Below.heap_setCell w ⟨r, i, none⟩ v b (h.ins j b hj hb).2)
  · by_cases e : j = k
    · subst e
      have q : (if j = j then v else V j).ownBlock = some b := q
      rw [if_pos rfl] at q
      exact (hin b q).1
    · have q : (if j = k then v else V j).ownBlock = some b := q
      rw [if_neg e] at q
      exact h.ins j b hj q
  · have q : (if j = k then v else V j).ownBlock = some b := q
    have q' : (if j' = k then v else V j').ownBlock = some b := q'
    by_cases e : j = k
    · have e' : j' ≠ k := fun x => hne (e.trans x.symm)
      rw [if_pos e] at q
      rw [if_neg e'] at q'
      exact (hin b q).2 j' hj' e' q'
    · rw [if_neg e] at q
      by_cases e' : j' = k
      · rw [if_pos e'] at q'
        exact (hin b q').2 j hj e q
      · rw [if_neg e'] at q'
        exact h.apart j j' b hj hj' hne q q'
/-- .. since w0, where they held the blocks G0 -/
def PtOn (T U : Nat) (w0 : World) (G0 : Nat → Prop) (w : World) (G : Nat → Prop) (r : Nat) (V : Nat → Value) (t : Ts) : Prop := PtAt T U w G r V t ∧ Turned G0 w0 w ∧ Grown G0 G w0
variable {w0 : World} {G0 : Nat → Prop}
theorem PtAt.on (h : PtAt T U w G r V t) : PtOn T U w G w G r V t := ⟨h, Turned.refl _ _, Grown.refl _ _⟩
theorem PtOn.below (h : PtOn T U w0 G0 w G r V t) (hb : Below w.heap.size w w') : PtOn T U w0 G0 w' G r V t := ⟨h.1.below hb, h.2.1.trans (Turned.of_below G hb) h.2.2, h.2.2⟩
theorem PtOn.set (h : PtOn T U w0 G0 w G r V t) (i : Nat) (v : Value) {t' : Ts} (hc : ∀ j, j < 11 → (if j = i then v else pc V t j) = pc V t' j) (hr : ∀ j, j < 4 → pls t' j = pls t j) : PtOn T U w0 G0 (w.setCell ⟨r, i, none⟩ v) G r V t' :=
  ⟨h.1.set i v hc hr, h.2.1.trans (Turned.set _ h.1.gr) h.2.2, h.2.2⟩
theorem PtOn.setV (h : PtOn T U w0 G0 w G r V t) (k i : Nat) (v : Value) {t' : Ts} (hk : k < 4) (hc : ∀ j, j < 11 → (if j = i then v else pc V t j) = pc (updV V k v) t' j) (hr : ∀ j, j < 4 → j ≠ k → pls t' j = pls t j)
    (hv : Built ByteR w 0 U v (pls t' k)) (hin : ∀ b, v.ownBlock = some b → (G b ∧ b ≠ r) ∧ ∀ j, j < 4 → j ≠ k → (V j).ownBlock ≠ some b) : PtOn T U w0 G0 (w.setCell ⟨r, i, none⟩ v) G r (updV V k v) t' :=
  ⟨h.1.setV k i v hk hc hr hv hin, h.2.1.trans (Turned.set _ h.1.gr) h.2.2, h.2.2⟩
/-- what is new, or lies where slice k lay, lies apart from the others -/
def Fresh (V : Nat → Value) (k : Nat) (n : Nat) (v : Value) : Prop := ∀ b, v.ownBlock = some b → (V k).ownBlock = some b ∨ n ≤ b
/-- a call that turned slice k's own block alone, and made u -/
theorem PtOn.took (h : PtOn T U w0 G0 w G r V t) {k : Nat} (hk : k < 4) {u : Value} {L : List Nat} (hu : Built ByteR w' 0 U u L) (ht : Turned (fun b => (V k).ownBlock = some b) w w') (hf : Fresh V k w.heap.size u) :
    ∃ G', (∀ j, j < 4 → j ≠ k → Built ByteR w' 0 U (V j) (pls t j)) ∧ w'.rowIs r T 11 (pc V t) ∧ Turned G0 w0 w' ∧ Grown G0 G' w0 ∧ (∀ b, G b → G' b) ∧ (∀ b, G' b → b < w'.heap.size) ∧
      (∀ b, u.ownBlock = some b → (G' b ∧ b ≠ r) ∧ ∀ j, j < 4 → j ≠ k → (V j).ownBlock ≠ some b) := by
  obtain ⟨h1, h2, h3⟩ := h
  have hrl : r < w.heap.size := h1.lt r h1.gr
  have hrk : ¬ (V k).ownBlock = some r := fun q => (h1.ins k r hk q).2 rfl
  refine ⟨fun b => G b ∨ (w.heap.size ≤ b ∧ b < w'.heap.size), fun j hj hne => (h1.rows j hj).same byteR_world (fun b hb => ht.block b (h1.lt b (h1.ins j b hj hb).1) (fun q => h1.apart j k b hj hk hne hb q)), h1.head.of_block (ht.block r hrl hrk),
    h2.trans (ht.mono (fun b q => (h1.ins k b hk q).1)) h3, fun b q => ?_, fun b q => .inl q, fun b q => ?_, fun b q => ?_⟩
  · rcases q with q | q
    · exact h3 b q
    · exact .inr (Nat.le_trans h2.size q.1)
  · rcases q with q | q
    · exact Nat.lt_of_lt_of_le (h1.lt b q) ht.size
    · exact q.2
  · have hbl : b < w'.heap.size := (hu.own_lt b q).2
    rcases hf b q with k1 | k1
    · exact ⟨⟨.inl (h1.ins k b hk k1).1, (h1.ins k b hk k1).2⟩, fun j hj hne q' => h1.apart j k b hj hk hne q' k1⟩
    · exact ⟨⟨.inr ⟨k1, hbl⟩, fun e => by omega⟩, fun j hj hne q' => by have := h1.lt b (h1.ins j b hj q').1; omega⟩
/-- .. and is put into its cell then -/
theorem PtOn.put (h : PtOn T U w0 G0 w G r V t) {k : Nat} (i : Nat) (hk : k < 4) {u : Value} {t' : Ts} (hu : Built ByteR w' 0 U u (pls t' k)) (ht : Turned (fun b => (V k).ownBlock = some b) w w') (hf : Fresh V k w.heap.size u)
    (hc : ∀ j, j < 11 → (if j = i then u else pc V t j) = pc (updV V k u) t' j) (hr : ∀ j, j < 4 → j ≠ k → pls t' j = pls t j) :
    w'.rowIs r T 11 (pc V t) ∧ ∃ G', PtOn T U w0 G0 (w'.setCell ⟨r, i, none⟩ u) G' r (updV V k u) t' := by
  obtain ⟨G', h1, h2, h3, h4, h5, h6, h7⟩ := h.took hk hu ht hf
  have hgr : G' r := h5 r h.1.gr
  have hins : ∀ j b, j < 4 → j ≠ k → (V j).ownBlock = some b → G' b ∧ b ≠ r := fun j b hj hne q => ⟨h5 b (h.1.ins j b hj q).1, (h.1.ins j b hj q).2⟩
  refine ⟨h2, G', ⟨(h2.set i u).congr hc, fun j hj => ?_, fun j b hj q => ?_, fun j j' b hj hj' hne q q' => ?_, hgr, fun b hb => by simpa [World.setCell] using h6 b hb⟩, h3.trans (Turned.set _ hgr) h4, h4⟩
  · by_cases e : j = k
    · subst e
      show Built ByteR _ 0 U (if j = j then u else V j) _
      rw [if_pos rfl]
      exact hu.same byteR_world (fun b hb => Below.heap_setCell w' ⟨r, i, none⟩ u b (h7 b hb).1.2)
    · show Built ByteR _ 0 U (if j = k then u else V j) _
      rw [if_neg e, hr j hj e]
      exact (h1 j hj e).same byteR_world (fun b hb => Below.heap_setCell w' ⟨r, i, none⟩ u b (hins j b hj e hb).2)
  · by_cases e : j = k
    · subst e
      have q : (if j = j then u else V j).ownBlock = some b := q
      rw [if_pos rfl] at q
      exact (h7 b q).1
    · have q : (if j = k then u else V j).ownBlock = some b := q
      rw [if_neg e] at q
      exact hins j b hj e q
  · have q : (if j = k then u else V j).ownBlock = some b := q
    have q' : (if j' = k then u else V j').ownBlock = some b := q'
    by_cases e : j = k
    · have e' : j' ≠ k := fun x => hne (e.trans x.symm)
      rw [if_pos e] at q
      rw [if_neg e'] at q'
      exact (h7 b q).2 j' hj' e' q'
    · rw [if_neg e] at q
      by_cases e' : j' = k
      · rw [if_pos e'] at q'
        exact (h7 b q').2 j hj e q
      · rw [if_neg e'] at q'
        exact h.1.apart j j' b hj hj' hne q q'
/-- no slice is put into its cell -/
theorem PtOn.nil (h : PtOn T U w0 G0 w G r V t) (k i : Nat) {t' : Ts} (hk : k < 4) (hc : ∀ j, j < 11 → (if j = i then .slice none 0 0 else pc V t j) = pc (updV V k (.slice none 0 0)) t' j) (hr : ∀ j, j < 4 → j ≠ k → pls t' j = pls t j) (he : pls t' k = []) :
    PtOn T U w0 G0 (w.setCell ⟨r, i, none⟩ (.slice none 0 0)) G r (updV V k (.slice none 0 0)) t' :=
  h.setV k i _ hk hc hr (by rw [he]; exact Built.start _ _ _) (fun b q => by cases q)
theorem fresh_new {V : Nat → Value} {k n : Nat} {u : Value} {L : List Nat} {w1 : World} {U : Nat} (h : Built ByteR w1 n U u L) : Fresh V k n u := fun b q => .inr (h.own_lt b q).1
end
end Go.Mem
