/- Variables in boxes of their own, and slices that a loop over an iterator builds in them. No program is named here. -/
import Derived.Test.YtegnheonncoodaaDoorList
import Derived.RangeFuncNested
import Derived.RangeFuncBound
import Derived.RangeFuncBox
namespace Go.Mem
open Go.RowKit
/-- below block n, nothing but the blocks of l has turned -/
structure Sole (n : Nat) (l : List Nat) (W W' : World) : Prop where
  os : W'.os = W.os
  tape : W'.tape = W.tape
  output : W'.output = W.output
  size : W.heap.size ≤ W'.heap.size
  block : ∀ j, j < n → j ∉ l → W'.heap[j]? = W.heap[j]?
theorem Sole.refl (n : Nat) (l : List Nat) (W : World) : Sole n l W W := ⟨rfl, rfl, rfl, Nat.le_refl _, fun _ _ _ => rfl⟩
theorem Sole.trans {n : Nat} {l : List Nat} {A B C : World} (h : Sole n l A B) (g : Sole n l B C) : Sole n l A C :=
  ⟨g.os.trans h.os, g.tape.trans h.tape, g.output.trans h.output, Nat.le_trans h.size g.size, fun j h1 h2 => (g.block j h1 h2).trans (h.block j h1 h2)⟩
theorem Sole.below {n m : Nat} {l : List Nat} {A B : World} (h : Sole n l A B) (hm : m ≤ n) (hl : ∀ j ∈ l, m ≤ j) : Below m A B :=
  ⟨h.os, h.tape, h.output, h.size, fun j hj => h.block j (by omega) (fun hi => by have := hl j hi; omega)⟩
theorem Sole.of_grown {n : Nat} {l : List Nat} {A B : World} {r : Option Nat} (h : A.grownBy B r) (hn : n ≤ A.heap.size) (hr : ∀ j, r = some j → n ≤ j) : Sole n l A B :=
  ⟨h.os, h.tape, h.output, h.size, fun j hj _ => h.block j (by omega) (fun e => by have := hr j e.symm; omega)⟩
theorem Sole.alloc (n : Nat) (l : List Nat) (A : World) (o : Obj) (hn : n ≤ A.heap.size) : Sole n l A (A.alloc o) := Sole.of_grown (World.grownBy_alloc A o none) hn (fun _ e => by cases e)
theorem Sole.set (n B : Nat) (l : List Nat) (A : World) (v : Value) (hB : B ∈ l) : Sole n l A (A.setCell ⟨B, 0, none⟩ v) :=
  ⟨rfl, rfl, rfl, by simp [World.setCell], fun j _ hj => Below.heap_setCell A ⟨B, 0, none⟩ v j (fun e => hj (by rw [e]; exact hB))⟩
theorem box_kept {W W' : World} {row : Option Nat} {B : Nat} {t : TypeId} {v : Value} (h : Boxed W B t v) (hg : W.grownBy W' row) (hr : ∀ r, row = some r → ∃ o : Obj, W.heap[r]? = some o ∧ o.isCells = false) : Boxed W' B t v := by
  refine h.kept hg (fun e => ?_)
  obtain ⟨o, ho, hc⟩ := hr B e.symm
  rw [show W.heap[B]? = _ from h] at ho
  cases ho; cases hc
theorem row_kept {W W' : World} {row : Option Nat} {n e size k : Nat} {v : Value} {xs : List Value} (h : W.ownsRow n e size v k xs) (hg : W.grownBy W' row) (hr : ∀ r, row = some r → ∃ o : Obj, W.heap[r]? = some o ∧ o.isCells = false) : W'.ownsRow n e size v k xs := by
  refine h.kept hg ?_
  rcases h.2 with ⟨rfl, _⟩ | ⟨g, cap, cur, rfl, _, hgb, _⟩
  · exact .inl rfl
  · refine .inr fun e' => ?_
    obtain ⟨o, ho, hc⟩ := hr g (by simpa [Value.ownBlock] using e'.symm)
    rw [hgb] at ho; cases ho; cases hc
theorem row_else {W W' : World} {r : Option Nat} {n e size k : Nat} {v : Value} {xs : List Value} (h : W.ownsRow n e size v k xs) (hg : W.grownBy W' r) (hr : v.ownBlock = none ∨ v.ownBlock ≠ r) : W'.ownsRow n e size v k xs := by
  refine h.kept hg ?_
  rcases hr with h0 | h0
  · rcases h.2 with ⟨rfl, _⟩ | ⟨g, cap, cur, rfl, _⟩
    · exact .inl rfl
    · cases h0
  · exact .inr h0
theorem keeps_row {W w1 : World} {n e size k : Nat} {v : Value} {xs : List Value} (h : W.ownsRow n e size v k xs) (hg : W.grownBy w1 v.ownBlock) : KeepsOthers W w1 :=
  KeepsOthers.of_grownBy hg fun j o ej hj => by
    rcases h.2 with ⟨rfl, _⟩ | ⟨g, cap, cur, rfl, _, hgb, _⟩
    · simp [Value.ownBlock] at ej
    · obtain rfl : g = j := by simpa [Value.ownBlock] using ej
      rw [hgb] at hj; cases hj; rfl
/-- out = append(out, ..): what holds behind the append, and behind the store -/
theorem appended {W w1 : World} {n B : Nat} {t e : TypeId} {v v' : Value} {k m : Nat} {xs ys : List Value} {tmp : Obj}
    (hv : Boxed W B t v) (hB : B < n) (hn : n ≤ W.heap.size) (hrow : W.ownsRow n e 1 v k xs) (hown' : w1.ownsRow n e 1 v' m ys) (hgrow : (W.alloc tmp).grownBy w1 v.ownBlock) :
    Boxed w1 B t v ∧ Boxed (w1.setCell ⟨B, 0, none⟩ v') B t v' ∧ (w1.setCell ⟨B, 0, none⟩ v').ownsRow n e 1 v' m ys ∧ KeepsOthers W (w1.setCell ⟨B, 0, none⟩ v') ∧ Sole n [B] W (w1.setCell ⟨B, 0, none⟩ v') := by
  have hne : ∀ {w : World} {u : Value} {q : Nat} {zs : List Value}, w.ownsRow n e 1 u q zs → u.ownBlock ≠ some B := fun h e' => by have := (h.lt B e').1; omega
  have hv1 : Boxed w1 B t v := (hv.alloc tmp).kept hgrow (Ne.symm (hne hrow))
  refine ⟨hv1, hv1.set v', hown'.kept (grownBy_setCell' w1 B v') (.inr (hne hown')), ?_, ?_⟩
  · exact ((KeepsOthers.alloc W tmp).trans (keeps_row (hrow.alloc tmp) hgrow)).trans (KeepsOthers.setCell _ _ _)
  · exact ((Sole.alloc n [B] W tmp hn).trans (Sole.of_grown hgrow (by simp; omega) (fun j e' => (hrow.lt j e').1))).trans (Sole.set n B [B] w1 v' (by simp))
/-- a slice that the call has built of known values, as a slice whose elements read as l's -/
theorem slice_of_built {α : Type} {R : World → Value → α → Prop} {W : World} {n e : Nat} {v : Value} {xs : List Value} {l : List α} (hb : Built (fun _ c (y : Value) => c = y) W n e v xs) (hl : l.length = xs.length) (hR : ∀ i (hi : i < l.length), ∃ c, xs[i]? = some c ∧ R W c l[i]) : SliceOf R W v l := by
  obtain ⟨A, m, C, h1, h2, h3, h4, h5, h6⟩ := hb.slice
  refine ⟨A, m, C, h1, by omega, h3, h4, h5, fun i hi => ?_⟩
  obtain ⟨b, o, c, e1, e2, e3⟩ := h6 i (by omega)
  obtain ⟨c', e4, e5⟩ := hR i hi
  refine ⟨b, o, c, e1, e2, ?_⟩
  have : xs[i]? = some xs[i] := by simp [show i < xs.length by omega]
  rw [this] at e4
  cases e4
  rw [e3]; exact e5
/-- a row that the call owns, as a slice whose elements read as l's -/
theorem slice_of_row {α : Type} {R : World → Value → α → Prop} {W : World} {n e k : Nat} {v : Value} {xs : List Value} {l : List α} (h : W.ownsRow n e 1 v k xs) (hl : l.length = k) (hR : ∀ i (hi : i < l.length), ∃ c, xs[i]? = some c ∧ R W c l[i]) : SliceOf R W v l := by
  have hx : xs.length = k := by have := h.1; omega
  exact slice_of_built (n := n) (e := e) ⟨xs, by rw [hx]; exact h, fun i hi => ⟨xs[i], by simp [hi], fun _ _ => rfl⟩⟩ (by omega) hR
theorem cell_put {w : World} {D : Nat} {o : Obj} (o' : Obj) (hl : w.heap[D]? = some o) (ho : o.isCells = false) (a : Addr) (c : Value) (h : w.cell? a = some c) : (w.putObj D o').cell? a = some c :=
  cell_kept h (grownBy_putObj' w D o') (fun r e => by cases e; exact ⟨o, hl, ho⟩)
theorem Bytes.put {w : World} {v : Value} {l : List Nat} (h : Bytes w v l) {D : Nat} {o : Obj} (o' : Obj) (hl : w.heap[D]? = some o) (ho : o.isCells = false) : Bytes (w.putObj D o') v l :=
  SliceOf.mono h (cell_put o' hl ho) (fun _ _ h => h)
theorem Tab.put {w : World} {v : Value} {M : List (List Nat)} (h : Tab w v M) {D : Nat} {o : Obj} (o' : Obj) (hl : w.heap[D]? = some o) (ho : o.isCells = false) : Tab (w.putObj D o') v M :=
  SliceOf.mono h (cell_put o' hl ho) (fun _ _ h => Bytes.put h o' hl ho)
theorem below_put {n : Nat} {A w : World} {D : Nat} (h : Below n A w) (o' : Obj) (hn : n ≤ A.heap.size) (hD : n ≤ D) : Below n A (w.putObj D o') :=
  h.grown (grownBy_putObj' w D o') (Nat.le_trans hn h.size) (fun k e => by cases e; exact hD)
end Go.Mem
