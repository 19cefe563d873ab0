/- What holds while the program reads a text, line by line. -/
import Derived.Test.YtegnheonncoodaaDoorScLns
namespace Go.Proofs.YtegnheonncoodaaDoor.Scr
set_option linter.unusedVariables false
open Go.ChangeShapes Go.WideShapes Go.ChangeAt Go.RowKit Go.Shelf
open Go.Mem Sc
abbrev TL : Nat := 22
abbrev TI : Nat := 3
abbrev TE : Nat := 26
theorem box_turned {F : Nat → Prop} {W W' : World} {b t : Nat} {v : Value} (h : Boxed W b t v) (ht : Turned F W W') (hF : ¬ F b) : Boxed W' b t v := (ht.block b h.lt hF).trans h
theorem cells_turned {F : Nat → Prop} {W W' : World} {b : Nat} (h : IsCells W b) (ht : Turned F W W') (hF : ¬ F b) : IsCells W' b := by
  obtain ⟨o, h1, h2⟩ := h
  exact ⟨o, (ht.block b (Array.getElem?_eq_some_iff.1 h1).1 hF).trans h1, h2⟩
theorem keeps_turned {F : Nat → Prop} {B : Nat} {W W' : World} (ht : Turned F W W') (hF : ∀ b, F b → B ≤ b → IsCells W b) : KeepsFrom B W W' := by
  refine ⟨ht.size, fun k o hB hk ho => ?_⟩
  by_cases hf : F k
  · obtain ⟨o', h1, h2⟩ := hF k hf hB
    rw [hk] at h1
    cases h1
    rw [ho] at h2; cases h2
  · exact (ht.block k (Array.getElem?_eq_some_iff.1 hk).1 hf).trans hk
/-- steps that the call has built; their parts lie in blocks K, all of cells, from m + 6 on, as its own does -/
structure Lst (m : Nat) (K : Nat → Prop) (V : Value) (L : List SD) (W : World) : Prop where
  bu : BuiltX 5 StepR K W TStep V L
  k : ∀ b, K b → m + 6 ≤ b ∧ IsCells W b
  o : ∀ b, V.ownBlock = some b → m + 6 ≤ b ∧ IsCells W b
theorem Lst.turned {m : Nat} {K F : Nat → Prop} {V : Value} {L : List SD} {W W' : World} (h : Lst m K V L W) (ht : Turned F W W') (hF : ∀ b, F b → b < m + 6 ∨ ¬ IsCells W b) : Lst m K V L W' := by
  have hn : ∀ b, m + 6 ≤ b ∧ IsCells W b → ¬ F b := fun b hb q => by
    rcases hF b q with h1 | h1
    · omega
    · exact h1 hb.2
  refine ⟨h.bu.turned ht fun b hb => ⟨fun q => hn b (h.k b q) hb, fun q => hn b (h.o b q) hb⟩, fun b hb => ⟨(h.k b hb).1, cells_turned (h.k b hb).2 ht (hn b (h.k b hb))⟩, fun b hb => ⟨(h.o b hb).1, cells_turned (h.o b hb).2 ht (hn b (h.o b hb))⟩⟩
theorem lst_start (m : Nat) (W : World) : Lst m (fun _ => False) (.slice none 0 0) [] W := ⟨BuiltX.start _ _ _ _ _, fun _ q => q.elim, fun b q => by cases q⟩
theorem Lst.lt {m : Nat} {K : Nat → Prop} {V : Value} {L : List SD} {W : World} (h : Lst m K V L W) : ∀ b, K b → b < W.heap.size := fun b hb => by
  obtain ⟨o, h1, _⟩ := (h.k b hb).2
  exact (Array.getElem?_eq_some_iff.1 h1).1
/-- the six boxes of the call, behind the lines pre -/
structure Mid (w : World) (n : Nat) (L : List SD) (W : World) : Prop where
  li : ∃ V K, Lst w.heap.size K V L W ∧ Boxed W (w.heap.size + 3) TL V
  nu : Boxed W (w.heap.size + 4) TI (.int .i64 (n : Nat))
  r0 : Boxed W w.heap.size TL (.slice none 0 0)
  r1 : Boxed W (w.heap.size + 1) TI (.int .i64 0)
  r2 : Boxed W (w.heap.size + 2) TE (.int .i64 0)
  be : Below w.heap.size w W
  sz : w.heap.size + 6 ≤ W.heap.size
/-- .. where only the text's box, or what is no cells and lies behind, has turned -/
theorem Mid.turned {w W W' : World} {n : Nat} {L : List SD} {F : Nat → Prop} (h : Mid w n L W) (ht : Turned F W W') (hF : ∀ b, F b → b = w.heap.size + 5 ∨ (w.heap.size + 6 ≤ b ∧ ¬ IsCells W b)) : Mid w n L W' := by
  obtain ⟨V, K, hl, hb⟩ := h.li
  have hn : ∀ i, i < 5 → ¬ F (w.heap.size + i) := fun i hi q => by rcases hF _ q with h1 | ⟨h1, _⟩ <;> omega
  refine ⟨⟨V, K, hl.turned ht fun b q => ?_, box_turned hb ht (hn 3 (by omega))⟩, box_turned h.nu ht (hn 4 (by omega)), box_turned h.r0 ht (hn 0 (by omega)), box_turned h.r1 ht (hn 1 (by omega)), box_turned h.r2 ht (hn 2 (by omega)), ?_, Nat.le_trans h.sz ht.size⟩
  · rcases hF b q with h1 | ⟨_, h1⟩
    · exact .inl (by omega)
    · exact .inr h1
  · exact h.be.trans (ht.below (fun b q => by rcases hF b q with h1 | ⟨h1, _⟩ <;> omega) h.be.size)
/-- .. and the call's end at a line that is none -/
structure Ends (w : World) (n : Nat) (W : World) : Prop where
  r0 : Boxed W w.heap.size TL (.slice none 0 0)
  r1 : Boxed W (w.heap.size + 1) TI (.int .i64 (n : Nat))
  r2 : Boxed W (w.heap.size + 2) TE (.int .i64 13)
  be : Below w.heap.size w W
  sz : w.heap.size + 6 ≤ W.heap.size
theorem Ends.turned {w W W' : World} {n : Nat} {F : Nat → Prop} (h : Ends w n W) (ht : Turned F W W') (hF : ∀ b, F b → w.heap.size + 5 ≤ b) : Ends w n W' := by
  have hn : ∀ i, i < 5 → ¬ F (w.heap.size + i) := fun i hi q => by have := hF _ q; omega
  exact ⟨box_turned h.r0 ht (hn 0 (by omega)), box_turned h.r1 ht (hn 1 (by omega)), box_turned h.r2 ht (hn 2 (by omega)), h.be.trans (ht.below (fun b q => by have := hF b q; omega) h.be.size), Nat.le_trans h.sz ht.size⟩
theorem turned_put {W : World} {l : Nat} (o' : Obj) : Turned (fun b => b = l) W (W.putObj l o') := Turned.grown (grownBy_putObj' W l o') (fun k e => by injection e with e; exact e.symm)
theorem not_cells {W : World} {l : Nat} {o : Obj} (h : W.heap[l]? = some o) (ho : o.isCells = false) : ¬ IsCells W l := by
  rintro ⟨o', h1, h2⟩
  rw [h] at h1
  cases h1
  rw [ho] at h2; cases h2
theorem mid_kept {α : Type} (w : World) (n : List α → Nat) (f : List α → List SD) (G : List α → Prop) : Kept (w.heap.size + 6) (w.heap.size + 5) (fun pre W => G pre ∧ Mid w (n pre) (f pre) W) := by
  refine ⟨fun s W W' h hg => ⟨h.1, h.2.turned (Turned.grown (F := fun b => b = w.heap.size + 5) hg (fun k e => by injection e with e; exact e.symm)) (fun b q => .inl q)⟩, fun s W l o o' h hl ho hc => ⟨h.1, h.2.turned (turned_put o') (fun b q => .inr ?_)⟩⟩
  subst q
  exact ⟨hl, not_cells ho hc⟩
theorem ends_kept {α : Type} (w : World) (n : List α → Nat) (G : List α → Prop) : Kept (w.heap.size + 6) (w.heap.size + 5) (fun pre W => G pre ∧ Ends w (n pre) W) := by
  refine ⟨fun s W W' h hg => ⟨h.1, h.2.turned (Turned.grown (F := fun b => b = w.heap.size + 5) hg (fun k e => by injection e with e; exact e.symm)) (fun b q => by subst q; exact Nat.le_refl _)⟩, fun s W l o o' h hl ho hc => ⟨h.1, h.2.turned (turned_put o') (fun b q => by subst q; omega)⟩⟩
end Go.Proofs.YtegnheonncoodaaDoor.Scr
