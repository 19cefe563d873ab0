/- The document's Apply of a RecMove: what is moved, plain; elements of a slice that a call has built, written over. -/
import Derived.Test.YtlgdchflegflkaaTbAp2
import Derived.Laws.OwnMore
namespace Tb
open Go Go.Mem Kl
theorem moveS_at {s : StpD} : ∀ {l : List StpD} {k : Nat} (hk : k < l.length), (∀ j (hj : j < l.length), j < k → ¬ l[j].id = s.id) → l[k].id = s.id → moveS s l = some (l.set k s)
  | [], k, hk, _, _ => absurd hk (by simp)
  | a :: l, 0, _, _, e => by
    unfold moveS
    rw [if_pos (by simpa using e)]
    rfl
  | a :: l, k + 1, hk, h, e => by
    unfold moveS
    rw [if_neg (show ¬ a.id = s.id from h 0 (by simp) (by omega)), moveS_at (l := l) (k := k) (by simpa using hk) (fun j hj q => h (j + 1) (by simpa using hj) (by omega)) (by simpa using e)]
    rfl
theorem moveS_not {s : StpD} {l : List StpD} (h : ∀ j (hj : j < l.length), ¬ l[j].id = s.id) : moveS s l = none := moveS_none.2 fun x hx => by
  obtain ⟨j, hj, rfl⟩ := List.getElem_of_mem hx
  exact h j hj
def movedO (o : ObjD) (k : Nat) (s : StpD) : ObjD := ⟨o.key, o.id, o.size, o.stripes.set k s⟩
theorem moveO_at {s : StpD} : ∀ {L : List ObjD} {i k : Nat} (hi : i < L.length) (hk : k < L[i].stripes.length), (∀ j (hj : j < L.length), j < i → ∀ m (hm : m < L[j].stripes.length), ¬ L[j].stripes[m].id = s.id) → (∀ m (hm : m < L[i].stripes.length), m < k → ¬ L[i].stripes[m].id = s.id) →
    L[i].stripes[k].id = s.id → moveO s L = some (L.set i (movedO L[i] k s))
  | [], i, _, hi, _, _, _, _ => absurd hi (by simp)
  | o :: L, 0, k, _, hk, _, h2, e => by
    unfold moveO
    rw [moveS_at (l := o.stripes) (k := k) hk (fun j hj q => h2 j hj q) e]
    rfl
  | o :: L, i + 1, k, hi, hk, h1, h2, e => by
    unfold moveO
    rw [moveS_not (l := o.stripes) (fun j hj => h1 0 (by simp) (by omega) j hj)]
    dsimp only
    rw [moveO_at (L := L) (i := i) (k := k) (by simpa using hi) hk (fun j hj q m hm => h1 (j + 1) (by simpa using hj) (by omega) m hm) (fun m hm q => h2 m hm q) e]
    rfl
theorem moveO_not {s : StpD} : ∀ {L : List ObjD}, (∀ j (hj : j < L.length), ∀ m (hm : m < L[j].stripes.length), ¬ L[j].stripes[m].id = s.id) → moveO s L = none
  | [], _ => rfl
  | o :: L, h => by
    unfold moveO
    rw [moveS_not (l := o.stripes) (fun j hj => h 0 (by simp) j hj)]
    dsimp only
    rw [moveO_not (L := L) (fun j hj m hm => h (j + 1) (by simpa using hj) m hm)]
    rfl
theorem ap3_one {t : TabD} {r : RecD} (hk : r.kind = 3) {s : StpD} (hs : r.stripes = [s]) : apply t r = if StpOk t.n s then (moveO s t.objs).map fun L => ⟨t.k, t.n, L, t.states, t.epoch, t.last⟩ else none := by
  unfold apply
  rw [if_neg (by omega), if_neg (by omega), if_pos hk, hs]
theorem ap3_len {t : TabD} {r : RecD} (hk : r.kind = 3) (hs : ¬ r.stripes.length = 1) : (apply t r).isSome = false ∧ stepT t r = t := by
  have e : apply t r = none := by
    unfold apply
    rw [if_neg (by omega), if_neg (by omega), if_pos hk]
    match h : r.stripes with
    | [] => rfl
    | [s] => rw [h] at hs; exact absurd rfl hs
    | a :: b :: l => rfl
  unfold stepT
  rw [e]
  exact ⟨rfl, rfl⟩
theorem ap3_wrong {t : TabD} {r : RecD} (hk : r.kind = 3) (s : StpD) (hs : r.stripes = [s]) (h : ¬ StpOk t.n s) : (apply t r).isSome = false ∧ stepT t r = t := by
  have e : apply t r = none := by rw [ap3_one hk hs, if_neg h]
  unfold stepT
  rw [e]
  exact ⟨rfl, rfl⟩
theorem ap3_none {t : TabD} {r : RecD} (hk : r.kind = 3) (s : StpD) (hs : r.stripes = [s]) (h : ∀ j (hj : j < t.objs.length), ∀ m (hm : m < t.objs[j].stripes.length), ¬ t.objs[j].stripes[m].id = s.id) : (apply t r).isSome = false ∧ stepT t r = t := by
  have e : apply t r = none := by
    rw [ap3_one hk hs, moveO_not h]
    split <;> rfl
  unfold stepT
  rw [e]
  exact ⟨rfl, rfl⟩
theorem ap3_yes {t : TabD} {r : RecD} (hk : r.kind = 3) (s : StpD) (hs : r.stripes = [s]) (h : StpOk t.n s) (i k : Nat) (hi : i < t.objs.length) (hki : k < t.objs[i].stripes.length) (h1 : ∀ j (hj : j < t.objs.length), j < i → ∀ m (hm : m < t.objs[j].stripes.length), ¬ t.objs[j].stripes[m].id = s.id)
    (h2 : ∀ m (hm : m < t.objs[i].stripes.length), m < k → ¬ t.objs[i].stripes[m].id = s.id) (e : t.objs[i].stripes[k].id = s.id) : (apply t r).isSome = true ∧ stepT t r = ⟨t.k, t.n, t.objs.set i (movedO t.objs[i] k s), t.states, t.epoch, t.last⟩ := by
  have e : apply t r = some ⟨t.k, t.n, t.objs.set i (movedO t.objs[i] k s), t.states, t.epoch, t.last⟩ := by rw [ap3_one hk hs, if_pos h, moveO_at hi hki h1 h2 e]; rfl
  unfold stepT
  rw [e]
  exact ⟨rfl, rfl⟩
theorem nStp_le {k size : Int} (h0 : 1 ≤ k) (h1 : size ≤ 96) : nStp k size ≤ 96 := by
  unfold nStp
  have hp : 0 < 8 * k := by omega
  refine Int.le_of_lt_add_one (Int.ediv_lt_of_lt_mul hp ?_)
  have : 97 * 8 ≤ 97 * (8 * k) := by omega
  omega
end Tb
namespace Go.Proofs.Ytlgdchflegflkaa.Tbl
set_option linter.unusedVariables false
open Go.ChangeShapes Go.WideShapes Go.ChangeAt Go.RowKit
open Go.Mem RecM
section
variable {α : Type} {R : World → (Nat → Value) → α → Prop} {K K' : Nat → Prop} {w : World} {t g C : Nat} {L : List α} {x : α}
theorem BuiltX.set4 (h : BuiltX 4 R K w t (.slice (some ⟨g, 0, none⟩) L.length C) L) {i : Nat} (hi : i < L.length) (hK : ∀ b, K b → K' b) (hg : ¬ K' g) (f : Nat → Value) (hR : On K' w (fun w' => R w' f x)) :
    BuiltX 4 R K' ((((w.setCell ⟨g, i * 4, none⟩ (f 0)).setCell ⟨g, i * 4 + 1, none⟩ (f 1)).setCell ⟨g, i * 4 + 2, none⟩ (f 2)).setCell ⟨g, i * 4 + 3, none⟩ (f 3)) t (.slice (some ⟨g, 0, none⟩) L.length C) (L.set i x) := by
  obtain ⟨xs, h1, h2, h3⟩ := h
  have a1 := (h1.stored (i * 4) (f 0)).1
  have a2 := (a1.stored (i * 4 + 1) (f 1)).1
  have a3 := (a2.stored (i * 4 + 2) (f 2)).1
  have a4 := (a3.stored (i * 4 + 3) (f 3)).1
  have ht : Turned (fun b => b = g) w ((((w.setCell ⟨g, i * 4, none⟩ (f 0)).setCell ⟨g, i * 4 + 1, none⟩ (f 1)).setCell ⟨g, i * 4 + 2, none⟩ (f 2)).setCell ⟨g, i * 4 + 3, none⟩ (f 3)) :=
    (((Turned.set (F := fun b => b = g) (b := g) _ rfl).trans (Turned.set (F := fun b => b = g) (b := g) _ rfl) (Grown.refl _ _)).trans (Turned.set (F := fun b => b = g) (b := g) _ rfl) (Grown.refl _ _)).trans (Turned.set (F := fun b => b = g) (b := g) _ rfl) (Grown.refl _ _)
  have hlen := h1.1
  refine ⟨_, by rw [List.length_set]; exact a4, fun b q z => ?_, fun j hj => ?_⟩
  · injection q with q; subst q; exact hg z
  by_cases e : j = i
  · subst e
    refine ⟨f, fun m hm => ?_, ?_⟩
    · rcases (by omega : m = 0 ∨ m = 1 ∨ m = 2 ∨ m = 3) with rfl | rfl | rfl | rfl
      · rw [List.getElem?_set_ne (by omega), List.getElem?_set_ne (by omega), List.getElem?_set_ne (by omega), Nat.add_zero, List.getElem?_set_self (by omega)]
      · rw [List.getElem?_set_ne (by omega), List.getElem?_set_ne (by omega), List.getElem?_set_self (by simp only [List.length_set]; omega)]
      · rw [List.getElem?_set_ne (by omega), List.getElem?_set_self (by simp only [List.length_set]; omega)]
      · rw [List.getElem?_set_self (by simp only [List.length_set]; omega)]
    · rw [List.getElem_set_self]
      exact hR.turned ht (fun b q z => hg (q ▸ z))
  · have hj' : j < L.length := by simpa using hj
    obtain ⟨f', e1, e2⟩ := h3 j hj'
    refine ⟨f', fun m hm => ?_, ?_⟩
    · rw [List.getElem?_set_ne (by omega), List.getElem?_set_ne (by omega), List.getElem?_set_ne (by omega), List.getElem?_set_ne (by omega)]
      exact e1 m hm
    · rw [List.getElem_set_ne (fun q => e q.symm)]
      exact (On.more e2 hK).turned ht (fun b q z => hg (q ▸ z))
theorem BuiltX.set3 (h : BuiltX 3 R K w t (.slice (some ⟨g, 0, none⟩) L.length C) L) {i : Nat} (hi : i < L.length) (hK : ∀ b, K b → K' b) (hg : ¬ K' g) (f : Nat → Value) (hR : On K' w (fun w' => R w' f x)) :
    BuiltX 3 R K' (((w.setCell ⟨g, i * 3, none⟩ (f 0)).setCell ⟨g, i * 3 + 1, none⟩ (f 1)).setCell ⟨g, i * 3 + 2, none⟩ (f 2)) t (.slice (some ⟨g, 0, none⟩) L.length C) (L.set i x) := by
  obtain ⟨xs, h1, h2, h3⟩ := h
  have a1 := (h1.stored (i * 3) (f 0)).1
  have a2 := (a1.stored (i * 3 + 1) (f 1)).1
  have a3 := (a2.stored (i * 3 + 2) (f 2)).1
  have ht : Turned (fun b => b = g) w (((w.setCell ⟨g, i * 3, none⟩ (f 0)).setCell ⟨g, i * 3 + 1, none⟩ (f 1)).setCell ⟨g, i * 3 + 2, none⟩ (f 2)) :=
    ((Turned.set (F := fun b => b = g) (b := g) _ rfl).trans (Turned.set (F := fun b => b = g) (b := g) _ rfl) (Grown.refl _ _)).trans (Turned.set (F := fun b => b = g) (b := g) _ rfl) (Grown.refl _ _)
  have hlen := h1.1
  refine ⟨_, by rw [List.length_set]; exact a3, fun b q z => ?_, fun j hj => ?_⟩
  · injection q with q; subst q; exact hg z
  by_cases e : j = i
  · subst e
    refine ⟨f, fun m hm => ?_, ?_⟩
    · rcases (by omega : m = 0 ∨ m = 1 ∨ m = 2) with rfl | rfl | rfl
      · rw [List.getElem?_set_ne (by omega), List.getElem?_set_ne (by omega), Nat.add_zero, List.getElem?_set_self (by omega)]
      · rw [List.getElem?_set_ne (by omega), List.getElem?_set_self (by simp only [List.length_set]; omega)]
      · rw [List.getElem?_set_self (by simp only [List.length_set]; omega)]
    · rw [List.getElem_set_self]
      exact hR.turned ht (fun b q z => hg (q ▸ z))
  · have hj' : j < L.length := by simpa using hj
    obtain ⟨f', e1, e2⟩ := h3 j hj'
    refine ⟨f', fun m hm => ?_, ?_⟩
    · rw [List.getElem?_set_ne (by omega), List.getElem?_set_ne (by omega), List.getElem?_set_ne (by omega)]
      exact e1 m hm
    · rw [List.getElem_set_ne (fun q => e q.symm)]
      exact (On.more e2 hK).turned ht (fun b q z => hg (q ▸ z))
end
/-- a stripe of a slice that a call has built -/
theorem BuiltX.valS {w : World} {K : Nat → Prop} {A : Option Addr} {n C : Nat} {L : List StpD} (h : BuiltX 3 StpR K w TStp (.slice A n C) L) {i : Nat} (hi : i < L.length) :
    ∃ g A' C', A = some ⟨g, 0, none⟩ ∧ w.cell? ⟨g, i * 3, none⟩ = some (.int .i64 L[i].id) ∧ w.cell? ⟨g, i * 3 + 1, none⟩ = some (.int .i64 L[i].ep) ∧ w.cell? ⟨g, i * 3 + 2, none⟩ = some (.slice A' L[i].locs.length C') ∧
      On K w (fun w' => StpR w' (fun j => #[Value.int .i64 L[i].id, .int .i64 L[i].ep, .slice A' L[i].locs.length C'].getD j undef) L[i]) := by
  obtain ⟨xs, h1, -, hx⟩ := h
  have h3 := h1
  obtain ⟨f, e, hR⟩ := hx i hi
  obtain ⟨f0, f1, f2, -⟩ := hR.here
  obtain ⟨A', C', e2, -⟩ := f2.shape
  rcases h1.2 with ⟨e1, q⟩ | ⟨g, cap, cur, e1, -⟩
  · omega
  have hcell := fun j (hj : j < 3) => h3.cells (g := g) (by rw [e1]; rfl) _ _ (e j hj)
  simp only [Value.slice.injEq] at e1
  obtain ⟨rfl, -, -⟩ := e1
  refine ⟨g, A', C', rfl, ?_, ?_, ?_, hR.map fun w' q => ⟨rfl, rfl, (by have := q.2.2.1; rw [e2] at this; exact this), q.2.2.2⟩⟩
  · have := hcell 0 (by omega)
    rw [f0, add_from] at this
    exact this
  · have := hcell 1 (by omega)
    rw [f1, add_from] at this
    exact this
  · have := hcell 2 (by omega)
    rw [e2, add_from] at this
    exact this
/-- where it lies, its cells are free to be written -/
theorem BuiltX.free {α : Type} {k : Nat} {R : World → (Nat → Value) → α → Prop} {K : Nat → Prop} {w : World} {t g n C : Nat} {L : List α} (h : BuiltX k R K w t (.slice (some ⟨g, 0, none⟩) n C) L) (j : Nat) : w.frozen? ⟨g, j, none⟩ = false := by
  obtain ⟨xs, h1, -, -⟩ := h
  rcases h1.2 with ⟨e, -⟩ | ⟨g', cap', cur, e, -, hg, -⟩
  · cases e
  · simp only [Value.slice.injEq, Option.some.injEq, Addr.mk.injEq, and_true] at e
    obtain ⟨rfl, -, -⟩ := e
    exact frozen_of_row w g j cur t hg
/-- one of the objects is another one -/
theorem RTOn.objAt {w0 w : World} {G0 G K K' : Nat → Prop} {r g C : Nat} {S : Value} {t : Tb.TabD} (h : RTOn w0 G0 w G K r (.slice (some ⟨g, 0, none⟩) t.objs.length C) S t) {i : Nat} (hi : i < t.objs.length) (hK : ∀ b, K b → K' b) (hg : ¬ K' g) (gk : ∀ b, K' b → G b ∧ b ≠ r) {x : ObjD} (f : Nat → Value) (hR : On K' w (fun w' => ObjR w' f x)) :
    After w0 G0 r ⟨t.k, t.n, t.objs.set i x, t.states, t.epoch, t.last⟩ ((((w.setCell ⟨g, i * 4, none⟩ (f 0)).setCell ⟨g, i * 4 + 1, none⟩ (f 1)).setCell ⟨g, i * 4 + 2, none⟩ (f 2)).setCell ⟨g, i * 4 + 3, none⟩ (f 3)) := by
  have hgG := h.now.gv g rfl
  have ht : ∀ F : Nat → Prop, F g → Turned F w ((((w.setCell ⟨g, i * 4, none⟩ (f 0)).setCell ⟨g, i * 4 + 1, none⟩ (f 1)).setCell ⟨g, i * 4 + 2, none⟩ (f 2)).setCell ⟨g, i * 4 + 3, none⟩ (f 3)) := fun F q =>
    (((Turned.set (F := F) (b := g) _ q).trans (Turned.set (F := F) (b := g) _ q) (Grown.refl _ _)).trans (Turned.set (F := F) (b := g) _ q) (Grown.refl _ _)).trans (Turned.set (F := F) (b := g) _ q) (Grown.refl _ _)
  have t1 := ht (fun b => b = g) rfl
  refine ⟨G, ⟨K', .slice (some ⟨g, 0, none⟩) t.objs.length C, S, ?_⟩, h.ht.trans (ht G hgG.1) h.hg, h.hg⟩
  refine ⟨h.now.head.of_block (t1.block r h.now.head.lt (fun q => hgG.2 q.symm)), h.now.objs.set4 hi hK hg f hR, (h.now.sts.more hK).turned t1 (fun b q z => hg (q ▸ z)), h.now.gr, gk, h.now.gv, fun b hb => Nat.lt_of_lt_of_le (h.now.lt b hb) t1.size, h.now.k0, h.now.k1, h.now.m0, h.now.m1⟩
theorem kept_3 {w : World} {b g i o1 o2 o3 : Nat} {v1 v2 v3 x : Value} (hne : g ≠ b) (h : w.cell? ⟨b, i, none⟩ = some x) : (((w.setCell ⟨g, o1, none⟩ v1).setCell ⟨g, o2, none⟩ v2).setCell ⟨g, o3, none⟩ v3).cell? ⟨b, i, none⟩ = some x := by
  have k : ∀ (w : World) (o : Nat) (v : Value), (w.setCell ⟨g, o, none⟩ v).cell? ⟨b, i, none⟩ = w.cell? ⟨b, i, none⟩ := fun w o v => World.cell?_setCell_other w ⟨g, o, none⟩ ⟨b, i, none⟩ v (fun e => hne (congrArg Addr.block e))
  rw [k, k, k]
  exact h
end Go.Proofs.Ytlgdchflegflkaa.Tbl
