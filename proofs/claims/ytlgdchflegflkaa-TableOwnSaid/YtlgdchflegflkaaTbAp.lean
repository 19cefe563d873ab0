/- The document's table in memory, since an earlier world: what a store into one of its cells leaves. -/
import Derived.Test.YtlgdchflegflkaaTbRefS
import Derived.Deep.RegionLaw
import Derived.Deep.RegionHeld3
namespace Go.Proofs.Ytlgdchflegflkaa.Tbl
set_option linter.unusedVariables false
open Go.ChangeShapes Go.WideShapes Go.ChangeAt Go.RowKit
open Go.Mem RecM
theorem step_append_run {P : Program} (w w' : World) (v' : Value) {ops : Array Oper} {o : Oper} {a : Act} {K : Act → World → Prop} {Q : Exit → Act → World → Prop} {E : Prop} (hgd : o.guard = none) (s x : Operand) (t tn : TypeId)
    (ho : o.op = .call { callee := .builtin .append, args := #[s, x], argTypes := #[t, tn] }) (vs vx : Value) (hs : a.eval s = vs) (hx : a.eval x = vx) (hr : (Builtin.append_ #[t, tn] o.type #[vs, vx]).run P w = .ok v' w') (h : K (a.put o.dst v') w') :
    if Region.wanted o (yielded ops a.tmps) = true then Oper.wp P o a w K Q else E := by
  rw [if_pos (show Region.wanted o (yielded ops a.tmps) = true by simp [Region.wanted, hgd])]
  exact Lib.wp_append_run w s x t tn ho vs vx hs hx v' w' hr h
/-- as it is behind a call -/
def After (w0 : World) (G0 : Nat → Prop) (r : Nat) (t : Tb.TabD) (w : World) : Prop := ∃ G, RT w G r t ∧ Turned G0 w0 w ∧ Grown G0 G w0
def ApPost (w : World) (G : Nat → Prop) (r : Nat) (t : Tb.TabD) (rd : RecD) (e : Ending) (w' : World) : Prop := e = .returned (.bool (Tb.apply t rd).isSome) ∧ After w G r (Tb.stepT t rd) w'
theorem ap_same {w w' : World} {G : Nat → Prop} {r : Nat} {t : Tb.TabD} (h : RT w G r t) (hb : Below w.heap.size w w') : After w G r t w' := ⟨G, h.below hb, Turned.of_below G hb, Grown.refl _ _⟩
theorem After.below {w0 w w' : World} {G0 : Nat → Prop} {r : Nat} {t : Tb.TabD} (h : After w0 G0 r t w) (hb : Below w.heap.size w w') : After w0 G0 r t w' := by
  obtain ⟨G, h1, h2, h3⟩ := h
  exact ⟨G, h1.below hb, h2.trans (Turned.of_below G hb) h3, h3⟩
structure RTOn (w0 : World) (G0 : Nat → Prop) (w : World) (G K : Nat → Prop) (r : Nat) (V S : Value) (t : Tb.TabD) : Prop where
  now : RTAt w G K r V S t
  ht : Turned G0 w0 w
  hg : Grown G0 G w0
theorem lt6 {P : Nat → Prop} (h0 : P 0) (h1 : P 1) (h2 : P 2) (h3 : P 3) (h4 : P 4) (h5 : P 5) : ∀ j, j < 6 → P j := by
  intro j hj
  rcases (by omega : j = 0 ∨ j = 1 ∨ j = 2 ∨ j = 3 ∨ j = 4 ∨ j = 5) with rfl | rfl | rfl | rfl | rfl | rfl <;> assumption
section
variable {w0 w w' : World} {G0 G K : Nat → Prop} {r : Nat} {V S : Value} {t : Tb.TabD}
theorem RTAt.on (h : RTAt w G K r V S t) : RTOn w G w G K r V S t := ⟨h, Turned.refl _ _, Grown.refl _ _⟩
theorem RTOn.below (h : RTOn w0 G0 w G K r V S t) (hb : Below w.heap.size w w') : RTOn w0 G0 w' G K r V S t := ⟨h.now.below hb, h.ht.trans (Turned.of_below G hb) h.hg, h.hg⟩
theorem RTAt.more (h : RTAt w G K r V S t) {G' : Nat → Prop} (hG : ∀ b, G b → G' b) (hl : ∀ b, G' b → b < w.heap.size) : RTAt w G' K r V S t :=
  ⟨h.head, h.objs, h.sts, hG _ h.gr, fun b q => ⟨hG _ (h.gk b q).1, (h.gk b q).2⟩, fun b q => ⟨hG _ (h.gv b q).1, (h.gv b q).2⟩, hl, h.k0, h.k1, h.m0, h.m1⟩
/-- the new blocks are its own -/
theorem RTOn.news (h : RTOn w0 G0 w G K r V S t) (hb : Below w.heap.size w w') : RTOn w0 G0 w' (fun b => G b ∨ (w.heap.size ≤ b ∧ b < w'.heap.size)) K r V S t := by
  refine ⟨(h.now.below hb).more (fun _ q => .inl q) (fun b q => ?_), h.ht.trans (Turned.of_below G hb) h.hg, fun b q => ?_⟩
  · rcases q with q | q
    · exact Nat.lt_of_lt_of_le (h.now.lt b q) hb.size
    · exact q.2
  · rcases q with q | q
    · exact h.hg b q
    · exact .inr (Nat.le_trans h.ht.size q.1)
theorem RTAt.set (h : RTAt w G K r V S t) (i : Nat) (v : Value) {K' : Nat → Prop} {V' S' : Value} {t' : Tb.TabD} (hc : ∀ j, j < 6 → (if j = i then v else rc t V S j) = rc t' V' S' j) (ho : BuiltX 4 ObjR K' w TObj V' t'.objs) (hs : On K' w (fun w' => Ints w' S' t'.states))
    (gk : ∀ b, K' b → G b ∧ b ≠ r) (gv : ∀ b, V'.ownBlock = some b → G b ∧ b ≠ r) (ek : t'.k = t.k) (en : t'.n = t.n) : RTAt (w.setCell ⟨r, i, none⟩ v) G K' r V' S' t' := by
  have hset : Turned (fun b => b = r) w (w.setCell ⟨r, i, none⟩ v) := Turned.set _ rfl
  refine ⟨(h.head.set i v).congr hc, ho.turned hset (fun b q => ⟨fun z => (gk b z).2 q, fun z => (gv b z).2 q⟩), hs.turned hset (fun b q z => (gk b z).2 q), h.gr, gk, gv, fun b hb => by simpa [World.setCell] using h.lt b hb, ?_, ?_, ?_, ?_⟩
  · rw [ek]; exact h.k0
  · rw [ek]; exact h.k1
  · rw [ek, en]; exact h.m0
  · rw [ek, en]; exact h.m1
theorem RTOn.set (h : RTOn w0 G0 w G K r V S t) (i : Nat) (v : Value) {K' : Nat → Prop} {V' S' : Value} {t' : Tb.TabD} (hc : ∀ j, j < 6 → (if j = i then v else rc t V S j) = rc t' V' S' j) (ho : BuiltX 4 ObjR K' w TObj V' t'.objs) (hs : On K' w (fun w' => Ints w' S' t'.states))
    (gk : ∀ b, K' b → G b ∧ b ≠ r) (gv : ∀ b, V'.ownBlock = some b → G b ∧ b ≠ r) (ek : t'.k = t.k) (en : t'.n = t.n) : RTOn w0 G0 (w.setCell ⟨r, i, none⟩ v) G K' r V' S' t' :=
  ⟨h.now.set i v hc ho hs gk gv ek en, h.ht.trans (Turned.set _ h.now.gr) h.hg, h.hg⟩
theorem RTOn.epoch (h : RTOn w0 G0 w G K r V S t) (x : Int) : RTOn w0 G0 (w.setCell ⟨r, 4, none⟩ (.int .i64 x)) G K r V S ⟨t.k, t.n, t.objs, t.states, x, t.last⟩ :=
  h.set 4 _ (lt6 rfl rfl rfl rfl rfl rfl) h.now.objs h.now.sts h.now.gk h.now.gv rfl rfl
theorem RTOn.last (h : RTOn w0 G0 w G K r V S t) (x : Int) : RTOn w0 G0 (w.setCell ⟨r, 5, none⟩ (.int .i64 x)) G K r V S ⟨t.k, t.n, t.objs, t.states, t.epoch, x⟩ :=
  h.set 5 _ (lt6 rfl rfl rfl rfl rfl rfl) h.now.objs h.now.sts h.now.gk h.now.gv rfl rfl
/-- the states are others, in a block of their own -/
theorem RTOn.states (h : RTOn w0 G0 w G K r V S t) {S' : Value} {l : List Int} (hs : On (fun b => S'.ownBlock = some b) w (fun w' => Ints w' S' l)) (gs : ∀ b, S'.ownBlock = some b → G b ∧ b ≠ r ∧ V.ownBlock ≠ some b) :
    RTOn w0 G0 (w.setCell ⟨r, 3, none⟩ S') G (fun b => K b ∨ S'.ownBlock = some b) r V S' ⟨t.k, t.n, t.objs, l, t.epoch, t.last⟩ := by
  refine h.set 3 _ (lt6 rfl rfl rfl rfl rfl rfl) (h.now.objs.more (fun b q => .inl q) (fun b q z => ?_)) (hs.more fun b q => .inr q) (fun b q => ?_) h.now.gv rfl rfl
  · rcases z with z | z
    · obtain ⟨xs, p1, p2, p3⟩ := h.now.objs
      exact p2 b q z
    · exact (gs b z).2.2 q
  · rcases q with q | q
    · exact h.now.gk b q
    · exact ⟨(gs b q).1, (gs b q).2.1⟩
/-- the objects are others: their parts lie in K' -/
theorem RTOn.objs (h : RTOn w0 G0 w G K r V S t) {K' : Nat → Prop} {V' : Value} {L : List ObjD} (ho : BuiltX 4 ObjR K' w TObj V' L) (hK : ∀ b, K b → K' b) (gk : ∀ b, K' b → G b ∧ b ≠ r) (gv : ∀ b, V'.ownBlock = some b → G b ∧ b ≠ r) :
    RTOn w0 G0 (w.setCell ⟨r, 2, none⟩ V') G K' r V' S ⟨t.k, t.n, L, t.states, t.epoch, t.last⟩ :=
  h.set 2 _ (lt6 rfl rfl rfl rfl rfl rfl) ho (h.now.sts.more hK) gk gv rfl rfl
theorem RTOn.done (h : RTOn w0 G0 w G K r V S t) : After w0 G0 r t w := ⟨G, ⟨K, V, S, h.now⟩, h.ht, h.hg⟩
end
/-- stores into another block leave a block's cells -/
theorem two_kept {w : World} {r B o i j : Nat} {v x y : Value} (hne : r ≠ B) (h : w.cell? ⟨B, i, none⟩ = some x ∧ w.cell? ⟨B, j, none⟩ = some y) : (w.setCell ⟨r, o, none⟩ v).cell? ⟨B, i, none⟩ = some x ∧ (w.setCell ⟨r, o, none⟩ v).cell? ⟨B, j, none⟩ = some y :=
  ⟨(World.cell?_setCell_other w ⟨r, o, none⟩ ⟨B, i, none⟩ v (fun e => hne (congrArg Addr.block e))).trans h.1, (World.cell?_setCell_other w ⟨r, o, none⟩ ⟨B, j, none⟩ v (fun e => hne (congrArg Addr.block e))).trans h.2⟩
/-- an object of a slice that a call has built: its four cells, and what stays so as long as the blocks of K stay -/
theorem BuiltX.val {w : World} {K : Nat → Prop} {A : Option Addr} {n C : Nat} {L : List ObjD} (h : BuiltX 4 ObjR K w TObj (.slice A n C) L) {i : Nat} (hi : i < L.length) :
    ∃ g A' C', A = some ⟨g, 0, none⟩ ∧ w.cell? ⟨g, i * 4, none⟩ = some (.string L[i].key) ∧ w.cell? ⟨g, i * 4 + 1, none⟩ = some (.int .i64 L[i].id) ∧ w.cell? ⟨g, i * 4 + 2, none⟩ = some (.int .i64 L[i].size) ∧
      w.cell? ⟨g, i * 4 + 3, none⟩ = some (.slice A' L[i].stripes.length C') ∧ On K w (fun w' => ObjR w' (fun j => #[Value.string L[i].key, .int .i64 L[i].id, .int .i64 L[i].size, .slice A' L[i].stripes.length C'].getD j undef) L[i]) := by
  obtain ⟨xs, h1, -, hx⟩ := h
  have h3 := h1
  obtain ⟨f, e, hR⟩ := hx i hi
  obtain ⟨f0, f1, f2, f3, -⟩ := hR.here
  obtain ⟨A', C', e3, -⟩ := f3.shape
  rcases h1.2 with ⟨e1, e2⟩ | ⟨g, cap, cur, e1, -⟩
  · omega
  have hcell := fun j (hj : j < 4) => h3.cells (g := g) (by rw [e1]; rfl) _ _ (e j hj)
  simp only [Value.slice.injEq] at e1
  obtain ⟨rfl, -, -⟩ := e1
  refine ⟨g, A', C', rfl, ?_, ?_, ?_, ?_, hR.map fun w' q => ⟨rfl, rfl, rfl, (by have := q.2.2.2.1; rw [e3] at this; exact this), q.2.2.2.2⟩⟩
  · have := hcell 0 (by omega)
    rw [f0, add_from] at this
    exact this
  · have := hcell 1 (by omega)
    rw [f1, add_from] at this
    exact this
  · have := hcell 2 (by omega)
    rw [f2, add_from] at this
    exact this
  · have := hcell 3 (by omega)
    rw [e3, add_from] at this
    exact this
theorem objCells : ∀ (k : ByteArray) (a b : Int) (A : Option Addr) (n C : Nat), ∀ u ∈ (#[Value.string k, .int .i64 a, .int .i64 b, .slice A n C] : Array Value).toList, u.oneCell' = true := fun k a b A n C u hu => by
  simp at hu
  rcases hu with rfl | rfl | rfl | rfl <;> rfl
end Go.Proofs.Ytlgdchflegflkaa.Tbl
