/- Memory that a law writes into: ints that may be written, and stripes of them; what the program's tables must tell of what they tell. What the program's table tells lies in new memory that may be written: the term. x as a law writes into it, beside the tables: row, stripes and drives that may be written. Layer 14's law of memory of its own, as a walk, over an interface. -/
import Derived.Test.YtlgdchflegflkaaTbBoth
import Derived.Test.YtlgdchflegflkaaTbGe
namespace Go.Proofs.Ytlgdchflegflkaa.Tbl
set_option linter.unusedVariables false
open Go.ChangeShapes Go.WideShapes Go.ChangeAt Go.RowKit
open Go.Mem RecM
/-- what the program's tables must tell of what they tell: it lies in new memory that may be written -/
structure TbF (PD : Thing) : Prop where
  stripes : ∀ {w : World} {F : Nat → Prop} {p : Nat} {t : Tb.TabD}, PD w F p t → Few t →
    Calls Try.prog 22 #[.pointer (some ⟨p, 0, none⟩)] w fun e w' => ∃ V, e = .returned V ∧ WS (fun b => w.heap.size ≤ b) 1 w' V ∧ Below w.heap.size w w'
  states : ∀ {w : World} {F : Nat → Prop} {p : Nat} {t : Tb.TabD}, PD w F p t →
    Calls Try.prog 23 #[.pointer (some ⟨p, 0, none⟩)] w fun e w' => ∃ V, e = .returned V ∧ WI (fun b => w.heap.size ≤ b) 0 w' V ∧ Below w.heap.size w w'
/-- both tables, and blocks X that are neither's -/
def BothX (PD : Thing) (W w : World) (p r : Nat) (t t' : Tb.TabD) (X : Nat → Prop) : Prop :=
  ∃ F G, PD w F p t ∧ (∀ b, F b → W.heap.size ≤ b) ∧ RT w G r t' ∧ (∀ b, G b → W.heap.size ≤ b) ∧ (∀ b, F b → ¬ G b) ∧ Below W.heap.size W w ∧ ∀ b, X b → ¬ F b ∧ ¬ G b
theorem BothX.both {PD : Thing} {W w : World} {p r : Nat} {t t' : Tb.TabD} {X : Nat → Prop} (h : BothX PD W w p r t t' X) : BothT PD W w p r t t' := by
  obtain ⟨F, G, h1, h2, h3, h4, h5, h6, h7⟩ := h
  exact ⟨F, G, h1, h2, h3, h4, h5, h6⟩
/-- blocks of X are turned, and new ones are made -/
theorem BothX.turned {PD : Thing} (I : TbI PD) {W w w' : World} {p r : Nat} {t t' : Tb.TabD} {X : Nat → Prop} (h : BothX PD W w p r t t' X) (ht : Turned X w w') (hX : ∀ b, X b → W.heap.size ≤ b) : BothX PD W w' p r t t' X := by
  obtain ⟨F, G, h1, h2, h3, h4, h5, h6, h7⟩ := h
  exact ⟨F, G, I.turned h1 ht (fun b q => (h7 b q).1), h2, h3.turned ht (fun b q => (h7 b q).2), h4, h5, h6.trans (ht.below hX h6.size), h7⟩
theorem BothX.applyT {PD : Thing} (I : TbI PD) {W w : World} {p r : Nat} {t t' : Tb.TabD} {X : Nat → Prop} (h : BothX PD W w p r t t' X) (hX : ∀ b, X b → b < w.heap.size) (hf : Few t) (rd : RecD) (V : Value) (hr : Sure (fun b => ¬ X b) w (fun w' => RecV w' V rd)) (hfit : Fit rd) :
    Calls Try.prog 12 #[.pointer (some ⟨p, 0, none⟩), V] w fun e w' => e = .returned (.int .i64 (if (Tb.apply t rd).isSome = true then 0 else 2)) ∧ BothX PD W w' p r (Tb.stepT t rd) t' X ∧ ∃ F, Turned F w w' ∧ ∀ b, X b → ¬ F b := by
  obtain ⟨F, G, h1, h2, h3, h4, h5, h6, h7⟩ := h
  refine (I.apply h1 hf rd V (hr.less fun b q z => (h7 b z).1 q) hfit).mono fun e w' hh => ?_
  obtain ⟨e1, F', k1, k2, k3⟩ := hh
  have hs := h6.size
  refine ⟨e1, ⟨F', G, k1, fun b q => ?_, h3.turned k2 h5, h4, fun b q z => ?_, h6.trans (k2.below h2 hs), fun b q => ⟨fun z => ?_, (h7 b q).2⟩⟩, F, k2, fun b q => (h7 b q).1⟩
  · rcases k3 b q with z | z
    · exact h2 b z
    · omega
  · rcases k3 b q with y | y
    · exact h5 b y z
    · have := h3.lt b z; omega
  · rcases k3 b z with y | y
    · exact (h7 b q).1 y
    · have := hX b q; omega
theorem BothX.applyR {PD : Thing} (I : TbI PD) {W w : World} {p r : Nat} {t t' : Tb.TabD} {X : Nat → Prop} (h : BothX PD W w p r t t' X) (hX : ∀ b, X b → b < w.heap.size) (hok : t'.Ok) (hf : Few t') (rd : RecD) (V : Value) (hr : RecV w V rd) (hfit : Fit rd) :
    Calls Try.prog 13 #[.pointer (some ⟨r, 0, none⟩), V] w fun e w' => e = .returned (.bool (Tb.apply t' rd).isSome) ∧ BothX PD W w' p r t (Tb.stepT t' rd) X ∧ ∃ F, Turned F w w' ∧ ∀ b, X b → ¬ F b := by
  obtain ⟨F, G, h1, h2, h3, h4, h5, h6, h7⟩ := h
  refine (refApplyC h3 hok hf rd V hr hfit).mono fun e w' hh => ?_
  obtain ⟨e1, G', k1, k2, k3⟩ := hh
  have hs := h6.size
  refine ⟨e1, ⟨F, G', I.turned h1 k2 (fun b q z => h5 b z q), h2, k1, fun b q => ?_, fun b q z => ?_, h6.trans (k2.below h4 hs), fun b q => ⟨(h7 b q).1, fun z => ?_⟩⟩, G, k2, fun b q => (h7 b q).2⟩
  · rcases k3 b q with z | z
    · exact h4 b z
    · omega
  · rcases k3 b z with y | y
    · exact h5 b q y
    · have := I.lt h1 b q; omega
  · rcases k3 b z with y | y
    · exact (h7 b q).2 y
    · have := hX b q; omega
/-- append to ints that a call has built: the run, and what it leaves -/
theorem int_app0 {P : Program} (w : World) (base : Nat) (t ty e : TypeId) (ht : P.underlying t = some (.slice e)) (hinfo : (P.info? e).map (fun i => (i.zero, i.size, i.bytes)) = some (some (.int .i64 0), 1, 8)) (v : Value) (hv : Built IntR w base e v []) (hbase : base ≤ w.heap.size) (A : Option Addr) (m C : Nat) (l : List Int) (hl : Ints w (.slice A m C) l) (hlen : l.length ≤ 1000000) :
    ∃ v' w', (Builtin.append_ #[t, t] ty #[v, .slice A m C]).run P w = .ok v' w' ∧ Built IntR w' base e v' l ∧ Below base w w' ∧ w.grownBy w' v.ownBlock ∧ ∃ A' C', v' = .slice A' l.length C' := by
  obtain ⟨v', w', h1, h2, h3, h4⟩ := run_append_list (P := P) (R := IntR) (fun _ _ _ _ h => h) (fun _ _ _ h => by rw [h.1]; rfl) w base t ty e (.int .i64 0) 8 ht hinfo rfl _ [] hv A m C l hl (by simp; omega) hbase
  rw [List.nil_append] at h2
  obtain ⟨A', C', e', -, -⟩ := h2.len
  exact ⟨v', w', h1, h2, h4, h3, A', C', e'⟩
def set7 (w : World) (b : Nat) (c : Nat → Value) : World := ((((((w.setCell ⟨b, 0, none⟩ (c 0)).setCell ⟨b, 1, none⟩ (c 1)).setCell ⟨b, 2, none⟩ (c 2)).setCell ⟨b, 3, none⟩ (c 3)).setCell ⟨b, 4, none⟩ (c 4)).setCell ⟨b, 5, none⟩ (c 5)).setCell ⟨b, 6, none⟩ (c 6)
theorem filled {w : World} {b T : Nat} {f : Nat → Value} (c : Nat → Value) (h : w.rowIs b T 7 f) : (set7 w b c).rowIs b T 7 c ∧ Turned (fun x => x = b) w (set7 w b c) := by
  have hz := ((((((h.set 0 (c 0)).set 1 (c 1)).set 2 (c 2)).set 3 (c 3)).set 4 (c 4)).set 5 (c 5)).set 6 (c 6)
  have ht : ∀ (w : World) (o : Nat) (v : Value), Turned (fun x => x = b) w (w.setCell ⟨b, o, none⟩ v) := fun w o v => Turned.set (F := fun x => x = b) (b := b) _ rfl
  refine ⟨hz.congr fun i hi => ?_, ((((((ht w 0 _).trans (ht _ 1 _) (Grown.refl _ _)).trans (ht _ 2 _) (Grown.refl _ _)).trans (ht _ 3 _) (Grown.refl _ _)).trans (ht _ 4 _) (Grown.refl _ _)).trans (ht _ 5 _) (Grown.refl _ _)).trans (ht _ 6 _) (Grown.refl _ _)⟩
  rcases (by omega : i = 0 ∨ i = 1 ∨ i = 2 ∨ i = 3 ∨ i = 4 ∨ i = 5 ∨ i = 6) with rfl | rfl | rfl | rfl | rfl | rfl | rfl <;> rfl
def xrow (kind id size : Int) (key : ByteArray) (V D : Value) : Nat → Value := fun j => #[Value.int .i64 kind, .int .i64 id, .int .i64 size, .string key, V, .slice none 0 0, D].getD j undef
/-- x in its midst: i stripes stand in it -/
def OwnMid (wx : World) (bx T : Nat) (kind id size : Int) (key : ByteArray) (D : Value) (ss : List StpD) (i : Nat) (V : Value) (wr : World) : Prop := ∃ K : Nat → Prop, BuiltX 3 StpW K wr TStp V (ss.take i) ∧ (∀ b, K b → wx.heap.size ≤ b ∧ b < wr.heap.size) ∧ (∀ b, V.ownBlock = some b → wx.heap.size ≤ b) ∧ wr.rowIs bx T 7 (xrow kind id size key V D) ∧ Turned (fun b => b = bx) wx wr
theorem OwnMid.len {wx : World} {bx T : Nat} {kind id size : Int} {key : ByteArray} {D V : Value} {ss : List StpD} {i : Nat} {wr : World} (h : OwnMid wx bx T kind id size key D ss i V wr) (hi : i ≤ ss.length) : ∃ A C, V = .slice A i C := by
  obtain ⟨K, q, _⟩ := h
  obtain ⟨A', C', e, -⟩ := q.len
  rw [List.length_take, Nat.min_eq_left hi] at e
  exact ⟨A', C', e⟩
theorem omid_next {wx wr w3 : World} {bx T : Nat} {kind id size : Int} {key : ByteArray} {D V : Value} {ss : List StpD} {i : Nat} (h : OwnMid wx bx T kind id size key D ss i V wr) (hbx : bx < wx.heap.size) (hi : i < ss.length) {A3 : Option Addr} {C3 : Nat} {c : Array Value} (hb : Below (wr.alloc (.cells c TStp)).heap.size (wr.alloc (.cells c TStp)) w3)
    (hbu : Built IntR w3 (wr.alloc (.cells c TStp)).heap.size 3 (.slice A3 ss[i].locs.length C3) ss[i].locs) (h0 : I64 ss[i].id) (h1 : I64 ss[i].ep) (h2 : LenOk ss[i].locs.length) :
    ∃ K : Nat → Prop, BuiltX 3 StpW K (w3.setCell ⟨wr.heap.size, 2, none⟩ (.slice A3 ss[i].locs.length C3)) TStp V (ss.take i) ∧ (∀ b, K b → wx.heap.size ≤ b ∧ b < (w3.setCell ⟨wr.heap.size, 2, none⟩ (.slice A3 ss[i].locs.length C3)).heap.size) ∧ (∀ b, V.ownBlock = some b → wx.heap.size ≤ b) ∧
      On K (w3.setCell ⟨wr.heap.size, 2, none⟩ (.slice A3 ss[i].locs.length C3)) (fun w' => StpW w' (fun j => #[Value.int .i64 ss[i].id, .int .i64 ss[i].ep, .slice A3 ss[i].locs.length C3].getD j undef) ss[i]) ∧
      (w3.setCell ⟨wr.heap.size, 2, none⟩ (.slice A3 ss[i].locs.length C3)).rowIs bx T 7 (xrow kind id size key V D) ∧ Turned (fun b => b = bx) wx (w3.setCell ⟨wr.heap.size, 2, none⟩ (.slice A3 ss[i].locs.length C3)) := by
  obtain ⟨K, k1, k2, k3, k4, k5⟩ := h
  have hal : Below wr.heap.size wr (wr.alloc (.cells c TStp)) := (Below.refl _ _).alloc (Nat.le_refl _) _
  have hsz : (wr.alloc (.cells c TStp)).heap.size = wr.heap.size + 1 := by simp
  have hw3 : Below wr.heap.size wr w3 := hal.trans (hb.mono hal.size)
  have hs3 : wr.heap.size + 1 ≤ w3.heap.size := by have := hb.size; omega
  have hxs := k5.size
  have hset : Turned (fun b => b = wr.heap.size) w3 (w3.setCell ⟨wr.heap.size, 2, none⟩ (.slice A3 ss[i].locs.length C3)) := Turned.set _ rfl
  have hss : (w3.setCell ⟨wr.heap.size, 2, none⟩ (.slice A3 ss[i].locs.length C3)).heap.size = w3.heap.size := by simp [World.setCell]
  have hown := hbu.own_lt
  have hKo : ∀ b, K b → b < wr.heap.size := fun b q => (k2 b q).2
  have hvo : ∀ b, V.ownBlock = some b → b < wr.heap.size := k1.own_lt
  have hrow3 := (k4.of_block (hw3.block bx k4.lt))
  refine ⟨fun b => K b ∨ (Value.slice A3 ss[i].locs.length C3).ownBlock = some b, ?_, fun b q => ?_, k3, ?_, ?_, ?_⟩
  · have e1 := k1.below hw3
    have e2 := e1.turned hset (fun b q => ⟨fun z => by have := hKo b z; omega, fun z => by have := hvo b z; omega⟩)
    obtain ⟨xs, p1, p2, p3⟩ := k1
    exact e2.more (fun b q => .inl q) (fun b q z => by
      rcases z with z | z
      · exact p2 b q z
      · have := hvo b q; have := (hown b z).1; omega)
  · rw [hss]
    rcases q with q | q
    · exact ⟨(k2 b q).1, by have := hKo b q; omega⟩
    · exact ⟨by have := (hown b q).1; omega, (hown b q).2⟩
  · have e2 := On.turned (wi_built hbu) hset (fun b q z => by have := (hown b z).1; omega)
    exact (On.more e2 (fun b q => .inr q)).map fun w' q => ⟨⟨rfl, rfl, q.1, h0, h1, h2⟩, q.2⟩
  · exact hrow3.of_block (hset.block bx hrow3.lt (fun q => by omega))
  · have ht : Turned (fun b => b = bx) wr w3 := Turned.of_below _ hw3
    exact (k5.trans ht (Grown.refl _ _)).trans hset (fun b q => .inr (by rw [q]; exact hxs))
theorem omid_done {wx w4 w5 : World} {bx T : Nat} {kind id size : Int} {key : ByteArray} {D V v5 : Value} {ss L : List StpD} {i : Nat} {K : Nat → Prop} (hbx : bx < wx.heap.size) (k2 : ∀ b, K b → wx.heap.size ≤ b ∧ b < w4.heap.size) (k3 : ∀ b, V.ownBlock = some b → wx.heap.size ≤ b) (k5 : w4.rowIs bx T 7 (xrow kind id size key V D)) (k6 : Turned (fun b => b = bx) wx w4)
    (hb : BuiltX 3 StpW K w5 TStp v5 (ss.take (i + 1))) (ht : Turned (fun b => V.ownBlock = some b) w4 w5) (hat : v5.ownBlock = V.ownBlock ∨ v5.ownBlock = some (w4.heap.size + 1)) :
    OwnMid wx bx T kind id size key D ss (i + 1) v5 (w5.setCell ⟨bx, 4, none⟩ v5) ∧ w5.rowIs bx T 7 (xrow kind id size key V D) := by
  have hs := k6.size
  have hrow := k5.of_block (ht.block bx k5.lt (fun q => by have := k3 bx q; omega))
  have hset : Turned (fun b => b = bx) w5 (w5.setCell ⟨bx, 4, none⟩ v5) := Turned.set _ rfl
  have hv : ∀ b, v5.ownBlock = some b → wx.heap.size ≤ b := fun b q => by
    rcases hat with e | e
    · exact k3 b (e ▸ q)
    · rw [e] at q; injection q with q; omega
  refine ⟨⟨K, hb.turned hset (fun b q => ⟨fun z => by have := (k2 b z).1; omega, fun z => by have := hv b z; omega⟩), fun b q => ⟨(k2 b q).1, Nat.lt_of_lt_of_le (k2 b q).2 (Nat.le_trans ht.size hset.size)⟩, hv, (hrow.set 4 v5).congr fun j hj => ?_, (k6.trans ht (fun b q => .inr (k3 b q))).trans hset (Grown.refl _ _)⟩, hrow⟩
  rcases (by omega : j = 0 ∨ j = 1 ∨ j = 2 ∨ j = 3 ∨ j = 4 ∨ j = 5 ∨ j = 6) with rfl | rfl | rfl | rfl | rfl | rfl | rfl <;> rfl
end Go.Proofs.Ytlgdchflegflkaa.Tbl
namespace Go.Proofs.Ytlgdchflegflkaa.Tbl
set_option linter.unusedVariables false
open Go.ChangeShapes Go.WideShapes Go.ChangeAt Go.RowKit
open Go.Mem RecM
/-- the block of a stripe's places is one of K -/
theorem stpO_wi {K : Nat → Prop} {lo : Nat} {w : World} {f : Nat → Value} {s : StpD} (h : StpO K w f s) (hl : lo ≤ s.locs.length) : WI K lo w (f 2) := by
  obtain ⟨⟨-, -, h2, -⟩, A, n, C, e, g1, g2, g3, g4⟩ := h.here
  obtain ⟨A9, C9, e9, -⟩ := h2.shape
  rw [e] at e9
  cases e9
  refine ⟨A, _, C, e, hl, g2, g3, fun k hk => ?_⟩
  obtain ⟨b, o, z, e1, e2, e3, e4⟩ := g4 k hk
  refine ⟨b, o, z, e1, ?_, e3, e4⟩
  refine Classical.byContradiction fun q => ?_
  obtain ⟨⟨-, -, r2, -⟩, -⟩ := h (w.setCell ⟨b, o + k, none⟩ (.bool true)) (Turned.set (F := fun b => ¬ K b) (b := b) (o := o + k) (.bool true) q)
  obtain ⟨A8, n8, C8, e8, z1, z2, z3, z4, z5⟩ := r2
  rw [e] at e8
  cases e8
  obtain ⟨b', o', c, y1, y2, y3⟩ := z5 k hk
  rw [e1] at y1
  cases y1
  rw [World.cell?_setCell_same w ⟨b, o + k, none⟩ _ e3] at y2
  cases y2
  exact absurd y3.1 (by intro z; cases z)
theorem toldR_ws {w w' : World} {L : List StpD} {e : Ending} (h : ToldR w L e w') (hL : ∀ s ∈ L, 1 ≤ s.locs.length) : ∃ V, e = .returned V ∧ WS (fun b => w.heap.size ≤ b) 1 w' V ∧ Below w.heap.size w w' := by
  obtain ⟨V, K, he, hb, hc, hK, hV⟩ := h
  refine ⟨V, he, ?_, hb⟩
  obtain ⟨A, n, C, e, h2, h3, h4, h5, h6⟩ := hc.here
  refine ⟨A, n, C, e, h3, h4, fun i hi => ?_⟩
  obtain ⟨b, o, f, e1, e2, e3⟩ := h6 i (by omega)
  have hwi := stpO_wi e3 (hL _ (List.getElem_mem _))
  have hown : V.ownBlock = some b := by rw [e, e1]; rfl
  refine ⟨b, o, f 2, e1, (hV b hown).1, e2 2 (by omega), hwi.mono fun x q => ⟨(hK x q).1, fun z => (hV b hown).2.2 (z ▸ q)⟩⟩
theorem tabF : TbF PDt where
  stripes := fun {w F p t} ⟨hok, E, M, A, C, h, hF⟩ hf => (stripesC h hok hf).mono fun e w' hh => toldR_ws hh fun s hs => by
    have hk := h.km
    obtain ⟨o, ho, hs'⟩ := List.mem_flatMap.1 (Tb.rowS_mem.1 hs)
    have := ((hok.all.1 o ho).1.2.2.2.2.2.2.2.2 s hs').2.2.1
    omega
  states := fun {w F p t} ⟨hok, E, M, A, C, h, hF⟩ => (statesC h (by have := hok.drv.2; omega)).mono fun e w' ⟨V, base, h1, h2, h3, h4⟩ => ⟨V, h1, (wi_built h2).here.2.mono fun b q => by have := (h2.own_lt b q).1; omega, h4⟩
end Go.Proofs.Ytlgdchflegflkaa.Tbl
namespace Go.Proofs.Ytlgdchflegflkaa.Tbl
set_option linter.unusedVariables false
open Go.ChangeShapes Go.WideShapes Go.ChangeAt Go.RowKit
open Go.Mem RecM
theorem builtX_o {K : Nat → Prop} {w : World} {t : Nat} {V : Value} {L : List StpD} (h : BuiltX 3 StpW K w t V L) : BuiltX 3 (StpO K) K w t V L := by
  obtain ⟨xs, h1, h2, h3⟩ := h
  refine ⟨xs, h1, h2, fun i hi => ?_⟩
  obtain ⟨f, e, q⟩ := h3 i hi
  exact ⟨f, e, fun w' ht => On.turned q ht (fun b z y => z y)⟩
theorem builtX_ws {K X : Nat → Prop} {w : World} {t : Nat} {V : Value} {L : List StpD} (h : BuiltX 3 StpW K w t V L) (hK : ∀ b, K b → X b) (hV : ∀ b, V.ownBlock = some b → X b) : WS X 0 w V := by
  have hno : ∀ b, V.ownBlock = some b → ¬ K b := by
    obtain ⟨xs, h1, h2, h3⟩ := h
    exact h2
  obtain ⟨A, n, C, e, h2, h3, h4, h5, h6⟩ := (builtX_o h).cells
  refine ⟨A, n, C, e, h3, h4, fun i hi => ?_⟩
  obtain ⟨b, o, f, e1, e2, e3⟩ := h6 i (by omega)
  have hwi := stpO_wi (lo := 0) e3 (Nat.zero_le _)
  have hown : V.ownBlock = some b := by rw [e, e1]; rfl
  exact ⟨b, o, f 2, e1, hV b hown, e2 2 (by omega), hwi.mono fun x q => ⟨hK x q, fun z => hno b hown (z ▸ q)⟩⟩
/-- x, and the tables beside it -/
structure OwnX (PD : Thing) (W w : World) (p r bx s1 : Nat) (t t' : Tb.TabD) (f : Nat → Value) (X : Nat → Prop) : Prop where
  row : w.rowIs bx 36 7 f
  vs : WS (fun b => s1 ≤ b ∧ X b) 0 w (f 4)
  vo : ∀ b, (f 4).ownBlock = some b → s1 ≤ b
  ds : WI (fun b => b < s1 ∧ b ≠ bx ∧ X b) 0 w (f 6)
  both : BothX PD W w p r t t' X
  bx1 : bx < s1
  bxX : X bx
  low : ∀ b, X b → W.heap.size ≤ b
section
variable {PD : Thing} {W w w' : World} {p r bx s1 : Nat} {t t' t2 t2' : Tb.TabD} {f : Nat → Value} {X : Nat → Prop}
/-- a call that turns no block of X -/
theorem OwnX.call (h : OwnX PD W w p r bx s1 t t' f X) (hb : BothX PD W w' p r t2 t2' X) (ht : ∃ F, Turned F w w' ∧ ∀ b, X b → ¬ F b) : OwnX PD W w' p r bx s1 t2 t2' f X := by
  obtain ⟨F, h1, h2⟩ := ht
  exact ⟨h.row.of_block (h1.block bx h.row.lt (h2 bx h.bxX)), h.vs.turned h1 (fun b q z => h2 b z.2 q), h.vo, h.ds.turned h1 (fun b q z => h2 b z.2.2 q), hb, h.bx1, h.bxX, h.low⟩
theorem OwnX.storeV (I : TbI PD) (h : OwnX PD W w p r bx s1 t t' f X) (b o : Nat) (z : Int) (hb : s1 ≤ b) (hX : X b) (hg : ∀ A n C g o', f 4 = .slice A n C → A = some ⟨g, o', none⟩ → b ≠ g) : OwnX PD W (w.setCell ⟨b, o, none⟩ (.int .i64 z)) p r bx s1 t t' f X := by
  have ht : Turned (fun x => x = b) w (w.setCell ⟨b, o, none⟩ (.int .i64 z)) := Turned.set _ rfl
  exact ⟨h.row.of_block (ht.block bx h.row.lt (fun q => by have := h.bx1; omega)), h.vs.store b o z hg, h.vo, h.ds.store b o z, h.both.turned I (ht.mono fun x q => q ▸ hX) h.low, h.bx1, h.bxX, h.low⟩
theorem OwnX.storeD (I : TbI PD) (h : OwnX PD W w p r bx s1 t t' f X) (b o : Nat) (z : Int) (hb : b < s1) (hX : X b) (hbx : b ≠ bx) : OwnX PD W (w.setCell ⟨b, o, none⟩ (.int .i64 z)) p r bx s1 t t' f X := by
  have ht : Turned (fun x => x = b) w (w.setCell ⟨b, o, none⟩ (.int .i64 z)) := Turned.set _ rfl
  exact ⟨h.row.of_block (ht.block bx h.row.lt (fun q => hbx q.symm)), h.vs.store b o z (fun A n C g o' e1 e2 => by have := h.vo g (by rw [e1, e2]; rfl); omega), h.vo, h.ds.store b o z, h.both.turned I (ht.mono fun x q => q ▸ hX) h.low, h.bx1, h.bxX, h.low⟩
/-- a cell of a block of X that is none of x's -/
theorem OwnX.storeB (I : TbI PD) (h : OwnX PD W w p r bx s1 t t' f X) (b o : Nat) (v : Value) (hX : X b) (hlt : b < bx) (hds : ∀ A n C g o', f 6 = .slice A n C → A = some ⟨g, o', none⟩ → bx ≤ g ∨ b ≠ g) : OwnX PD W (w.setCell ⟨b, o, none⟩ v) p r bx s1 t t' f X := by
  have ht : Turned (fun x => x = b) w (w.setCell ⟨b, o, none⟩ v) := Turned.set _ rfl
  have hd : WI (fun x => (x < s1 ∧ x ≠ bx ∧ X x) ∧ x ≠ b) 0 w (f 6) := by
    obtain ⟨A, n, C, e, g1, g2, g3, g4⟩ := h.ds
    refine ⟨A, n, C, e, g1, g2, g3, fun k hk => ?_⟩
    obtain ⟨g, o', z, e1, e2, e3⟩ := g4 k hk
    exact ⟨g, o', z, e1, ⟨e2, fun q => by rcases hds A n C g o' e e1 with y | y <;> omega⟩, e3⟩
  refine ⟨h.row.of_block (ht.block bx h.row.lt (fun q => by omega)), h.vs.turned ht (fun x q z => by have := h.bx1; omega), h.vo, (hd.turned ht (fun x q z => z.2 q)).mono fun x q => q.1, h.both.turned I (ht.mono fun x q => q ▸ hX) h.low, h.bx1, h.bxX, h.low⟩
end
def noObj (rd : RecD) : RecD := ⟨rd.kind, rd.id, rd.size, rd.key, rd.stripes, [], rd.drives⟩
theorem small_noObj {rd : RecD} (h : small rd = true) : small (noObj rd) = true ∧ Fit (noObj rd) := by
  obtain ⟨h1, h2⟩ := Tb.small_parts h
  have e1 : base (noObj rd) ≤ base rd := by unfold base noObj; simp
  have e2 : items (noObj rd) ≤ items rd := by
    unfold items
    have e3 : objSum (noObj rd).objects = 0 := rfl
    have e4 : locsSum (noObj rd).stripes = locsSum rd.stripes := rfl
    omega
  refine ⟨?_, by omega, by omega⟩
  unfold small
  rw [Bool.and_eq_true]
  exact ⟨decide_eq_true (by omega), decide_eq_true (by omega)⟩
/-- x is whole: it may be written, and it reads -/
theorem ownX_start {PD : Thing} (I : TbI PD) {W w1 w4 wx wr : World} {p r bx : Nat} {t t' : Tb.TabD} {rd : RecD} {V : Value} {A : Option Addr} {C : Nat} (hb : BothT PD w1 w4 p r t t') (hW : Below W.heap.size W w1) (hWlt : W.heap.size < w1.heap.size) (hx : Below w4.heap.size w4 wx) (hbx : w4.heap.size ≤ bx) (hbx1 : bx < wx.heap.size)
    (hD : On (fun b => (Value.slice A rd.drives.length C).ownBlock = some b) wx (fun w' => Ints w' (.slice A rd.drives.length C) rd.drives ∧ WI (fun b => (Value.slice A rd.drives.length C).ownBlock = some b) 0 w' (.slice A rd.drives.length C))) (hown : ∀ b, (Value.slice A rd.drives.length C).ownBlock = some b → w4.heap.size ≤ b ∧ b ≠ bx ∧ b < wx.heap.size)
    (hm : OwnMid wx bx 36 rd.kind rd.id rd.size rd.key (.slice A rd.drives.length C) rd.stripes rd.stripes.length V wr)
    (k0 : I64 rd.kind) (k1 : I64 rd.id) (k2 : I64 rd.size) (k3 : KeyOk rd.key) (l1 : LenOk rd.stripes.length) (l2 : LenOk rd.drives.length) :
    ∃ X : Nat → Prop, X W.heap.size ∧ (∀ b, X b → b < wr.heap.size) ∧ OwnX PD W wr p r bx wx.heap.size t t' (xrow rd.kind rd.id rd.size rd.key V (.slice A rd.drives.length C)) X ∧ Sure (fun b => ¬ X b) wr (fun w' => RecV w' (.agg #[.int .i64 rd.kind, .int .i64 rd.id, .int .i64 rd.size, .string rd.key, V, .slice none 0 0, .slice A rd.drives.length C]) (noObj rd)) := by
  obtain ⟨K, m1, m2, m3, m4, m5⟩ := hm
  rw [List.take_length] at m1
  have s14 := hb.bel.size
  have s4x := hx.size
  have sxr := m5.size
  obtain ⟨F, G, h1, h2, h3, h4, h5, h6⟩ := hb
  have hbel : Below w4.heap.size w4 wr := hx.trans (m5.below (fun b q => by rw [q]; exact hbx) hx.size)
  have hV : ∀ b, V.ownBlock = some b → wx.heap.size ≤ b ∧ b < wr.heap.size := fun b q => ⟨m3 b q, m1.own_lt b q⟩
  have hX : ∀ b, (b = W.heap.size ∨ (w4.heap.size ≤ b ∧ b < wr.heap.size)) → ¬ F b ∧ ¬ G b := fun b q => ⟨fun z => by
      have := h2 b z; have := I.lt h1 b z; omega, fun z => by have := h4 b z; have := h3.lt b z; omega⟩
  have hDr := On.turned hD m5 (fun b q z => (hown b z).2.1 q)
  refine ⟨fun b => b = W.heap.size ∨ (w4.heap.size ≤ b ∧ b < wr.heap.size), .inl rfl, fun b q => by omega, ⟨m4, builtX_ws m1 (fun b q => ⟨(m2 b q).1, .inr ⟨by have := (m2 b q).1; omega, (m2 b q).2⟩⟩) (fun b q => ⟨(hV b q).1, .inr ⟨by have := (hV b q).1; omega, (hV b q).2⟩⟩), fun b q => (hV b q).1, hDr.here.2.mono fun b q => ⟨(hown b q).2.2, (hown b q).2.1, .inr ⟨(hown b q).1, by have := (hown b q).2.2; omega⟩⟩,
    ⟨F, G, I.turned h1 (Turned.of_below (fun _ => False) hbel) (fun b q => q.elim), fun b q => by have := h2 b q; omega, h3.below hbel, fun b q => by have := h4 b q; omega, h5, hW.trans ((h6.trans (hbel.mono h6.size)).mono hW.size), hX⟩, hbx1, .inr ⟨hbx, by omega⟩, fun b q => by omega⟩, fun w' ht => ?_⟩
  obtain ⟨AV, CV, e, -⟩ := m1.len
  have hs := m1.on w' (ht.mono fun b q z => q (by
    rcases z with z | z
    · exact .inr ⟨by have := (m2 b z).1; omega, (m2 b z).2⟩
    · exact .inr ⟨by have := (hV b z).1; omega, (hV b z).2⟩))
  have hd := hDr w' (ht.mono fun b q z => q (.inr ⟨(hown b z).1, by have := (hown b z).2.2; omega⟩))
  subst e
  refine ⟨AV, none, A, CV, 0, C, rfl, ⟨Cells.mono hs (fun _ _ q => q) (fun _ _ q => q.1), Cells.nil _ _ _, hd.1, k0, k1, k2, k3, l1, show LenOk 0 from Nat.zero_le _, l2⟩⟩
theorem ownX_from {PD : Thing} (I : TbI PD) {W w1 w4 wx wr : World} {p r bx B NS ND : Nat} {t t' : Tb.TabD} {kind id size : Int} {key : ByteArray} {ss : List StpD} {os : List ObjD} {ds : List Int} {V : Value} {A As Ao Ad : Option Addr} {C Cs Co Cd : Nat} (hNS : ss.length = NS) (hND : ds.length = ND) (hB : W.heap.size = B) (hb : BothT PD w1 w4 p r t t') (hW : Below W.heap.size W w1) (hWlt : B < w1.heap.size) (hx : Below w4.heap.size w4 wx) (hbx : w4.heap.size ≤ bx) (hbx1 : bx < wx.heap.size)
    (hD : On (fun b => (Value.slice A ND C).ownBlock = some b) wx (fun w' => Ints w' (.slice A ND C) ds ∧ WI (fun b => (Value.slice A ND C).ownBlock = some b) 0 w' (.slice A ND C))) (hown : ∀ b, (Value.slice A ND C).ownBlock = some b → w4.heap.size ≤ b ∧ b ≠ bx ∧ b < wx.heap.size)
    (hm : OwnMid wx bx 36 kind id size key (.slice A ND C) ss NS V wr) (hr : RecIs W ⟨kind, id, size, key, ss, os, ds⟩ As Ao Ad Cs Co Cd) :
    ∃ X : Nat → Prop, X B ∧ (∀ b, X b → b < wr.heap.size) ∧ OwnX PD W wr p r bx wx.heap.size t t' (xrow kind id size key V (.slice A ND C)) X ∧ Sure (fun b => ¬ X b) wr (fun w' => RecV w' (.agg #[.int .i64 kind, .int .i64 id, .int .i64 size, .string key, V, .slice none 0 0, .slice A ND C]) ⟨kind, id, size, key, ss, [], ds⟩) := by
  subst hNS hND hB
  exact ownX_start (rd := ⟨kind, id, size, key, ss, os, ds⟩) I hb hW hWlt hx hbx hbx1 hD hown hm hr.k0 hr.k1 hr.k2 hr.k3 hr.ls hr.ld
theorem recV_noObj {W : World} {kind id size : Int} {key : ByteArray} {ss : List StpD} {os : List ObjD} {ds : List Int} {As Ao Ad : Option Addr} {Cs Co Cd NS ND : Nat} (hNS : ss.length = NS) (hND : ds.length = ND) (hr : RecIs W ⟨kind, id, size, key, ss, os, ds⟩ As Ao Ad Cs Co Cd) :
    RecV W (.agg #[.int .i64 kind, .int .i64 id, .int .i64 size, .string key, .slice As NS Cs, .slice none 0 0, .slice Ad ND Cd]) ⟨kind, id, size, key, ss, [], ds⟩ := by
  subst hNS hND
  exact ⟨As, none, Ad, Cs, 0, Cd, rfl, ⟨hr.s, Cells.nil _ _ _, hr.d, hr.k0, hr.k1, hr.k2, hr.k3, hr.ls, show LenOk 0 from Nat.zero_le _, hr.ld⟩⟩
/-- what the program's table told, written into beside both tables -/
structure OwnT (PD : Thing) (W w : World) (p r s : Nat) (t : Tb.TabD) (VL VD : Value) : Prop where
  both : BothX PD W w p r t t (fun b => s ≤ b)
  vs : WS (fun b => s ≤ b) 1 w VL
  ds : WI (fun b => s ≤ b) 0 w VD
  low : W.heap.size ≤ s
section
variable {PD : Thing} {W w w' : World} {p r s bx s1 : Nat} {t : Tb.TabD} {f : Nat → Value} {X : Nat → Prop} {VL VD : Value}
theorem OwnT.storeV (I : TbI PD) (h : OwnT PD W w p r s t VL VD) (b o : Nat) (z : Int) (hb : s ≤ b) (hg : ∀ A n C g o', VL = .slice A n C → A = some ⟨g, o', none⟩ → b ≠ g) : OwnT PD W (w.setCell ⟨b, o, none⟩ (.int .i64 z)) p r s t VL VD :=
  ⟨h.both.turned I (Turned.set _ hb) fun x q => Nat.le_trans h.low q, h.vs.store b o z hg, h.ds.store b o z, h.low⟩
theorem ownX_stripes (I : TbI PD) (I2 : TbF PD) (h : OwnX PD W w p r bx s1 t t f X) (hf : Few t) :
    Calls Try.prog 22 #[.pointer (some ⟨p, 0, none⟩)] w fun e w' => ∃ V, e = .returned V ∧ W.heap.size ≤ w.heap.size ∧ w.heap.size ≤ w'.heap.size ∧ BothX PD W w' p r t t (fun b => w.heap.size ≤ b) ∧ WS (fun b => w.heap.size ≤ b) 1 w' V := by
  obtain ⟨F, G, h1, h2, h3, h4, h5, h6, h7⟩ := h.both
  refine (I2.stripes h1 hf).mono ?_
  rintro e w' ⟨V, he, hv, hb⟩
  exact ⟨V, he, h6.size, hb.size, ⟨F, G, I.turned h1 (Turned.of_below (fun _ => False) hb) (fun b q => q.elim), h2, h3.below hb, h4, h5, h6.trans (hb.mono h6.size), fun b q => ⟨fun z => by have := I.lt h1 b z; omega, fun z => by have := h3.lt b z; omega⟩⟩, hv⟩
theorem ownX_states (I : TbI PD) (I2 : TbF PD) (hl : W.heap.size ≤ s) (hs : s ≤ w.heap.size) (h : BothX PD W w p r t t (fun b => s ≤ b)) (hv : WS (fun b => s ≤ b) 1 w VL) :
    Calls Try.prog 23 #[.pointer (some ⟨p, 0, none⟩)] w fun e w' => ∃ V, e = .returned V ∧ OwnT PD W w' p r s t VL V := by
  obtain ⟨F, G, h1, h2, h3, h4, h5, h6, h7⟩ := h
  refine (I2.states h1).mono ?_
  rintro e w' ⟨V, he, hi, hb⟩
  exact ⟨V, he, ⟨F, G, I.turned h1 (Turned.of_below (fun _ => False) hb) (fun b q => q.elim), h2, h3.below hb, h4, h5, h6.trans (hb.mono h6.size), h7⟩, hv.turned (Turned.of_below (fun _ => False) hb) (fun b q => q.elim), hi.mono fun b q => Nat.le_trans hs q, hl⟩
end
end Go.Proofs.Ytlgdchflegflkaa.Tbl
namespace Go.Proofs.Ytlgdchflegflkaa.Tbl
set_option linter.unusedVariables false
open Go.ChangeShapes Go.WideShapes Go.ChangeAt Go.RowKit
open Go.Mem RecM
/-- x as it is made: a block of its own, and its drives' -/
def OwnStart (w4 : World) (kind id size : Int) (key : ByteArray) (ds : List Int) (s5 : Value) (wx : World) : Prop := ∃ bx A C, s5 = .pointer (some ⟨bx, 0, none⟩) ∧ wx.rowIs bx 36 7 (fun j => #[Value.int .i64 kind, .int .i64 id, .int .i64 size, .string key, .slice none 0 0, .slice none 0 0, .slice A ds.length C].getD j undef) ∧ w4.heap.size ≤ bx ∧
  On (fun b => (Value.slice A ds.length C).ownBlock = some b) wx (fun w' => Ints w' (.slice A ds.length C) ds ∧ WI (fun b => (Value.slice A ds.length C).ownBlock = some b) 0 w' (.slice A ds.length C)) ∧ (∀ b, (Value.slice A ds.length C).ownBlock = some b → w4.heap.size ≤ b ∧ b ≠ bx ∧ b < wx.heap.size) ∧ Below w4.heap.size w4 wx
theorem own_ne {w : World} {base e T b n : Nat} {v : Value} {l : List Int} {f : Nat → Value} (h : Built IntR w base e v l) (hr : w.rowIs b T n f) (hne : e ≠ T) : ∀ g, v.ownBlock = some g → g ≠ b := fun g hg q => by
  obtain ⟨xs, h1, -⟩ := h
  rcases h1.2 with ⟨e1, -⟩ | ⟨g', cap, cur, e1, _, hh, -⟩
  · rw [e1] at hg; cases hg
  · rw [e1] at hg
    injection hg with hg
    obtain ⟨c, hc, -⟩ := hr
    have q' : g' = b := hg.trans q
    rw [q', hc] at hh
    injection hh with hh
    injection hh with _ hh _
    exact hne hh.symm
/-- .. when its block was there ahead of the drives' bytes -/
theorem own_filled {w4 w6 : World} {kind id size : Int} {key : ByteArray} {ds : List Int} {bx : Nat} {A : Option Addr} {C : Nat} {f : Nat → Value} {base : Nat} (hb : Built IntR w6 base 3 (.slice A ds.length C) ds) (hbase : w4.heap.size ≤ base) (hr : w6.rowIs bx 36 7 f) (h4 : Below w4.heap.size w4 w6) (hbx : w4.heap.size ≤ bx) :
    OwnStart w4 kind id size key ds (.pointer (some ⟨bx, 0, none⟩)) (set7 w6 bx (fun j => #[Value.int .i64 kind, .int .i64 id, .int .i64 size, .string key, .slice none 0 0, .slice none 0 0, .slice A ds.length C].getD j undef)) := by
  obtain ⟨k1, k2⟩ := filled (fun j => #[Value.int .i64 kind, .int .i64 id, .int .i64 size, .string key, .slice none 0 0, .slice none 0 0, .slice A ds.length C].getD j undef) hr
  have hne := own_ne hb hr (by decide)
  exact ⟨bx, A, C, rfl, k1, hbx, On.turned (wi_built hb) k2 (fun b q z => hne b z q), fun b q => ⟨Nat.le_trans hbase (hb.own_lt b q).1, hne b q, Nat.lt_of_lt_of_le (hb.own_lt b q).2 k2.size⟩, h4.trans (k2.below (fun b q => by rw [q]; exact hbx) h4.size)⟩
theorem own_alloc {w4 w5 : World} {kind id size : Int} {key : ByteArray} {ds : List Int} {A : Option Addr} {C : Nat} (hb : Built IntR w5 w4.heap.size 3 (.slice A ds.length C) ds) (h4 : Below w4.heap.size w4 w5) :
    OwnStart w4 kind id size key ds (.pointer (some ⟨w5.heap.size, 0, none⟩)) (w5.alloc (.cells #[.int .i64 kind, .int .i64 id, .int .i64 size, .string key, .slice none 0 0, .slice none 0 0, .slice A ds.length C] 36)) := by
  have hx : Below w5.heap.size w5 (w5.alloc (.cells #[.int .i64 kind, .int .i64 id, .int .i64 size, .string key, .slice none 0 0, .slice none 0 0, .slice A ds.length C] 36)) := (Below.refl _ _).alloc (Nat.le_refl _) _
  exact ⟨w5.heap.size, A, C, rfl, row_of w5 _ _, h4.size, On.turned (wi_built hb) (Turned.of_below (fun _ => False) hx) (fun b q => q.elim), fun b q => ⟨(hb.own_lt b q).1, fun e => by have := (hb.own_lt b q).2; omega, Nat.lt_of_lt_of_le (hb.own_lt b q).2 hx.size⟩, h4.trans (hx.mono h4.size)⟩
set_option maxRecDepth 100000 in
set_option maxHeartbeats 16000000 in
theorem TableOwnC {PD : Thing} (I : TbI PD) (I2 : TbF PD) (rd : RecD) (V : Value) (W : World) (hV : RecV W V rd) :
    Calls Try.prog 6 #[V] W fun e w' => e = .returned (.bool true) ∧ Below W.heap.size W w' := by
  obtain ⟨As, Ao, Ad, Cs, Co, Cd, rfl, hr⟩ := hV
  obtain ⟨kind, id, size, key, ss, os, ds⟩ := rd
  obtain ⟨w1, hw1⟩ : ∃ w1, w1 = W.alloc (.cells #[.int .i64 kind, .int .i64 id, .int .i64 size, .string key, .slice As ss.length Cs, .slice Ao os.length Co, .slice Ad ds.length Cd] 36) := ⟨_, rfl⟩
  have hx : Below W.heap.size W w1 := by rw [hw1]; exact (Below.refl _ _).alloc (Nat.le_refl _) _
  have hrow : w1.rowIs W.heap.size 36 7 (fun i => #[Value.int .i64 kind, .int .i64 id, .int .i64 size, .string key, .slice As ss.length Cs, .slice Ao os.length Co, .slice Ad ds.length Cd].getD i undef) := by rw [hw1]; exact row_of W _ _
  have hrv : RecV w1 (recVal ⟨kind, id, size, key, ss, os, ds⟩ As Ao Ad Cs Co Cd) ⟨kind, id, size, key, ss, os, ds⟩ := ⟨As, Ao, Ad, Cs, Co, Cd, rfl, hr.below hx⟩
  have HRV := Lib.hid hrv
  have HR0 := Lib.hid hr
  obtain ⟨NS, hNS⟩ : ∃ x, ss.length = x := ⟨_, rfl⟩
  obtain ⟨ND, hND⟩ : ∃ x, ds.length = x := ⟨_, rfl⟩
  obtain ⟨B, hB⟩ : ∃ B, W.heap.size = B := ⟨_, rfl⟩
  have HBE := Lib.hid hB
  have HX := Lib.hid hx
  have HNS := Lib.hid hNS
  have HND := Lib.hid hND
  rw [hNS, hND] at hw1 hrow
  rw [hB] at hrow
  have HW1 := Lib.hid hw1
  have HRW := Lib.hid hrow
  unfold recVal at HRV ⊢
  dsimp only at HRV ⊢
  rw [hNS, hND] at HRV ⊢
  clear hr hx hrow hrv hB hw1 hNS hND
  go_enter Try.func6, Try.ntmps6
  go_upto_region 1 with (fail)
  rw [← HW1.out, HBE.out]
  have c0 := HRW.out.cell (i := 0) (by omega)
  have c1 := HRW.out.cell (i := 1) (by omega)
  have c2 := HRW.out.cell (i := 2) (by omega)
  have c3 := HRW.out.cell (i := 3) (by omega)
  have c4 := HRW.out.cell (i := 4) (by omega)
  have c5 := HRW.out.cell (i := 5) (by omega)
  have c6 := HRW.out.cell (i := 6) (by omega)
  go_wp2_with fail
  refine (Rec.refSmall HRV.out).mono ?_
  rintro _ w2 ⟨rfl, hb2⟩
  have HB2 := Lib.hid hb2
  clear hb2 c0 c1 c2 c3 c4 c5 c6
  cases hsm : small ⟨kind, id, size, key, ss, os, ds⟩
  · clear hsm
    go_wp2_with fail
    refine (answersC I _).mono ?_
    rintro _ w3 ⟨rfl, hb3⟩
    have HB3 := Lib.hid (HX.out.trans ((nxt HB2.out hb3 (Nat.le_refl _)).mono HX.out.size))
    clear hb3
    go_wp2
    go_ret
    exact ⟨rfl, HB3.out⟩
  have HSM := Lib.hid hsm
  clear hsm
  go_wp2_with fail
  refine (MineT.new (W := w1) I _ HB2.out 3 2 (.inl ⟨rfl, rfl⟩)).mono ?_
  rintro _ w3 ⟨p, rfl, hm3⟩
  have hbo := BothT.start I (show MineT PD w1 w3 p (Tb.empty 3 5) from hm3)
  have HM3 := Lib.hid hbo
  clear hm3 hbo
  go_wp2_with fail
  obtain ⟨r, hr⟩ : ∃ r, w3.heap.size = r := ⟨_, rfl⟩
  obtain ⟨w4, hw4⟩ : ∃ w4, w3.alloc (.cells #[.int .i64 3, .int .i64 2, .slice none 0 0, .slice none 0 0, .int .i64 0, .int .i64 0] TTab) = w4 := ⟨_, rfl⟩
  rw [hr] at HM3 ⊢
  rw [hw4] at HM3 ⊢
  clear hr hw4
  have hb14 := HM3.out.bel
  have hr4 := HRW.out.of_block (hb14.block B HRW.out.lt)
  have d0 := hr4.cell (i := 0) (by omega)
  have d1 := hr4.cell (i := 1) (by omega)
  have d2 := hr4.cell (i := 2) (by omega)
  have d3 := hr4.cell (i := 3) (by omega)
  have d6 := hr4.cell (i := 6) (by omega)
  obtain ⟨As', Ao', Ad', Cs', Co', Cd', e', hri⟩ := HRV.out
  have hdi : Ints w4 (.slice Ad ND Cd) ds := by
    unfold recVal at e'
    dsimp only at e'
    rw [HND.out] at e'
    cases e'
    rw [← HND.out]
    exact hri.d.below hb14
  have hdl : ds.length ≤ 1000000 := by
    have := Tb.small_parts HSM.out
    have h1 := this.1
    unfold base at h1
    dsimp only at h1
    omega
  have hHS : ∀ w', Below w4.heap.size w4 w' → w'.cell? ⟨B, 0, none⟩ = some (.int .i64 kind) ∧ w'.cell? ⟨B, 1, none⟩ = some (.int .i64 id) ∧ w'.cell? ⟨B, 2, none⟩ = some (.int .i64 size) ∧ w'.cell? ⟨B, 3, none⟩ = some (.string key) ∧ w'.cell? ⟨B, 6, none⟩ = some (.slice Ad ND Cd) := fun w' q => ⟨below_cell q _ _ d0, below_cell q _ _ d1, below_cell q _ _ d2, below_cell q _ _ d3, below_cell q _ _ d6⟩
  have HS := Lib.hid hHS
  have hz0 : Below w4.heap.size w4 w4.drew := Go.Mem.below_drewN _ w4 1
  -- the first order: the bytes, then the block
  obtain ⟨v5, w5, hr5, hbu5, hb5, A5, C5, e5⟩ := int_app (P := Try.prog) (w4.drewN 1) 29 29 3 Try.underlying29 infoInt Ad ND Cd ds (hdi.below (Go.Mem.below_drewN _ _ _)) hdl
  subst e5
  have hb5 : Below w4.heap.size w4 w5 := hz0.trans hb5
  have HO1 := Lib.hid (own_alloc (w4 := w4) (kind := kind) (id := id) (size := size) (key := key) (show Built IntR w5 w4.heap.size _ _ _ from hbu5) hb5)
  have hx1 : Below w4.heap.size w4 (w5.alloc (.cells #[.int .i64 kind, .int .i64 id, .int .i64 size, .string key, .slice none 0 0, .slice none 0 0, .slice A5 ds.length C5] 36)) := hb5.alloc hb5.size _
  -- the second: an empty slice, the block, the bytes
  have hy2 : Below w4.heap.size w4 ((w4.drewN 1).alloc (.cells #[] 3)) := hz0.alloc hz0.size _
  have hy3 : Below w4.heap.size w4 (((w4.drewN 1).alloc (.cells #[] 3)).alloc (.cells #[.int .i64 0, .int .i64 0, .int .i64 0, .string ⟨#[]⟩, .slice none 0 0, .slice none 0 0, .slice none 0 0] 36)) := hy2.alloc hy2.size _
  have hbu0 : Built IntR ((w4.drewN 1).alloc (.cells #[] 3)) w4.heap.size 3 (.slice (some ⟨w4.heap.size, 0, none⟩) 0 0) [] := built_none (w4.drewN 1) (Nat.le_refl _)
  have hal : Below ((w4.drewN 1).alloc (.cells #[] 3)).heap.size ((w4.drewN 1).alloc (.cells #[] 3)) (((w4.drewN 1).alloc (.cells #[] 3)).alloc (.cells #[.int .i64 0, .int .i64 0, .int .i64 0, .string ⟨#[]⟩, .slice none 0 0, .slice none 0 0, .slice none 0 0] 36)) := (Below.refl _ _).alloc (Nat.le_refl _) _
  obtain ⟨v6, w6, hr6, hbu6, hb6, hg6, A6, C6, e6⟩ := int_app0 (P := Try.prog) (((w4.drewN 1).alloc (.cells #[] 3)).alloc (.cells #[.int .i64 0, .int .i64 0, .int .i64 0, .string ⟨#[]⟩, .slice none 0 0, .slice none 0 0, .slice none 0 0] 36)) w4.heap.size 29 29 3 Try.underlying29 infoInt _ (hbu0.below hal) hy3.size Ad ND Cd ds (hdi.below hy3) hdl
  subst e6
  have hb6 : Below w4.heap.size w4 w6 := hy3.trans hb6
  have hrow6 : w6.rowIs (w4.heap.size + 1) 36 7 (fun j => #[Value.int .i64 0, .int .i64 0, .int .i64 0, .string ⟨#[]⟩, .slice none 0 0, .slice none 0 0, .slice none 0 0].getD j undef) := by
    have h0 := row_of ((w4.drewN 1).alloc (.cells #[] 3)) #[.int .i64 0, .int .i64 0, .int .i64 0, .string ⟨#[]⟩, .slice none 0 0, .slice none 0 0, .slice none 0 0] 36
    have e : ((w4.drewN 1).alloc (.cells #[] 3)).heap.size = w4.heap.size + 1 := by simp
    rw [e] at h0
    have ht := Turned.grown (F := fun b => b = w4.heap.size) hg6 (fun k q => by injection q with q; exact q.symm)
    exact h0.of_block (ht.block _ h0.lt (by omega))
  have HO2 := Lib.hid (own_filled (kind := kind) (id := id) (size := size) (key := key) hbu6 (Nat.le_refl _) hrow6 hb6 (by omega))
  have hx2 := HO2.out
  obtain ⟨-, -, -, -, -, -, -, -, hx2⟩ := hx2
  unfold set7 at HO2 hx2
  -- the third: the block, the bytes
  have hy4 : Below w4.heap.size w4 ((w4.drewN 1).alloc (.cells #[.int .i64 0, .int .i64 0, .int .i64 0, .string ⟨#[]⟩, .slice none 0 0, .slice none 0 0, .slice none 0 0] 36)) := hz0.alloc hz0.size _
  obtain ⟨v7, w7, hr7, hbu7, hb7, A7, C7, e7⟩ := int_app (P := Try.prog) ((w4.drewN 1).alloc (.cells #[.int .i64 0, .int .i64 0, .int .i64 0, .string ⟨#[]⟩, .slice none 0 0, .slice none 0 0, .slice none 0 0] 36)) 29 29 3 Try.underlying29 infoInt Ad ND Cd ds (hdi.below hy4) hdl
  subst e7
  have hb74 : Below w4.heap.size w4 w7 := hy4.trans (hb7.mono hy4.size)
  have hy5 : Below w4.heap.size w4 (((w4.drewN 1).alloc (.cells #[.int .i64 0, .int .i64 0, .int .i64 0, .string ⟨#[]⟩, .slice none 0 0, .slice none 0 0, .slice none 0 0] 36)).alloc (.cells #[] 3)) := hy4.alloc hy4.size _
  have hrow7 : w7.rowIs w4.heap.size 36 7 (fun j => #[Value.int .i64 0, .int .i64 0, .int .i64 0, .string ⟨#[]⟩, .slice none 0 0, .slice none 0 0, .slice none 0 0].getD j undef) := (row_of (w4.drewN 1) #[.int .i64 0, .int .i64 0, .int .i64 0, .string ⟨#[]⟩, .slice none 0 0, .slice none 0 0, .slice none 0 0] 36).of_block (hb7.block _ (by simp))
  have HO3 := Lib.hid (own_filled (kind := kind) (id := id) (size := size) (key := key) hbu7 hy4.size hrow7 hb74 (Nat.le_refl _))
  have hx3 := HO3.out
  obtain ⟨-, -, -, -, -, -, -, -, hx3⟩ := hx3
  unfold set7 at HO3 hx3
  have hsz7 : ((w4.drewN 1).alloc (.cells #[.int .i64 0, .int .i64 0, .int .i64 0, .string ⟨#[]⟩, .slice none 0 0, .slice none 0 0, .slice none 0 0] 36)).heap.size = w4.heap.size + 1 := by simp
  rw [hsz7] at hr7
  rw [HND.out] at hr5 hr6 hr7 HO1 HO2 HO3 hx1 hx2 hx3
  dsimp only [Array.getD] at HO2 HO3 hx2 hx3
  have HR5 := Lib.hid (show (Builtin.append_ #[29, 29] 29 #[.slice (some ⟨w4.heap.size, 0, none⟩) 0 0, .slice Ad ND Cd]).run Try.prog (w4.alloc (.cells #[] 3)).drew = _ from hr5)
  have HR6 := Lib.hid (show (Builtin.append_ #[29, 29] 29 #[.slice (some ⟨w4.heap.size, 0, none⟩) 0 0, .slice Ad ND Cd]).run Try.prog ((w4.alloc (.cells #[] 3)).alloc (.cells #[.int .i64 0, .int .i64 0, .int .i64 0, .string ⟨#[]⟩, .slice none 0 0, .slice none 0 0, .slice none 0 0] 36)).drew = _ from hr6)
  have HR7 := Lib.hid (show (Builtin.append_ #[29, 29] 29 #[.slice (some ⟨w4.heap.size + 1, 0, none⟩) 0 0, .slice Ad ND Cd]).run Try.prog ((w4.alloc (.cells #[.int .i64 0, .int .i64 0, .int .i64 0, .string ⟨#[]⟩, .slice none 0 0, .slice none 0 0, .slice none 0 0] 36)).alloc (.cells #[] 3)).drew = _ from hr7)
  have HO2 := Lib.hid (show OwnStart w4 kind id size key ds (.pointer (some ⟨w4.heap.size + 1, 0, none⟩)) (((((((w6.setCell ⟨w4.heap.size + 1, 0, none⟩ (.int .i64 kind)).setCell ⟨w4.heap.size + 1, 1, none⟩ (.int .i64 id)).setCell ⟨w4.heap.size + 1, 2, none⟩ (.int .i64 size)).setCell ⟨w4.heap.size + 1, 3, none⟩ (.string key)).setCell ⟨w4.heap.size + 1, 4, none⟩ (.slice none 0 0)).setCell ⟨w4.heap.size + 1, 5, none⟩ (.slice none 0 0)).setCell ⟨w4.heap.size + 1, 6, none⟩ (.slice A6 ND C6)) from HO2.out)
  have HO3 := Lib.hid (show OwnStart w4 kind id size key ds (.pointer (some ⟨w4.heap.size, 0, none⟩)) (((((((w7.setCell ⟨w4.heap.size, 0, none⟩ (.int .i64 kind)).setCell ⟨w4.heap.size, 1, none⟩ (.int .i64 id)).setCell ⟨w4.heap.size, 2, none⟩ (.int .i64 size)).setCell ⟨w4.heap.size, 3, none⟩ (.string key)).setCell ⟨w4.heap.size, 4, none⟩ (.slice none 0 0)).setCell ⟨w4.heap.size, 5, none⟩ (.slice none 0 0)).setCell ⟨w4.heap.size, 6, none⟩ (.slice A7 ND C7)) from HO3.out)
  have K1 := Lib.hid (hHS _ hx1)
  have K2 := Lib.hid (hHS (((((((w6.setCell ⟨w4.heap.size + 1, 0, none⟩ (.int .i64 kind)).setCell ⟨w4.heap.size + 1, 1, none⟩ (.int .i64 id)).setCell ⟨w4.heap.size + 1, 2, none⟩ (.int .i64 size)).setCell ⟨w4.heap.size + 1, 3, none⟩ (.string key)).setCell ⟨w4.heap.size + 1, 4, none⟩ (.slice none 0 0)).setCell ⟨w4.heap.size + 1, 5, none⟩ (.slice none 0 0)).setCell ⟨w4.heap.size + 1, 6, none⟩ (.slice A6 ND C6)) hx2)
  have K3 := Lib.hid (hHS (((((((w7.setCell ⟨w4.heap.size, 0, none⟩ (.int .i64 kind)).setCell ⟨w4.heap.size, 1, none⟩ (.int .i64 id)).setCell ⟨w4.heap.size, 2, none⟩ (.int .i64 size)).setCell ⟨w4.heap.size, 3, none⟩ (.string key)).setCell ⟨w4.heap.size, 4, none⟩ (.slice none 0 0)).setCell ⟨w4.heap.size, 5, none⟩ (.slice none 0 0)).setCell ⟨w4.heap.size, 6, none⟩ (.slice A7 ND C7)) hx3)
  have K4 := Lib.hid (hHS _ hb5)
  have K5 := Lib.hid (hHS _ hb6)
  have K6 := Lib.hid (hHS _ hb74)
  have K7 := Lib.hid (hHS ((w4.alloc (.cells #[] 3)).drew) hy2)
  have K8 := Lib.hid (hHS (((w4.alloc (.cells #[] 3)).alloc (.cells #[.int .i64 0, .int .i64 0, .int .i64 0, .string ⟨#[]⟩, .slice none 0 0, .slice none 0 0, .slice none 0 0] 36)).drew) hy3)
  have K9 := Lib.hid (hHS ((w4.alloc (.cells #[.int .i64 0, .int .i64 0, .int .i64 0, .string ⟨#[]⟩, .slice none 0 0, .slice none 0 0, .slice none 0 0] 36)).drew) hy4)
  have K10 := Lib.hid (hHS (((w4.alloc (.cells #[.int .i64 0, .int .i64 0, .int .i64 0, .string ⟨#[]⟩, .slice none 0 0, .slice none 0 0, .slice none 0 0] 36)).alloc (.cells #[] 3)).drew) hy5)
  have y0 := hrow6.cell (i := 0) (by omega)
  have y1 := hrow6.cell (i := 1) (by omega)
  have y2 := hrow6.cell (i := 2) (by omega)
  have y3 := hrow6.cell (i := 3) (by omega)
  have y4 := hrow6.cell (i := 4) (by omega)
  have y5 := hrow6.cell (i := 5) (by omega)
  have y6 := hrow6.cell (i := 6) (by omega)
  have x0 := hrow7.cell (i := 0) (by omega)
  have x1 := hrow7.cell (i := 1) (by omega)
  have x2 := hrow7.cell (i := 2) (by omega)
  have x3 := hrow7.cell (i := 3) (by omega)
  have x4 := hrow7.cell (i := 4) (by omega)
  have x5 := hrow7.cell (i := 5) (by omega)
  have x6 := hrow7.cell (i := 6) (by omega)
  have hf6 := Lib.hid (fun j => hrow6.frozen j)
  have l0 := hf6.out 0
  have l1 := hf6.out 1
  have l2 := hf6.out 2
  have l3 := hf6.out 3
  have l4 := hf6.out 4
  have l5 := hf6.out 5
  have l6 := hf6.out 6
  have m0 := hrow7.frozen 0
  have m1 := hrow7.frozen 1
  have m2 := hrow7.frozen 2
  have m3 := hrow7.frozen 3
  have m4 := hrow7.frozen 4
  have m5 := hrow7.frozen 5
  have m6 := hrow7.frozen 6
  clear hr5 hr6 hr7 hbu5 hbu6 hbu7 hb5 hb6 hb7 hb74 hx1 hx2 hx3 hy2 hy3 hy4 hy5 hbu0 hal hg6 hrow6 hrow7 hHS hdl hdi hz0 hsz7 hb14 hr4 hri e' hf6
  go_cut [5] from 22 to 34 (fun s5 wx => OwnStart w4 kind id size key ds s5 wx)
  case first =>
    go_region_held3 (fun w' => w'.cell? ⟨B, 0, none⟩ = some (.int .i64 kind) ∧ w'.cell? ⟨B, 1, none⟩ = some (.int .i64 id) ∧ w'.cell? ⟨B, 2, none⟩ = some (.int .i64 size) ∧ w'.cell? ⟨B, 3, none⟩ = some (.string key) ∧ w'.cell? ⟨B, 6, none⟩ = some (.slice Ad ND Cd))
      (first | with_reducible exact K1.out | with_reducible exact K4.out | with_reducible exact K5.out | with_reducible exact K6.out | with_reducible exact K7.out | with_reducible exact K8.out | with_reducible exact K9.out | with_reducible exact K10.out | with_reducible exact K2.out | with_reducible exact K3.out | go_keep)
      (first | ((with_reducible refine step_append_run _ _ _ ?_ (.tmp 30) (.tmp 32) _ _ ?_ _ _ ?_ ?_ HR5.out ?_); rfl; rfl; rfl; rfl) | ((with_reducible refine step_append_run _ _ _ ?_ (.tmp 30) (.tmp 32) _ _ ?_ _ _ ?_ ?_ HR6.out ?_); rfl; rfl; rfl; rfl) | ((with_reducible refine step_append_run _ _ _ ?_ (.tmp 30) (.tmp 32) _ _ ?_ _ _ ?_ ?_ HR7.out ?_); rfl; rfl; rfl; rfl))
    all_goals
      go_wp2_with fail
      go_meet
      case rel => first | exact HO1.out | exact HO2.out | exact HO3.out
  case rest =>
    obtain ⟨bx, AD, CD, rfl, hrowx, hbx, hon, hown, hb4x⟩ := hcut
    have hxlt := hrowx.lt
    have hD := Lib.hid hon
    have HOWN := Lib.hid hown
    have HB4X := Lib.hid hb4x
    have HBX := Lib.hid hbx
    have HRX := Lib.hid hrowx
    rw [HND.out] at hD HOWN HRX
    have HB1X := Lib.hid (show Below w1.heap.size w1 wc from HM3.out.bel.trans (hb4x.mono HM3.out.bel.size))
    have hsl : ss.length ≤ 1000000 ∧ ∀ u ∈ ss, u.locs.length ≤ 1000000 := by
      have hp := Tb.small_parts HSM.out
      have h1 := hp.1
      have h2 := hp.2
      unfold items base at h2
      unfold base at h1
      dsimp only at h1 h2
      exact ⟨by omega, fun u hu => by have := locsSum_mem hu; omega⟩
    have HSL := Lib.hid hsl
    obtain ⟨As', Ao', Ad', Cs', Co', Cd', e', hri⟩ := HRV.out
    have hst1 : Stps w1 (.slice As NS Cs) ss := by
      unfold recVal at e'
      dsimp only at e'
      rw [HNS.out] at e'
      cases e'
      rw [← HNS.out]
      exact hri.s
    have HST := Lib.hid hst1
    obtain ⟨gs1, gs2⟩ : NS ≤ Cs ∧ Cs ≤ 9223372036854775807 := by
      obtain ⟨A9, C9, e, g1, g2, -⟩ := hst1.shape
      cases e
      rw [HNS.out] at g1
      exact ⟨g1, g2⟩
    have hNSle : NS ≤ 1000000 := by rw [← HNS.out]; exact HSL.out.1
    have HMID0 := Lib.hid (show OwnMid wc bx 36 kind id size key (.slice AD ND CD) ss 0 (.slice none 0 0) wc from ⟨fun _ => False, BuiltX.start _ _ _ _ _, fun b q => q.elim, fun b q => (by cases q), HRX.out, Turned.refl _ _⟩)
    have hwx := HB4X.out.size
    have hw14 := HM3.out.bel.size
    have hb44 := HRW.out.lt
    have HBB := Lib.hid (show ∀ wr, Turned (fun b => b = bx) wc wr → Below w1.heap.size w1 wr from fun wr q => HB1X.out.trans (q.below (fun b z => by have := HBX.out; omega) HB1X.out.size))
    clear hrowx hbx hon hown hb4x hsl e' hri hst1
    go_wp2_with fail
    go_loopw [6] (fun c wr => ∃ (i : Nat) (V : Value), i ≤ NS ∧ c = .int .i64 i ∧ OwnMid wc bx 36 kind id size key (.slice AD ND CD) ss i V wr) (fun c _ => NS - (intOf c).toNat)
    case atStart => exact ⟨0, _, Nat.zero_le _, rfl, HMID0.out⟩
    case round =>
      obtain ⟨i, V, hi, rfl, hm⟩ := hrel
      have HM := Lib.hid hm
      have hbel := HBB.out _ hm.choose_spec.2.2.2.2
      have e4 := (HRW.out.of_block (hbel.block B HRW.out.lt)).cell (i := 4) (by omega)
      obtain ⟨AV, CV, rfl⟩ := hm.len (by rw [HNS.out]; exact hi)
      by_cases hlt : i < NS
      · have hil : i < ss.length := by rw [HNS.out]; exact hlt
        obtain ⟨b, o, A', C', rfl, a0, a1, a2, a3, a4⟩ := (HST.out.below hbel).at hil
        have HLX := Lib.hid (HSL.out.2 _ (List.getElem_mem hil))
        obtain ⟨v3, w3', hr3, hbu3, hb3, A3, C3, e3⟩ := int_app (P := Try.prog) (wr.alloc (.cells #[.int .i64 ss[i].id, .int .i64 ss[i].ep, .slice A' ss[i].locs.length C'] TStp)) 29 29 3 Try.underlying29 infoInt A' ss[i].locs.length C' ss[i].locs (a3.below ((Below.refl _ _).alloc (Nat.le_refl _) _)) HLX.out
        subst e3
        have HNX := Lib.hid (omid_next hm hxlt hil hb3 hbu3 a4.1 a4.2.1 a4.2.2)
        have HTK := Lib.hid (show ss.take (i + 1) = ss.take i ++ [ss[i]] from List.take_succ_eq_append_getElem hil)
        have HTL := Lib.hid (show (ss.take i).length = i by rw [List.length_take]; omega)
        have HTL1 := Lib.hid (show (ss.take (i + 1)).length = i + 1 by rw [List.length_take]; omega)
        have f0 := below_cell hb3 _ _ (cells_of wr #[.int .i64 ss[i].id, .int .i64 ss[i].ep, .slice A' ss[i].locs.length C'] TStp (i := 0) (by simp))
        have f1 := below_cell hb3 _ _ (cells_of wr #[.int .i64 ss[i].id, .int .i64 ss[i].ep, .slice A' ss[i].locs.length C'] TStp (i := 1) (by simp))
        have f2 := below_cell hb3 _ _ (cells_of wr #[.int .i64 ss[i].id, .int .i64 ss[i].ep, .slice A' ss[i].locs.length C'] TStp (i := 2) (by simp))
        have fz : w3'.frozen? ⟨wr.heap.size, 2, none⟩ = false := ((row_of wr #[.int .i64 ss[i].id, .int .i64 ss[i].ep, .slice A' ss[i].locs.length C'] TStp).of_block (hb3.block _ (by simp))).frozen 2
        rw [show (wr.alloc (.cells #[.int .i64 ss[i].id, .int .i64 ss[i].ep, .slice A' ss[i].locs.length C'] TStp)).heap.size = wr.heap.size + 1 by simp] at hr3
        have HR3 := Lib.hid hr3
        obtain ⟨x, hx⟩ : ∃ x, ss[i] = x := ⟨_, rfl⟩
        rw [hx] at a0 a1 a2 f0 f1 f2 HR3 HNX HTK
        obtain ⟨M, hM⟩ : ∃ M, x.locs.length = M := ⟨_, rfl⟩
        rw [hM] at a2 f2 HR3 HNX
        have q1 : (0 : Int) ≤ (i : Int) := by omega
        have q2 : (i : Int) < (NS : Int) := by omega
        clear HLX hx hil hm hr3 hbu3 hb3 hM a3 a4
        obtain ⟨K, k1, k2, k3, k4, k5, k6⟩ := HNX.out
        have K1 := Lib.hid k1
        have K2 := Lib.hid k2
        have K3 := Lib.hid k3
        have K4 := Lib.hid k4
        have K5 := Lib.hid k5
        have K6 := Lib.hid k6
        clear k1 k2 k3 k4 k5 k6 HNX
        go_upto_region 10 with (at_builtin; refine Lib.wpList_append_run _ rfl (.tmp 47) (.tmp 49) _ _ rfl _ _ rfl rfl _ _ HR3.out ?_)
        have g0 := (World.cell?_setCell_other w3' ⟨wr.heap.size, 2, none⟩ ⟨wr.heap.size, 0, none⟩ (.slice A3 M C3) (by simp)).trans f0
        have g1 := (World.cell?_setCell_other w3' ⟨wr.heap.size, 2, none⟩ ⟨wr.heap.size, 1, none⟩ (.slice A3 M C3) (by simp)).trans f1
        have g2 := World.cell?_setCell_same w3' ⟨wr.heap.size, 2, none⟩ (.slice A3 M C3) f2
        obtain ⟨w4', hw4'⟩ : ∃ w4', w3'.setCell ⟨wr.heap.size, 2, none⟩ (.slice A3 M C3) = w4' := ⟨_, rfl⟩
        rw [hw4'] at g0 g1 g2 K1 K2 K4 K5 K6 ⊢
        have z4 : w4'.cell? ⟨bx, 4, none⟩ = some (.slice AV i CV) := K5.out.cell (i := 4) (by omega)
        have HDONE := Lib.hid (show ∀ v5 w5', BuiltX 3 StpW K w5' TStp v5 (ss.take i ++ [x]) → Turned (fun b => (Value.slice AV i CV).ownBlock = some b) w4' w5' → (v5.ownBlock = (Value.slice AV i CV).ownBlock ∨ v5.ownBlock = some (w4'.heap.size + 1)) → ∃ A5 C5, v5 = .slice A5 (i + 1) C5 ∧ w5'.cell? ⟨bx, 4, none⟩ = some (.slice AV i CV) ∧ w5'.frozen? ⟨bx, 4, none⟩ = false ∧ OwnMid wc bx 36 kind id size key (.slice AD ND CD) ss (i + 1) v5 (w5'.setCell ⟨bx, 4, none⟩ v5) from fun v5 w5' hbu5 ht5 hat5 => by
          rw [← HTK.out] at hbu5
          obtain ⟨A5, C5, e5, -, -, -⟩ := hbu5.len
          rw [HTL1.out] at e5
          have hdn := omid_done (L := ss) hxlt K2.out K3.out K5.out K6.out hbu5 ht5 hat5
          exact ⟨A5, C5, e5, hdn.2.cell (i := 4) (by omega), hdn.2.frozen 4, hdn.1⟩)
        have KLT := Lib.hid (show ∀ b, K b → b < w4'.heap.size from fun b q => (K2.out b q).2)
        have KCE := Lib.hid (show ∀ u ∈ (#[Value.int .i64 x.id, .int .i64 x.ep, .slice A3 M C3] : Array Value).toList, u.oneCell' = true from fun u hu => by simp at hu; rcases hu with rfl | rfl | rfl <;> rfl)
        have KLE := Lib.hid (show ((ss.take i).length + 1) * (40 + 1) ≤ 140737488355328 by rw [HTL.out]; omega)
        clear f0 f1 f2 fz a0 a1 a2 e4 hw4' HR3
        go_wp2_with (at_builtin; refine wpList_append_builtX (R := StpW) (K := K) (L := ss.take i) _ rfl (.tmp 53) (.tmp 55) 34 rfl TStp _ 40 Try.underlying34 infoStp rfl (by omega) _ rfl K1.out KLT.out #[.int .i64 x.id, .int .i64 x.ep, .slice A3 M C3] x _ rfl rfl rfl KCE.out K4.out KLE.out ?_; intro v5 w5' hbu5 ht5 hat5; obtain ⟨A5', C5', rfl, y4, y4f, hdn⟩ := HDONE.out v5 w5' hbu5 ht5 hat5; have HDN := Lib.hid hdn; clear hdn hbu5 ht5 hat5 g0 g1 g2 z4)
        clear y4 y4f
        go_wp2_with fail
        go_roundw
        case rel => exact ⟨i + 1, _, by omega, by go_num, HDN.out⟩
        case measure => simp [intOf]; omega
      · have hi2 : NS = i := by omega
        subst hi2
        obtain ⟨X, hXB, hXlt, hox, hrx⟩ := ownX_from I HNS.out HND.out HBE.out HM3.out HX.out HRW.out.lt HB4X.out HBX.out hxlt hD.out HOWN.out hm HR0.out
        have HOX := Lib.hid hox
        have HXB := Lib.hid hXB
        have HXL := Lib.hid hXlt
        have HROW := Lib.hid (HRW.out.of_block (hbel.block B HRW.out.lt))
        have HBLT := Lib.hid (show B < w1.heap.size ∧ w1.heap.size ≤ w4.heap.size ∧ w4.heap.size ≤ bx from ⟨HRW.out.lt, hw14, HBX.out⟩)
        obtain ⟨hsm2, hfit2⟩ := small_noObj (rd := ⟨kind, id, size, key, ss, os, ds⟩) HSM.out
        have HFIT := Lib.hid (show Fit ⟨kind, id, size, key, ss, [], ds⟩ from hfit2)
        have HFW := Lib.hid (show Few (Tb.stepT (Tb.empty 3 5) ⟨kind, id, size, key, ss, [], ds⟩) from by
          have := Tb.step_length (t := Tb.empty 3 5) (r := ⟨kind, id, size, key, ss, [], ds⟩) hsm2 (n := 400) (by show (0 : Nat) ≤ 400; omega) (Nat.le_refl _)
          unfold Few
          omega)
        have HAP := Lib.hid (BothX.applyT I hox.both hXlt (show Few (Tb.empty 3 5) from Nat.zero_le _) _ _ hrx hfit2)
        have HRN := Lib.hid (recV_noObj HNS.out HND.out HR0.out)
        obtain ⟨e0, he0⟩ : ∃ e0 : Int, (if (Tb.apply (Tb.empty 3 5) ⟨kind, id, size, key, ss, [], ds⟩).isSome = true then 0 else 2) = e0 := ⟨_, rfl⟩
        obtain ⟨t, htt⟩ : ∃ t, Tb.stepT (Tb.empty 3 5) ⟨kind, id, size, key, ss, [], ds⟩ = t := ⟨_, rfl⟩
        have HTT := Lib.hid htt
        rw [he0, htt] at HAP
        rw [htt] at HFW
        have c0 : wr.cell? ⟨bx, 0, none⟩ = some (.int .i64 kind) := hox.row.cell (i := 0) (by omega)
        have c1 : wr.cell? ⟨bx, 1, none⟩ = some (.int .i64 id) := hox.row.cell (i := 1) (by omega)
        have c2 : wr.cell? ⟨bx, 2, none⟩ = some (.int .i64 size) := hox.row.cell (i := 2) (by omega)
        have c3 : wr.cell? ⟨bx, 3, none⟩ = some (.string key) := hox.row.cell (i := 3) (by omega)
        have c4 : wr.cell? ⟨bx, 4, none⟩ = some (.slice AV NS CV) := hox.row.cell (i := 4) (by omega)
        have c5 : wr.cell? ⟨bx, 5, none⟩ = some (.slice none 0 0) := hox.row.cell (i := 5) (by omega)
        have c6 : wr.cell? ⟨bx, 6, none⟩ = some (.slice AD ND CD) := hox.row.cell (i := 6) (by omega)
        clear hox hXB hXlt hrx hm HM hsm2 hfit2 he0 htt hbel HMID0 HBB
        go_wp2_with fail
        refine HAP.out.mono ?_
        rintro _ w5 ⟨rfl, hb5, ht5⟩
        have HOX5 := Lib.hid (HOX.out.call hb5 ht5)
        obtain ⟨F5, q15, q25⟩ := ht5
        have hrow5 := HROW.out.of_block (q15.block B HROW.out.lt (q25 B HXB.out))
        have hs5 : wr.heap.size ≤ w5.heap.size := q15.size
        have HS5 := Lib.hid hs5
        have z5 := hrow5.cell (i := 5) (by omega)
        have f5 := hrow5.frozen 5
        have hrow6 := hrow5.set 5 (.slice none 0 0)
        have HOX6 := Lib.hid (HOX5.out.storeB I B 5 (.slice none 0 0) HXB.out (by have := HBLT.out; omega) (fun A n C g o' e1 e2 => .inr (by
          have e1 : Value.slice AD ND CD = .slice A n C := e1
          have := (HOWN.out g (by rw [e1, e2]; rfl)).1
          have := HBLT.out
          omega)))
        obtain ⟨w6, hw6⟩ : ∃ w6, w5.setCell ⟨B, 5, none⟩ (.slice none 0 0) = w6 := ⟨_, rfl⟩
        have hs6 : w5.heap.size ≤ w6.heap.size := by rw [← hw6]; simp
        have HS6 := Lib.hid hs6
        have HW6 := Lib.hid hw6
        rw [hw6] at hrow6 HOX6
        have d0 : w6.cell? ⟨B, 0, none⟩ = some (.int .i64 kind) := hrow6.cell (i := 0) (by omega)
        have d1 : w6.cell? ⟨B, 1, none⟩ = some (.int .i64 id) := hrow6.cell (i := 1) (by omega)
        have d2 : w6.cell? ⟨B, 2, none⟩ = some (.int .i64 size) := hrow6.cell (i := 2) (by omega)
        have d3 : w6.cell? ⟨B, 3, none⟩ = some (.string key) := hrow6.cell (i := 3) (by omega)
        have d4 : w6.cell? ⟨B, 4, none⟩ = some (.slice As NS Cs) := hrow6.cell (i := 4) (by omega)
        have d5 : w6.cell? ⟨B, 5, none⟩ = some (.slice none 0 0) := hrow6.cell (i := 5) (by omega)
        have d6 : w6.cell? ⟨B, 6, none⟩ = some (.slice Ad ND Cd) := hrow6.cell (i := 6) (by omega)
        clear hb5 q15 q25 hrow5 hs5 hrow6 hw6 hs6 c0 c1 c2 c3 c4 c5 c6
        go_upto_region 13 with fail
        rw [HW6.out]
        have HAR := Lib.hid (BothX.applyR I HOX6.out.both (fun b q => by have := HXL.out b q; have := HS5.out; have := HS6.out; omega) (Tb.empty_ok 5 (by decide)) (show Few (Tb.empty 3 5) from Nat.zero_le _) _ _ (HRN.out.below HOX6.out.both.both.bel) HFIT.out)
        rw [HTT.out] at HAR
        clear z5 f5
        go_wp2_with fail
        refine HAR.out.mono ?_
        rintro _ w7 ⟨rfl, hb7, ht7⟩
        have HOX7 := Lib.hid (HOX6.out.call hb7 ht7)
        clear hb7 ht7 d0 d1 d2 d3 d4 d5 d6
        obtain ⟨s1, hs1⟩ : ∃ s1, wc.heap.size = s1 := ⟨_, rfl⟩
        rw [hs1] at HOX7
        clear hs1
        go_wp2_with fail
        go_loopw [8] (fun c wr => ∃ j : Nat, j ≤ NS ∧ c = .int .i64 j ∧ OwnX PD W wr p r bx s1 t t (xrow kind id size key (.slice AV NS CV) (.slice AD ND CD)) X) (fun c _ => NS - (intOf c).toNat)
        case atStart => exact ⟨0, Nat.zero_le _, rfl, HOX7.out⟩
        case round =>
          obtain ⟨j, hj, rfl, ho⟩ := hrel
          have HO := Lib.hid ho
          have y4 : wr.cell? ⟨bx, 4, none⟩ = some (.slice AV NS CV) := ho.row.cell (i := 4) (by omega)
          have q1 : (0 : Int) ≤ (j : Int) := by omega
          by_cases hlt2 : j < NS
          · obtain ⟨A8, n8, C8, e8, v2, v3, v4⟩ := ho.vs
            have e8 : Value.slice AV NS CV = .slice A8 n8 C8 := e8
            cases e8
            obtain ⟨g, og, v, rfl, hgx, yv, hwi⟩ := v4 j hlt2
            have HWI := Lib.hid hwi
            have YV := Lib.hid yv
            obtain ⟨A2, n2, C2, rfl, u1, u2, u3, u4⟩ := hwi
            have q2 : (j : Int) < (NS : Int) := by omega
            clear ho u4 v4 v2 v3
            go_wp2_with fail
            go_loopw [9] (fun c wr => ∃ k : Nat, k ≤ n2 ∧ c = .int .i64 k ∧ OwnX PD W wr p r bx s1 t t (xrow kind id size key (.slice (some ⟨g, og, none⟩) NS CV) (.slice AD ND CD)) X ∧ wr.cell? ⟨g, og + j * 3 + 2, none⟩ = some (.slice A2 n2 C2) ∧ WI (fun b => (s1 ≤ b ∧ X b) ∧ b ≠ g) 0 wr (.slice A2 n2 C2)) (fun c _ => n2 - (intOf c).toNat)
            case atStart => exact ⟨0, Nat.zero_le _, rfl, HO.out, YV.out, HWI.out⟩
            case round =>
              obtain ⟨k, hk, rfl, ho2, yv2, hwi2⟩ := hrel
              have HO2X := Lib.hid ho2
              have HWI2 := Lib.hid hwi2
              have x4 : wr.cell? ⟨bx, 4, none⟩ = some (.slice (some ⟨g, og, none⟩) NS CV) := ho2.row.cell (i := 4) (by omega)
              by_cases hlt3 : k < n2
              · obtain ⟨A7', n7', C7', e7, g1, g2, g3, g4⟩ := hwi2
                cases e7
                obtain ⟨b, ob, z, rfl, hbx2, yz, fz⟩ := g4 k hlt3
                have YV2 := Lib.hid yv2
                have HBX2 := Lib.hid hbx2
                have q3 : (0 : Int) ≤ (k : Int) := by omega
                have q4 : (k : Int) < (n2 : Int) := by omega
                clear ho2 g4 g1 g2 g3 hbx2
                go_wp2_with fail
                go_roundw
                case rel =>
                  refine ⟨k + 1, by omega, by go_num, HO2X.out.storeV I b (ob + k) _ HBX2.out.1.1 HBX2.out.1.2 (fun A n C g' o' e1 e2 => ?_), (World.cell?_setCell_other _ ⟨b, ob + k, none⟩ ⟨g, og + j * 3 + 2, none⟩ _ (fun q => HBX2.out.2 (congrArg Addr.block q))).trans YV2.out, HWI2.out.store b (ob + k) _⟩
                  have e1 : Value.slice (some ⟨g, og, none⟩) NS CV = .slice A n C := e1
                  rw [e2] at e1
                  injection e1 with e1
                  injection e1 with e1
                  injection e1 with e1
                  exact e1 ▸ HBX2.out.2
                case measure => simp [intOf]; omega
              · have hk2 : n2 = k := by omega
                subst hk2
                have q4 : ¬ ((n2 : Int) < (n2 : Int)) := by omega
                clear ho2 hwi2
                go_wp2_with fail
                go_roundw
                case rel => exact ⟨j + 1, by omega, by go_num, HO2X.out⟩
                case measure => simp [intOf]; omega
          · have hj2 : NS = j := by omega
            subst hj2
            have q2 : ¬ ((NS : Int) < (NS : Int)) := by omega
            clear ho
            go_wp2_with fail
            have hNDle : ND ≤ 1000 := by
              have h9 := HFIT.out.1
              unfold base at h9
              dsimp only at h9
              have := HND.out
              omega
            go_loopw [10] (fun c wr => ∃ k : Nat, k ≤ ND ∧ c = .int .i64 k ∧ OwnX PD W wr p r bx s1 t t (xrow kind id size key (.slice AV NS CV) (.slice AD ND CD)) X) (fun c _ => ND - (intOf c).toNat)
            case atStart => exact ⟨0, Nat.zero_le _, rfl, HO.out⟩
            case round =>
              obtain ⟨k, hk, rfl, ho2⟩ := hrel
              have HO2X := Lib.hid ho2
              have x6 : wr.cell? ⟨bx, 6, none⟩ = some (.slice AD ND CD) := ho2.row.cell (i := 6) (by omega)
              have q3 : (0 : Int) ≤ (k : Int) := by omega
              by_cases hlt3 : k < ND
              · obtain ⟨A7', n7', C7', e7, g1, g2, g3, g4⟩ := ho2.ds
                have e7 : Value.slice AD ND CD = .slice A7' n7' C7' := e7
                cases e7
                obtain ⟨b, ob, z, rfl, hbx2, yz, fz⟩ := g4 k hlt3
                have HBX2 := Lib.hid hbx2
                have q4 : (k : Int) < (ND : Int) := by omega
                clear ho2 g4 g1 g2 g3 hbx2
                go_wp2_with fail
                go_roundw
                case rel => exact ⟨k + 1, by omega, by go_num, HO2X.out.storeD I b (ob + k) _ HBX2.out.1 HBX2.out.2.2 HBX2.out.2.1⟩
                case measure => simp [intOf]; omega
              · have hk2 : ND = k := by omega
                subst hk2
                have q4 : ¬ ((ND : Int) < (ND : Int)) := by omega
                clear ho2
                go_wp2_with fail
                refine (ownX_stripes I I2 HO2X.out HFW.out).mono ?_
                rintro _ w8 ⟨VL, rfl, l1, l2, hb8, hv8⟩
                have HL1 := Lib.hid (And.intro l1 l2)
                have HB8 := Lib.hid hb8
                have HV8 := Lib.hid hv8
                clear l1 l2 hb8 hv8 x6
                go_wp2_with fail
                refine (ownX_states I I2 HL1.out.1 HL1.out.2 HB8.out HV8.out).mono ?_
                rintro _ w9 ⟨VD, rfl, hot⟩
                have HOT := Lib.hid hot
                obtain ⟨AL, NL, CL, rfl, gl1, gl2, -⟩ := hot.vs
                obtain ⟨AE, NE, CE, rfl, -, ge1, ge2, -⟩ := hot.ds
                clear hot
                obtain ⟨s8, hs8⟩ : ∃ s8, wr.heap.size = s8 := ⟨_, rfl⟩
                rw [hs8] at HOT
                clear hs8 HL1 HB8 HV8
                go_wp2_with fail
                go_loopw [13] (fun c wr => ∃ k : Nat, k ≤ NL ∧ c = .int .i64 k ∧ OwnT PD W wr p r s8 t (.slice AL NL CL) (.slice AE NE CE)) (fun c _ => NL - (intOf c).toNat)
                case atStart => exact ⟨0, Nat.zero_le _, rfl, HOT.out⟩
                case round =>
                  obtain ⟨k, hk, rfl, ho⟩ := hrel
                  have HO5 := Lib.hid ho
                  have q3 : (0 : Int) ≤ (k : Int) := by omega
                  by_cases hlt5 : k < NL
                  · obtain ⟨A7', n7', C7', e7, g2, g3, g4⟩ := ho.vs
                    cases e7
                    obtain ⟨g, og, v, rfl, hgx, yv, hwi⟩ := g4 k hlt5
                    obtain ⟨A2, n2, C2, rfl, u1, u2, u3, u4⟩ := hwi
                    obtain ⟨b, ob, z, rfl, hbx2, yz, fz⟩ := u4 0 (by omega)
                    have HBX2 := Lib.hid hbx2
                    rw [Nat.add_zero] at yz fz
                    have q4 : (k : Int) < (NL : Int) := by omega
                    have q5 : (0 : Int) < (n2 : Int) := by omega
                    clear ho g4 u4 hbx2 hgx
                    go_wp2_with fail
                    go_roundw
                    case rel =>
                      refine ⟨k + 1, by omega, by go_num, HO5.out.storeV I b ob 99 HBX2.out.1 (fun A n C g' o' e1 e2 => ?_)⟩
                      rw [e2] at e1
                      injection e1 with e1
                      injection e1 with e1
                      injection e1 with e1
                      exact e1 ▸ HBX2.out.2
                    case measure => simp [intOf]; omega
                  · have hk2 : NL = k := by omega
                    subst hk2
                    have q4 : ¬ ((NL : Int) < (NL : Int)) := by omega
                    have HLOW := Lib.hid ho.low
                    clear ho
                    go_wp2_with fail
                    go_loopw [14] (fun c wr => ∃ k : Nat, k ≤ NE ∧ c = .int .i64 k ∧ BothX PD W wr p r t t (fun b => s8 ≤ b) ∧ WI (fun b => s8 ≤ b) 0 wr (.slice AE NE CE)) (fun c _ => NE - (intOf c).toNat)
                    case atStart => exact ⟨0, Nat.zero_le _, rfl, HO5.out.both, HO5.out.ds⟩
                    case round =>
                      obtain ⟨k, hk, rfl, ho, hwi⟩ := hrel
                      have HO6 := Lib.hid ho
                      have HWI6 := Lib.hid hwi
                      have q3 : (0 : Int) ≤ (k : Int) := by omega
                      by_cases hlt6 : k < NE
                      · obtain ⟨A7', n7', C7', e7, g1, g2, g3, g4⟩ := hwi
                        cases e7
                        obtain ⟨b, ob, z, rfl, hbx2, yz, fz⟩ := g4 k hlt6
                        have HBX2 := Lib.hid hbx2
                        have q4 : (k : Int) < (NE : Int) := by omega
                        clear ho g4 hbx2
                        go_wp2_with fail
                        go_roundw
                        case rel => exact ⟨k + 1, by omega, by go_num, HO6.out.turned I (Turned.set _ HBX2.out) (fun x q => Nat.le_trans HLOW.out q), HWI6.out.store b (ob + k) 99⟩
                        case measure => simp [intOf]; omega
                      · have hk2 : NE = k := by omega
                        subst hk2
                        have q4 : ¬ ((NE : Int) < (NE : Int)) := by omega
                        clear ho hwi
                        go_wp2_with fail
                        refine (answersC I _).mono ?_
                        rintro _ w10 ⟨rfl, hb10⟩
                        have HBT := Lib.hid (HO6.out.both.below I hb10)
                        clear hb10
                        go_wp2_with fail
                        refine (BothT.sameC I HBT.out HFW.out).mono ?_
                        rintro _ w11 ⟨rfl, hm11⟩
                        have HM11 := Lib.hid hm11.bel
                        clear hm11
                        go_wp2
                        go_ret
                        exact ⟨rfl, HM11.out⟩
end Go.Proofs.Ytlgdchflegflkaa.Tbl
