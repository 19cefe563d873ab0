/- Steps with their answers as an argument; the law's own account of a history, beside the program's. -/
import Derived.Test.YtcljpniknpgmpaaHsLaw
namespace Hs
open Go Go.Mem
structure PairD where
  x : StepD
  a : AnsD
/-- what there is behind the first i steps -/
def stAt (l : List PairD) (i : Nat) : St := (l.take i).foldl (fun s q => s.add q.x q.a) zero
theorem stAt_zero (l : List PairD) : stAt l 0 = zero := rfl
theorem stAt_succ {l : List PairD} {i : Nat} (h : i < l.length) : stAt l (i + 1) = (stAt l i).add l[i].x l[i].a := by
  unfold stAt
  rw [List.take_succ_eq_append_getElem h, List.foldl_append]
  rfl
theorem stAt_ok (l : List PairD) : ∀ i, i ≤ l.length → (stAt l i).mom = i ∧ (stAt l i).calls.length ≤ i ∧ (stAt l i).Uniq
  | 0, _ => ⟨rfl, Nat.le_refl _, St.zero_uniq⟩
  | i + 1, h => by
    obtain ⟨h1, h2, h3⟩ := stAt_ok l i (by omega)
    rw [stAt_succ (by omega)]
    exact ⟨by rw [St.add_mom, h1], Nat.le_trans (St.add_len _ _) (by omega), St.add_uniq h3 _ _⟩
/-- n - 1 downwards -/
def dec : Nat → Int
  | 0 => -1
  | k + 1 => (k : Nat)
theorem dec_eq (k : Nat) : ((k : Nat) : Int) - 1 = dec k := by
  cases k with
  | zero => rfl
  | succ k => show ((k + 1 : Nat) : Int) - 1 = (k : Nat); omega
end Hs
namespace Go.Proofs.Ytcljpniknpgmpaa.Hst
set_option linter.unusedVariables false
open Go.ChangeShapes Go.WideShapes Go.ChangeAt Go.RowKit
open Go.Mem Hs
structure PairR (w : World) (f : Nat → Value) (q : PairD) : Prop where
  r0 : f 0 = .int .i64 q.x.kind
  r1 : f 1 = .int .i64 q.x.a
  r2 : f 2 = .string q.x.key
  r3 : Bytes w (f 3) q.x.data
  r4 : f 4 = .int .u64 q.x.keep
  r5 : f 5 = .int .i64 q.a.e
  r6 : f 6 = .int .i64 q.a.task
  r7 : f 7 = .bool q.a.done
  r8 : f 8 = .int .i64 q.a.mark
  r9 : Bytes w (f 9) q.a.data
  r10 : Strs w (f 10) q.a.keys
  i0 : I64 q.x.kind
  i1 : I64 q.x.a
  i5 : I64 q.a.e
  i6 : I64 q.a.task
  i8 : I64 q.a.mark
def Pairs (w : World) (v : Value) (l : List PairD) : Prop := Cells 11 PairR w v l
theorem PairR.below {w w' : World} {f : Nat → Value} {q : PairD} (h : PairR w f q) (hb : Below w.heap.size w w') : PairR w' f q := ⟨h.r0, h.r1, h.r2, h.r3.below hb, h.r4, h.r5, h.r6, h.r7, h.r8, h.r9.below hb, h.r10.below hb, h.i0, h.i1, h.i5, h.i6, h.i8⟩
theorem Pairs.below {w w' : World} {v : Value} {l : List PairD} (h : Pairs w v l) (hb : Below w.heap.size w w') : Pairs w' v l := Cells.mono h (below_cell hb) (fun _ _ q => q.below hb)
theorem pairs_shape {w : World} {v : Value} {l : List PairD} (h : Pairs w v l) : ∃ A C, v = .slice A l.length C ∧ l.length ≤ C ∧ C ≤ 9223372036854775807 ∧ (A = none → C = 0) := Cells.shape h
/-- the cells of pair i -/
theorem pairs_at {w : World} {A : Option Addr} {n C : Nat} {L : List PairD} (h : Pairs w (.slice A n C) L) {i : Nat} (hi : i < L.length) :
    ∃ b o AX CX AD CD AK CK, A = some ⟨b, o, none⟩ ∧ w.cell? ⟨b, o + i * 11, none⟩ = some (.int .i64 L[i].x.kind) ∧ w.cell? ⟨b, o + i * 11 + 1, none⟩ = some (.int .i64 L[i].x.a) ∧ w.cell? ⟨b, o + i * 11 + 2, none⟩ = some (.string L[i].x.key) ∧ w.cell? ⟨b, o + i * 11 + 3, none⟩ = some (.slice AX L[i].x.data.length CX) ∧ w.cell? ⟨b, o + i * 11 + 4, none⟩ = some (.int .u64 L[i].x.keep) ∧
      w.cell? ⟨b, o + i * 11 + 5, none⟩ = some (.int .i64 L[i].a.e) ∧ w.cell? ⟨b, o + i * 11 + 6, none⟩ = some (.int .i64 L[i].a.task) ∧ w.cell? ⟨b, o + i * 11 + 7, none⟩ = some (.bool L[i].a.done) ∧ w.cell? ⟨b, o + i * 11 + 8, none⟩ = some (.int .i64 L[i].a.mark) ∧ w.cell? ⟨b, o + i * 11 + 9, none⟩ = some (.slice AD L[i].a.data.length CD) ∧ w.cell? ⟨b, o + i * 11 + 10, none⟩ = some (.slice AK L[i].a.keys.length CK) ∧
      StepV w (stepVal L[i].x AX CX) L[i].x ∧ AnsV w (ansVal L[i].a AD CD AK CK) L[i].a := by
  obtain ⟨A', n', C', h1, _, _, _, _, h6⟩ := h
  cases h1
  obtain ⟨b, o, f, e, hc, q⟩ := h6 i hi
  obtain ⟨AX, CX, e3, -⟩ := q.r3.shape
  obtain ⟨AD, CD, e9, -⟩ := q.r9.shape
  obtain ⟨AK, CK, e10, -⟩ := q.r10.shape
  have r3 := q.r3
  have r9 := q.r9
  have r10 := q.r10
  rw [e3] at r3
  rw [e9] at r9
  rw [e10] at r10
  exact ⟨b, o, AX, CX, AD, CD, AK, CK, e, by rw [← q.r0]; exact hc 0 (by omega), by rw [← q.r1]; exact hc 1 (by omega), by rw [← q.r2]; exact hc 2 (by omega), by rw [← e3]; exact hc 3 (by omega), by rw [← q.r4]; exact hc 4 (by omega), by rw [← q.r5]; exact hc 5 (by omega), by rw [← q.r6]; exact hc 6 (by omega), by rw [← q.r7]; exact hc 7 (by omega), by rw [← q.r8]; exact hc 8 (by omega), by rw [← e9]; exact hc 9 (by omega), by rw [← e10]; exact hc 10 (by omega),
    ⟨AX, CX, rfl, r3, q.i0, q.i1⟩, ⟨AD, CD, AK, CK, rfl, r9, r10, q.i5, q.i6, q.i8⟩⟩
abbrev TB : Nat := 4
def BoolR (_ : World) (f : Nat → Value) (b : Bool) : Prop := f 0 = .bool b
def Old (W : World) : Nat → Prop := fun b => b < W.heap.size
/-- the program's history, the law's own rows of calls and of bools; G: other blocks of the law's own -/
structure LawAt (PD : Thing) (W w : World) (p : Nat) (G : Nat → Prop) (VW VE : Value) (s : St) (cs : List CallD) (m : Nat) (en : Nat → Bool) : Prop where
  mine : ∃ F, PD w F p s ∧ (∀ b, F b → W.heap.size ≤ b) ∧ (∀ b, VW.ownBlock = some b → ¬ F b) ∧ (∀ b, VE.ownBlock = some b → ¬ F b) ∧ ∀ b, G b → ¬ F b
  want : BuiltX 10 CallR (Old W) w TCall VW cs
  ends : BuiltX 1 BoolR (Old W) w TB VE ((List.range m).map en)
  ne : ∀ b, VW.ownBlock = some b → VE.ownBlock ≠ some b
  apart : ∀ b, G b → b < w.heap.size ∧ VW.ownBlock ≠ some b ∧ VE.ownBlock ≠ some b
  bel : Below W.heap.size W w
section
variable {PD : Thing} {W w w' : World} {p : Nat} {G : Nat → Prop} {VW VE : Value} {s : St} {cs : List CallD} {m : Nat} {en en' : Nat → Bool}
theorem LawAt.below (I : HsI PD) (h : LawAt PD W w p G VW VE s cs m en) (hb : Below w.heap.size w w') : LawAt PD W w' p G VW VE s cs m en := by
  obtain ⟨⟨F, f1, f2, f3, f4, f5⟩, h1, h2, h3, h4, h5⟩ := h
  exact ⟨⟨F, I.turned f1 (Turned.of_below (fun _ => False) hb) (fun _ q => q.elim), f2, f3, f4, f5⟩, h1.below hb, h2.below hb, h3, fun b q => ⟨Nat.lt_of_lt_of_le (h4 b q).1 hb.size, (h4 b q).2⟩, h5.trans (hb.mono h5.size)⟩
/-- new blocks of the law's own -/
theorem LawAt.more (I : HsI PD) (h : LawAt PD W w p G VW VE s cs m en) (hb : Below w.heap.size w w') {G' : Nat → Prop} (hG : ∀ b, G' b → w.heap.size ≤ b ∧ b < w'.heap.size) : LawAt PD W w' p G' VW VE s cs m en := by
  have h' := h.below I hb
  obtain ⟨⟨F, f1, f2, f3, f4, f5⟩, h1, h2, h3, h4, h5⟩ := h
  obtain ⟨_, k1, k2, k3, k4, k5⟩ := h'
  refine ⟨⟨F, I.turned f1 (Turned.of_below (fun _ => False) hb) (fun _ q => q.elim), f2, f3, f4, fun b q z => ?_⟩, k1, k2, k3, fun b q => ⟨(hG b q).2, fun z => ?_, fun z => ?_⟩, k5⟩
  · have := I.lt f1 b z; have := (hG b q).1; omega
  · have := h1.own_lt b z; have := (hG b q).1; omega
  · have := h2.own_lt b z; have := (hG b q).1; omega
theorem LawAt.less {G' : Nat → Prop} (h : LawAt PD W w p G VW VE s cs m en) (hG : ∀ b, G' b → G b) : LawAt PD W w p G' VW VE s cs m en := by
  obtain ⟨⟨F, f1, f2, f3, f4, f5⟩, h1, h2, h3, h4, h5⟩ := h
  exact ⟨⟨F, f1, f2, f3, f4, fun b q => f5 b (hG b q)⟩, h1, h2, h3, fun b q => h4 b (hG b q), h5⟩
theorem LawAt.en_congr (h : LawAt PD W w p G VW VE s cs m en) (e : ∀ j, j < m → en j = en' j) : LawAt PD W w p G VW VE s cs m en' := by
  obtain ⟨h0, h1, h2, h3, h4, h5⟩ := h
  refine ⟨h0, h1, ?_, h3, h4, h5⟩
  rw [show (List.range m).map en' = (List.range m).map en from List.map_congr_left fun j hj => (e j (List.mem_range.1 hj)).symm]
  exact h2
theorem LawAt.old {b : Nat} (h : LawAt PD W w p G VW VE s cs m en) : (VW.ownBlock = some b → W.heap.size ≤ b) ∧ (VE.ownBlock = some b → W.heap.size ≤ b) := by
  obtain ⟨xs, _, h2, _⟩ := h.want
  obtain ⟨ys, _, k2, _⟩ := h.ends
  exact ⟨fun q => Nat.le_of_not_lt fun z => h2 b q z, fun q => Nat.le_of_not_lt fun z => k2 b q z⟩
/-- a block of the rows' own turns -/
theorem LawAt.turn (I : HsI PD) (h : LawAt PD W w p G VW VE s cs m en) {D : Nat → Prop} (ht : Turned D w w') (hD : ∀ b, D b → VW.ownBlock = some b ∨ VE.ownBlock = some b) :
    (∃ F, PD w' F p s ∧ (∀ b, F b → W.heap.size ≤ b) ∧ (∀ b, VW.ownBlock = some b → ¬ F b) ∧ (∀ b, VE.ownBlock = some b → ¬ F b) ∧ ∀ b, G b → ¬ F b) ∧ (∀ b, G b → w'.heap[b]? = w.heap[b]? ∧ b < w'.heap.size) ∧ Below W.heap.size W w' := by
  obtain ⟨F, f1, f2, f3, f4, f5⟩ := h.mine
  refine ⟨⟨F, I.turned f1 ht (fun b q => (hD b q).elim (f3 b) (f4 b)), f2, f3, f4, f5⟩, fun b q => ⟨ht.block b (h.apart b q).1 fun z => ?_, Nat.lt_of_lt_of_le (h.apart b q).1 ht.size⟩, h.bel.trans (ht.below (fun b q => (hD b q).elim h.old.1 h.old.2) h.bel.size)⟩
  rcases hD b z with z | z
  · exact (h.apart b q).2.1 z
  · exact (h.apart b q).2.2 z
end
end Go.Proofs.Ytcljpniknpgmpaa.Hst
