/- What the laws of layer 14 ask of the program's tables: their calls' contracts, over whatever stands for a table in memory. The example of layer 14's laws, as a walk. Records as bytes, plain: no bytes are those of two records, nor the beginning of another record's. No program is named here. The document's answer whether two records are the same, and whether one is small, as walks. A table that is none: the law, as a walk. The document's answer whether a record is small, as a walk. Whether records are not too large: the law's own answer, as a walk. The document's drives: whether their states may be, as a walk. Tables that a call has made for itself, and records that are applied one behind the other. The law of a stripe that is moved, as a walk. The document's answers whether a stripe is right, and an object, as walks. The document's answer whether an object is right, as a walk. Slices that a call builds of structs whose parts lie in blocks K: they read on as long as these stay, whatever becomes of all others. No program is named here. The document's copy of an object, as a walk. The document's table in memory: a block of six cells, a row of objects of its own, and parts in blocks K; what it tells. What the document's table tells of a stripe, as a walk. The document's table in memory, since an earlier world: what a store into one of its cells leaves. The document's Apply of a RecDel, as a walk. The document's Apply of a RecMove: what is moved, plain; elements of a slice that a call has built, written over. Ints in memory that may be written; copies; two rows. No program is named here. -/
import Derived.Test.YtegbgnjmkohcfaaDoorRows
import Derived.Test.YtegbgnjmkohcfaaDoorFoot
import Derived.Test.YtegbgnjmkohcfaaDoorTbStp
import Derived.Test.YtegbgnjmkohcfaaDoorRecMath
import Derived.Test.YtegbgnjmkohcfaaDoorRecSame
import Derived.Test.YtegbgnjmkohcfaaDoorWrites
import Derived.BigQuiet
import Derived.Deep.QuietTactic
import Derived.IntWalk
import Derived.Deep.Cut
import Derived.Deep.RegionHeld3
import Derived.StillTailTactics
import Derived.Deep.RegionLaw
import Derived.Laws.OwnMore
import Derived.Test.YtegbgnjmkohcfaaDoorRecD
import Derived.Test.YtegbgnjmkohcfaaDoorZeros
namespace Go.Proofs.YtegbgnjmkohcfaaDoor.Tbl
set_option linter.unusedVariables false
open Go.ChangeShapes Go.WideShapes Go.ChangeAt Go.RowKit
open Go.Mem
/-- so it is, whatever becomes of the blocks of X -/
def Sure (X : Nat → Prop) (w : World) (P : World → Prop) : Prop := ∀ w', Turned X w w' → P w'
section
variable {X Y : Nat → Prop} {w w' : World} {P Q : World → Prop}
theorem Sure.here (h : Sure X w P) : P w := h w (Turned.refl _ _)
theorem Sure.later (h : Sure X w P) (t : Turned X w w') : Sure X w' P := fun w'' t' => h w'' (t.trans t' (Grown.refl _ _))
theorem Sure.mono (h : Sure X w P) (hP : ∀ w, P w → Q w) : Sure X w Q := fun w' t => hP _ (h w' t)
theorem Sure.less (h : Sure X w P) (hX : ∀ b, Y b → X b) : Sure Y w P := fun w' t => h w' (t.mono hX)
end
def StpIs (w : World) (V : Value) (s : StpD) : Prop := ∃ A C, V = .agg #[.int .i64 s.id, .int .i64 s.ep, .slice A s.locs.length C] ∧ Ints w (.slice A s.locs.length C) s.locs ∧ I64 s.id ∧ I64 s.ep ∧ LenOk s.locs.length
def ObjIs (w : World) (V : Value) (o : ObjD) : Prop := ∃ A C, V = .agg #[.string o.key, .int .i64 o.id, .int .i64 o.size, .slice A o.stripes.length C] ∧ Stps w (.slice A o.stripes.length C) o.stripes ∧ I64 o.id ∧ I64 o.size ∧ KeyOk o.key ∧ LenOk o.stripes.length
def StrR (_ : World) (c : Value) (s : ByteArray) : Prop := c = .string s
def Strs (w : World) (v : Value) (l : List ByteArray) : Prop := SliceOf StrR w v l
def noStp : StpD := ⟨0, 0, []⟩
abbrev Thing := World → (Nat → Prop) → Nat → Tb.TabD → Prop
/-- the table is as t' behind a call -/
def Does (PD : Thing) (F : Nat → Prop) (p : Nat) (t' : Tb.TabD) (w w' : World) : Prop := ∃ F', PD w' F' p t' ∧ Turned F w w' ∧ Grown F F' w
/-- what is told is memory of its own -/
def Own (w w' : World) (P : World → Prop) : Prop := Sure (fun b => b < w.heap.size) w' P ∧ Below w.heap.size w w'
/-- as much as the laws hand in -/
def Fit (r : RecD) : Prop := RecM.base r ≤ 1000 ∧ RecM.items r ≤ 10000
def Few (t : Tb.TabD) : Prop := t.objs.length ≤ 1000
/-- the law's own example -/
def r0 : RecD := ⟨1, 5, 3, ⟨#[97]⟩, [⟨80, 0, [2]⟩], [], []⟩
def o0 : ObjD := ⟨⟨#[97]⟩, 5, 3, [⟨80, 0, [2]⟩]⟩
theorem r0_apply : Tb.apply (Tb.empty 1 1) r0 = some ⟨1, 1, [o0], [], 0, 5⟩ := by
  have h : Tb.ObjOk 1 1 (Tb.putObj r0) := by decide +kernel
  unfold Tb.apply
  rw [if_pos (show r0.kind = 1 from rfl), if_pos ⟨h, fun x hx => by cases hx⟩]
  rfl
theorem r0_stripe : Tb.stripe ⟨1, 1, [o0], [], 0, 5⟩ 80 = some ⟨80, 0, [2]⟩ := rfl
theorem r0_fit : Fit r0 := by unfold Fit; decide +kernel
end Go.Proofs.YtegbgnjmkohcfaaDoor.Tbl
namespace Go.Proofs.YtegbgnjmkohcfaaDoor.Tbl
set_option linter.unusedVariables false
open Go.ChangeShapes Go.WideShapes Go.ChangeAt Go.RowKit
open Go.Mem
theorem cells_of (w : World) (c : Array Value) (T : TypeId) {i : Nat} (hi : i < c.size) : (w.alloc (.cells c T)).cell? ⟨w.heap.size, i, none⟩ = some c[i] := by
  have h := World.rowIs_alloc w c T (fun i => c.getD i undef) (fun i hi => by simp [Array.getD, hi])
  rw [h.cell hi]
  simp [Array.getD, hi]
theorem below_set {w w' : World} {F : Nat → Prop} (ht : Turned F w w') {b : Nat} (hb : b < w.heap.size) (hn : ¬ F b) {o : Nat} : w'.cell? ⟨b, o, none⟩ = w.cell? ⟨b, o, none⟩ := by
  exact World.cell?_of_block (w := w) (a := ⟨b, o, none⟩) (ht.block b hb hn)
theorem r0_sure (w : World) (F : Nat → Prop) (hF : ∀ b, F b → b < w.heap.size) :
    Sure F ((w.alloc (.cells #[.int .i64 2] 3)).alloc (.cells #[.int .i64 80, .int .i64 0, .slice (some ⟨w.heap.size, 0, none⟩) 1 1] 29))
      (fun w' => RecV w' (.agg #[.int .i64 1, .int .i64 5, .int .i64 3, .string ⟨#[97]⟩, .slice (some ⟨w.heap.size + 1, 0, none⟩) 1 1, .slice none 0 0, .slice none 0 0]) r0) := by
  intro w' ht
  obtain ⟨w1, hw1⟩ : ∃ w1, w.alloc (.cells #[.int .i64 2] 3) = w1 := ⟨_, rfl⟩
  have hs : w1.heap.size = w.heap.size + 1 := by rw [← hw1]; simp
  have c0 := cells_of w #[.int .i64 2] 3 (i := 0) (by decide)
  rw [hw1] at c0 ht
  have cs := fun (j : Nat) (hj : j < 3) => cells_of w1 #[.int .i64 80, .int .i64 0, .slice (some ⟨w.heap.size, 0, none⟩) 1 1] 29 (i := j) hj
  have hk := Below.cell ((Below.refl w1.heap.size w1).alloc (Nat.le_refl _) (.cells #[.int .i64 80, .int .i64 0, .slice (some ⟨w.heap.size, 0, none⟩) 1 1] 29)) (p := ⟨w.heap.size, 0, none⟩) (by show w.heap.size < _; omega)
  have d0 : w'.cell? ⟨w.heap.size, 0, none⟩ = some (.int .i64 2) := by
    rw [below_set ht (by simp; omega) (fun q => by have := hF _ q; omega), hk]
    exact c0
  have ds := fun (j : Nat) (hj : j < 3) => (below_set ht (b := w1.heap.size) (by simp) (fun q => by have := hF _ q; omega) (o := j)).trans (cs j hj)
  rw [hs] at ds
  refine ⟨_, _, _, _, _, _, rfl, ?_, ⟨none, 0, 0, rfl, rfl, Nat.le_refl _, Nat.zero_le _, fun _ => rfl, fun i hi => absurd hi (by simp [r0])⟩, Ints.nil _, by unfold I64; decide, by unfold I64; decide, by unfold I64; decide, by unfold KeyOk; decide, by unfold LenOk; decide, by unfold LenOk; decide, by unfold LenOk; decide⟩
  refine ⟨_, 1, 1, rfl, rfl, Nat.le_refl _, by unfold maxLen; omega, (fun e => by cases e), fun i hi => ?_⟩
  obtain rfl : i = 0 := by simp [r0] at hi; exact hi
  refine ⟨_, 0, fun j => #[Value.int .i64 80, .int .i64 0, .slice (some ⟨w.heap.size, 0, none⟩) 1 1].getD j undef, rfl, fun j hj => ?_, rfl, rfl, ?_, (show I64 80 by unfold I64; decide), (show I64 0 by unfold I64; decide), (show LenOk 1 by unfold LenOk; decide)⟩
  · rw [show 0 + 0 * 3 + j = j by omega, ds j hj]
    rcases (by omega : j = 0 ∨ j = 1 ∨ j = 2) with rfl | rfl | rfl <;> rfl
  · refine ⟨_, 1, 1, rfl, rfl, Nat.le_refl _, by unfold maxLen; omega, (fun e => by cases e), fun i hi => ?_⟩
    obtain rfl : i = 0 := by simp [r0] at hi; exact hi
    exact ⟨_, 0, _, rfl, d0, rfl, (show I64 2 by unfold I64; decide)⟩
end Go.Proofs.YtegbgnjmkohcfaaDoor.Tbl
namespace RecM
open Go Go.Mem
theorem numB_snoc (v n : Nat) : Sha.numB v (n + 1) = Sha.numB (v / 256) n ++ [v % 256] := by
  unfold Sha.numB
  rw [List.range_succ, List.map_append]
  congr 1
  · refine List.map_congr_left fun i hi => ?_
    have hi' : i < n := List.mem_range.1 hi
    rw [Nat.div_div_eq_div_mul, show n + 1 - 1 - i = (n - 1 - i) + 1 by omega, Nat.pow_succ, Nat.mul_comm]
  · simp
theorem numB_inj : ∀ {n v u : Nat}, v < 256 ^ n → u < 256 ^ n → Sha.numB v n = Sha.numB u n → v = u
  | 0, v, u, hv, hu, _ => by simp at hv hu; omega
  | n + 1, v, u, hv, hu, h => by
    rw [numB_snoc, numB_snoc] at h
    obtain ⟨h1, h2⟩ := List.append_inj h (by simp [Sha.numB_len])
    have h3 : v % 256 = u % 256 := by simpa using h2
    have h4 : v / 256 = u / 256 := numB_inj (by rw [Nat.pow_succ] at hv; omega) (by rw [Nat.pow_succ] at hu; omega) h1
    omega
/-- of what E writes the front of no other is -/
def Code {α : Type} (ok : α → Prop) (E : α → List Nat) : Prop := ∀ a b x y, ok a → ok b → E a ++ x = E b ++ y → a = b ∧ x = y
theorem code_nat (n : Nat) : Code (fun v : Nat => v < 256 ^ n) (fun v => Sha.numB v n) := by
  intro a b x y ha hb h
  obtain ⟨h1, h2⟩ := List.append_inj h (by simp [Sha.numB_len])
  exact ⟨numB_inj ha hb h1, h2⟩
theorem code_num : Code okNum numE := by
  intro a b x y ha hb h
  have h256 : (256 : Nat) ^ 4 = 4294967296 := rfl
  unfold okNum at ha hb
  obtain ⟨h1, h2⟩ := code_nat 4 a.toNat b.toNat x y (by show a.toNat < 256 ^ 4; rw [h256]; omega) (by show b.toNat < 256 ^ 4; rw [h256]; omega) h
  exact ⟨by omega, h2⟩
theorem strB_inj {s t : ByteArray} (h : strB s = strB t) : s = t := by
  unfold strB at h
  have h1 : s.data.toList = t.data.toList := by
    apply List.ext_getElem (by simpa using congrArg List.length h)
    intro i h1 h2
    have h3 := List.getElem_of_eq h (i := i) (by simpa using h1)
    simp only [List.getElem_map] at h3
    exact UInt8.toNat_inj.1 h3
  cases s; cases t
  simp only [ByteArray.mk.injEq]
  exact Array.toList_inj.1 h1
theorem code_key : Code (fun s : ByteArray => s.size ≤ 16) keyE := by
  intro a b x y ha hb h
  unfold keyE at h
  rw [List.append_assoc, List.append_assoc] at h
  have ha' : a.size ≤ 16 := ha
  have hb' : b.size ≤ 16 := hb
  obtain ⟨h1, h2⟩ := code_nat 1 a.size b.size _ _ (by show a.size < 256 ^ 1; omega) (by show b.size < 256 ^ 1; omega) h
  obtain ⟨h3, h4⟩ := List.append_inj h2 (by rw [strB_len, strB_len, h1])
  exact ⟨strB_inj h3, h4⟩
theorem code_flat {α : Type} {ok : α → Prop} {E : α → List Nat} (h : Code ok E) : ∀ (l m : List α) (x y : List Nat), l.length = m.length → (∀ a ∈ l, ok a) → (∀ a ∈ m, ok a) → l.flatMap E ++ x = m.flatMap E ++ y → l = m ∧ x = y
  | [], [], x, y, _, _, _, q => ⟨rfl, by simpa using q⟩
  | [], _ :: _, _, _, q, _, _, _ => by simp at q
  | _ :: _, [], _, _, q, _, _, _ => by simp at q
  | a :: l, b :: m, x, y, hl, ha, hb, q => by
    simp only [List.flatMap_cons, List.append_assoc] at q
    obtain ⟨h1, h2⟩ := h a b _ _ (ha a (by simp)) (hb b (by simp)) q
    obtain ⟨h3, h4⟩ := code_flat h l m x y (by simpa using hl) (fun c hc => ha c (by simp [hc])) (fun c hc => hb c (by simp [hc])) h2
    exact ⟨by rw [h1, h3], h4⟩
theorem code_list {α : Type} {ok : α → Prop} {E : α → List Nat} (h : Code ok E) (n most : Nat) (hm : most < 256 ^ n) :
    Code (fun l : List α => (0 ≤ ((l.length : Nat) : Int) ∧ ((l.length : Nat) : Int) ≤ (most : Int)) ∧ ∀ a ∈ l, ok a) (fun l => Sha.numB ((l.length : Nat) : Int).toNat n ++ l.flatMap E) := by
  intro l m x y hl hk q
  obtain ⟨⟨_, l2⟩, l3⟩ := hl
  obtain ⟨⟨_, m2⟩, m3⟩ := hk
  simp only [List.append_assoc, Int.toNat_natCast] at q
  obtain ⟨h1, h2⟩ := code_nat n l.length m.length _ _ (by show l.length < 256 ^ n; omega) (by show m.length < 256 ^ n; omega) q
  exact code_flat h l m x y h1 l3 m3 h2
theorem code_ints : Code okInts intsE := code_list code_num 1 255 (by decide)
theorem code_stp : Code okStp stpE := by
  intro a b x y ha hb h
  unfold stpE at h
  simp only [List.append_assoc] at h
  obtain ⟨h1, h2⟩ := code_num _ _ _ _ ha.1.1 hb.1.1 h
  obtain ⟨h3, h4⟩ := code_num _ _ _ _ ha.1.2 hb.1.2 h2
  obtain ⟨h5, h6⟩ := code_ints _ _ _ _ ha.2 hb.2 h4
  obtain ⟨a1, a2, a3⟩ := a
  obtain ⟨b1, b2, b3⟩ := b
  simp only at h1 h3 h5
  exact ⟨by rw [h1, h3, h5], h6⟩
theorem code_stps : Code okStps stpsE := code_list code_stp 1 255 (by decide)
theorem code_obj : Code okObj objE := by
  intro a b x y ha hb h
  unfold objE at h
  simp only [List.append_assoc] at h
  obtain ⟨h1, h2⟩ := code_key _ _ _ _ ha.1.1.1 hb.1.1.1 h
  obtain ⟨h3, h4⟩ := code_num _ _ _ _ ha.1.1.2 hb.1.1.2 h2
  obtain ⟨h5, h6⟩ := code_num _ _ _ _ ha.1.2 hb.1.2 h4
  obtain ⟨h7, h8⟩ := code_stps _ _ _ _ ha.2 hb.2 h6
  obtain ⟨a1, a2, a3, a4⟩ := a
  obtain ⟨b1, b2, b3, b4⟩ := b
  simp only at h1 h3 h5 h7
  exact ⟨by rw [h1, h3, h5, h7], h8⟩
theorem code_objs : Code okObjs objsE := code_list code_obj 2 65535 (by decide)
theorem code_rec : Code okRec recE := by
  intro a b x y ha hb h
  unfold recE headE at h
  simp only [List.append_assoc] at h
  obtain ⟨⟨⟨⟨⟨⟨ha1, ha1'⟩, ha2⟩, ha3⟩, ha4⟩, ha5⟩, ha6⟩ := ha.1
  obtain ⟨⟨⟨⟨⟨⟨hb1, hb1'⟩, hb2⟩, hb3⟩, hb4⟩, hb5⟩, hb6⟩ := hb.1
  obtain ⟨h1, h2⟩ := code_nat 1 _ _ _ _ (by show a.kind.toNat < 256 ^ 1; omega) (by show b.kind.toNat < 256 ^ 1; omega) h
  obtain ⟨h3, h4⟩ := code_num _ _ _ _ ha2 hb2 h2
  obtain ⟨h5, h6⟩ := code_num _ _ _ _ ha3 hb3 h4
  obtain ⟨h7, h8⟩ := code_key _ _ _ _ ha4 hb4 h6
  obtain ⟨h9, h10⟩ := code_stps _ _ _ _ ha5 hb5 h8
  obtain ⟨h11, h12⟩ := code_objs _ _ _ _ ha6 hb6 h10
  obtain ⟨h13, h14⟩ := code_ints _ _ _ _ ha.2 hb.2 h12
  have h1' : a.kind = b.kind := by omega
  obtain ⟨a1, a2, a3, a4, a5, a6, a7⟩ := a
  obtain ⟨b1, b2, b3, b4, b5, b6, b7⟩ := b
  simp only at h1' h3 h5 h7 h9 h11 h13
  exact ⟨by rw [h1', h3, h5, h7, h9, h11, h13], h14⟩
/-- bytes are a record's -/
def IsRec (l : List Nat) (r : RecD) : Prop := Fits r ∧ recE r = l ∧ l.length ≤ 8192
theorem isRec_one {l : List Nat} {r q : RecD} (h : IsRec l r) (k : IsRec l q) : r = q :=
  (code_rec r q [] [] h.1.2 k.1.2 (by rw [h.2.1, k.2.1])).1
theorem isRec_enc {r : RecD} (h : encE r = 0) : IsRec (encB r) r := by
  have h1 := encE_zero.1 h
  rw [encB_ok h]
  exact ⟨h1.1, rfl, h1.2⟩
theorem isRec_back {l : List Nat} {r : RecD} (h : IsRec l r) : encE r = 0 ∧ encB r = l := by
  have h1 : encE r = 0 := encE_zero.2 ⟨h.1, by rw [h.2.1]; exact h.2.2⟩
  exact ⟨h1, by rw [encB_ok h1]; exact h.2.1⟩
theorem isRec_cut {l : List Nat} {r : RecD} (h : IsRec l r) {k : Nat} (hk : k < l.length) : ∀ q, ¬ IsRec (l.take k) q := by
  intro q hq
  have := (code_rec q r (l.drop k) [] hq.1.2 h.1.2 (by rw [hq.2.1, h.2.1]; simp)).2
  have h2 := congrArg List.length this
  simp at h2
  omega
theorem isRec_more {l : List Nat} {r : RecD} (h : IsRec l r) (x : Nat) : ∀ q, ¬ IsRec (l ++ [x]) q := by
  intro q hq
  have := (code_rec q r [] [x] hq.1.2 h.1.2 (by rw [hq.2.1, h.2.1]; simp)).2
  simp at this
theorem recE_len (r : RecD) : (recE r).length = 13 + r.key.size + 9 * r.stripes.length + 4 * locsSum r.stripes + (objsE r.objects).length + (1 + 4 * r.drives.length) - 2 + 0 := by
  unfold recE headE keyE
  simp only [List.length_append, Sha.numB_len, numE, strB_len, stpsE_len, intsE_len]
  omega
theorem objsE_ge (L : List ObjD) : 2 + L.length + objSum L ≤ (objsE L).length := by
  unfold objsE
  rw [List.length_append, Sha.numB_len]
  have : ∀ L : List ObjD, L.length + objSum L ≤ (L.flatMap objE).length := by
    intro L
    induction L with
    | nil => simp [objSum]
    | cons x L ih =>
      have := objE_len x
      simp only [List.flatMap_cons, List.length_append, List.length_cons, objSum, List.map_cons, List.sum_cons] at ih ⊢
      omega
  have := this L
  omega
/-- a record that has bytes has not more things than bytes -/
theorem items_le {l : List Nat} {r : RecD} (h : IsRec l r) : items r ≤ 8192 := by
  have h1 := recE_len r
  have h2 := objsE_ge r.objects
  have h3 := h.2.2
  rw [← h.2.1] at h3
  unfold items base
  omega
end RecM
namespace Go.Proofs.YtegbgnjmkohcfaaDoor.Rec
set_option linter.unusedVariables false
open Go.ChangeShapes Go.WideShapes Go.ChangeAt Go.RowKit
open Go.Mem RecM
theorem rec_eq {a b : RecD} (h0 : a.kind = b.kind) (h1 : a.id = b.id) (h2 : a.size = b.size) (h3 : a.key = b.key) (h4 : a.stripes = b.stripes) (h5 : a.objects = b.objects) (h6 : a.drives = b.drives) : a = b := by
  cases a; cases b; simp only at h0 h1 h2 h3 h4 h5 h6; rw [h0, h1, h2, h3, h4, h5, h6]
theorem eqi_yes {a b : Int} (h : a = b) : (a == b) = true := by rw [h]; simp
theorem eqi_no {a b : Int} (h : ¬ a = b) : (a == b) = false := by rw [beq_eq_false_iff_ne]; exact h
def Saw (W : World) (b : Bool) (e : Ending) (w' : World) : Prop := e = .returned (.bool b) ∧ Below W.heap.size W w'

end Go.Proofs.YtegbgnjmkohcfaaDoor.Rec
namespace Go.Proofs.YtegbgnjmkohcfaaDoor.Tbl
set_option linter.unusedVariables false
open Go.ChangeShapes Go.WideShapes Go.ChangeAt Go.RowKit
open Go.Mem
theorem zero_val (w : World) : RecV w (.agg #[.int .i64 0, .int .i64 0, .int .i64 0, .string ⟨#[]⟩, .slice none 0 0, .slice none 0 0, .slice none 0 0]) RecD.zero :=
  ⟨none, none, none, 0, 0, 0, rfl, ⟨none, 0, 0, rfl, rfl, Nat.le_refl _, Nat.zero_le _, fun _ => rfl, fun i hi => absurd hi (by simp [RecD.zero])⟩, ⟨none, 0, 0, rfl, rfl, Nat.le_refl _, Nat.zero_le _, fun _ => rfl, fun i hi => absurd hi (by simp [RecD.zero])⟩, Ints.nil _, by unfold I64; decide, by unfold I64; decide, by unfold I64; decide, by unfold KeyOk; decide, by unfold LenOk; decide, by unfold LenOk; decide, by unfold LenOk; decide⟩
theorem nxt {B : Nat} {w w1 w2 : World} (h : Below B w w1) (k : Below w1.heap.size w1 w2) (hB : B ≤ w.heap.size) : Below B w w2 := h.trans (k.mono (Nat.le_trans hB h.size))
theorem cells7 {w w' : World} (c0 c1 c2 c3 c4 c5 c6 : Value) (T : TypeId) (hb : Below (w.alloc (.cells #[c0, c1, c2, c3, c4, c5, c6] T)).heap.size (w.alloc (.cells #[c0, c1, c2, c3, c4, c5, c6] T)) w') :
    w'.cell? ⟨w.heap.size, 0, none⟩ = some c0 ∧ w'.cell? ⟨w.heap.size, 1, none⟩ = some c1 ∧ w'.cell? ⟨w.heap.size, 2, none⟩ = some c2 ∧ w'.cell? ⟨w.heap.size, 3, none⟩ = some c3 ∧ w'.cell? ⟨w.heap.size, 4, none⟩ = some c4 ∧ w'.cell? ⟨w.heap.size, 5, none⟩ = some c5 ∧ w'.cell? ⟨w.heap.size, 6, none⟩ = some c6 := by
  have k : ∀ i (hi : i < 7), w'.cell? ⟨w.heap.size, i, none⟩ = some (#[c0, c1, c2, c3, c4, c5, c6][i]'hi) := fun i hi =>
    (hb.cell (p := ⟨w.heap.size, i, none⟩) (by show w.heap.size < _; simp)).trans (cells_of w #[c0, c1, c2, c3, c4, c5, c6] T hi)
  exact ⟨k 0 (by omega), k 1 (by omega), k 2 (by omega), k 3 (by omega), k 4 (by omega), k 5 (by omega), k 6 (by omega)⟩
end Go.Proofs.YtegbgnjmkohcfaaDoor.Tbl
namespace Go.Proofs.YtegbgnjmkohcfaaDoor.Rec
set_option linter.unusedVariables false
open Go.ChangeShapes Go.WideShapes Go.ChangeAt Go.RowKit
open Go.Mem RecM
theorem locsSum_take_succ {L : List StpD} {k : Nat} (h : k < L.length) : locsSum (L.take (k + 1)) = locsSum (L.take k) + L[k].locs.length := by
  unfold locsSum
  rw [List.take_succ_eq_append_getElem h, List.map_append, List.sum_append]
  simp
theorem locsSum_take_le (L : List StpD) (k : Nat) : locsSum (L.take k) ≤ locsSum L := by
  conv => rhs; rw [← List.take_append_drop k L]
  unfold locsSum
  rw [List.map_append, List.sum_append]
  omega
theorem objSum_take_succ {L : List ObjD} {k : Nat} (h : k < L.length) : objSum (L.take (k + 1)) = objSum (L.take k) + (L[k].stripes.length + locsSum L[k].stripes) := by
  unfold objSum
  rw [List.take_succ_eq_append_getElem h, List.map_append, List.sum_append]
  simp
theorem objSum_take_le (L : List ObjD) (k : Nat) : objSum (L.take k) ≤ objSum L := by
  conv => rhs; rw [← List.take_append_drop k L]
  unfold objSum
  rw [List.map_append, List.sum_append]
  omega
/-- how far the count has come behind k objects -/
def Far (r : RecD) (k n : Nat) : Prop := n = base r + locsSum r.stripes + objSum (r.objects.take k) ∨ 4000 ≤ n ∧ 4000 ≤ items r
theorem small_no {r : RecD} (h : 400 < base r) : small r = false := by unfold small; simp; omega
theorem small_far {r : RecD} {n : Nat} (h0 : base r ≤ 400) (h : Far r r.objects.length n) : decide ((n : Int) < 4000) = small r := by
  unfold small
  rw [decide_eq_true h0, Bool.true_and]
  unfold Far items at *
  rw [List.take_length] at h
  rw [decide_eq_decide]
  omega
theorem small_cut {r : RecD} {n k : Nat} (h0 : base r ≤ 400) (h : Far r k n) (hn : 4000 ≤ n) : decide ((n : Int) < 4000) = small r := by
  have := objSum_take_le r.objects k
  unfold small
  rw [decide_eq_true h0, Bool.true_and]
  unfold Far items at *
  rw [decide_eq_decide]
  omega
theorem far_next {r : RecD} {k m j : Nat} (hk : k < r.objects.length) (hm : m = base r + locsSum r.stripes + objSum (r.objects.take k) + r.objects[k].stripes.length + locsSum (r.objects[k].stripes.take j))
    (hj : r.objects[k].stripes.length ≤ j ∨ 4000 ≤ m) : Far r (k + 1) m := by
  have h1 := objSum_take_succ hk
  have h2 := objSum_take_le r.objects (k + 1)
  have h3 := locsSum_take_le r.objects[k].stripes j
  unfold Far
  rcases hj with hj | hj
  · left
    rw [List.take_of_length_le hj] at hm
    omega
  · right
    refine ⟨hj, ?_⟩
    unfold items
    omega
end Go.Proofs.YtegbgnjmkohcfaaDoor.Rec
namespace Go.Proofs.YtegbgnjmkohcfaaDoor.Tbl
set_option linter.unusedVariables false
open Go.ChangeShapes Go.WideShapes Go.ChangeAt Go.RowKit
open Go.Mem RecM
/-- a record in seven cells -/
def RecR (w : World) (f : Nat → Value) (r : RecD) : Prop := ∃ As Ao Ad Cs Co Cd, f 0 = .int .i64 r.kind ∧ f 1 = .int .i64 r.id ∧ f 2 = .int .i64 r.size ∧ f 3 = .string r.key ∧ f 4 = .slice As r.stripes.length Cs ∧ f 5 = .slice Ao r.objects.length Co ∧ f 6 = .slice Ad r.drives.length Cd ∧ RecIs w r As Ao Ad Cs Co Cd
def Recs (w : World) (v : Value) (L : List RecD) : Prop := Cells 7 RecR w v L
theorem RecR.below {w w' : World} {f : Nat → Value} {r : RecD} (h : RecR w f r) (hb : Below w.heap.size w w') : RecR w' f r := by
  obtain ⟨As, Ao, Ad, Cs, Co, Cd, e0, e1, e2, e3, e4, e5, e6, hr⟩ := h
  exact ⟨As, Ao, Ad, Cs, Co, Cd, e0, e1, e2, e3, e4, e5, e6, hr.below hb⟩
theorem Recs.below {w w' : World} {v : Value} {L : List RecD} (h : Recs w v L) (hb : Below w.heap.size w w') : Recs w' v L := Cells.mono h (below_cell hb) fun _ _ q => RecR.below q hb
theorem Recs.at {w : World} {A : Option Addr} {n C : Nat} {L : List RecD} (h : Recs w (.slice A n C) L) {i : Nat} (hi : i < L.length) :
    ∃ b o As Ao Ad Cs Co Cd, A = some ⟨b, o, none⟩ ∧ w.cell? ⟨b, o + i * 7, none⟩ = some (.int .i64 L[i].kind) ∧ w.cell? ⟨b, o + i * 7 + 1, none⟩ = some (.int .i64 L[i].id) ∧ w.cell? ⟨b, o + i * 7 + 2, none⟩ = some (.int .i64 L[i].size) ∧
      w.cell? ⟨b, o + i * 7 + 3, none⟩ = some (.string L[i].key) ∧ w.cell? ⟨b, o + i * 7 + 4, none⟩ = some (.slice As L[i].stripes.length Cs) ∧ w.cell? ⟨b, o + i * 7 + 5, none⟩ = some (.slice Ao L[i].objects.length Co) ∧ w.cell? ⟨b, o + i * 7 + 6, none⟩ = some (.slice Ad L[i].drives.length Cd) ∧ RecIs w L[i] As Ao Ad Cs Co Cd := by
  obtain ⟨A', n', C', h1, _, _, _, _, h6⟩ := h
  cases h1
  obtain ⟨b, o, f, e1, e2, As, Ao, Ad, Cs, Co, Cd, f0, f1, f2, f3, f4, f5, f6, hr⟩ := h6 i hi
  exact ⟨b, o, As, Ao, Ad, Cs, Co, Cd, e1, (e2 0 (by omega)).trans (by rw [f0]), (e2 1 (by omega)).trans (by rw [f1]), (e2 2 (by omega)).trans (by rw [f2]), (e2 3 (by omega)).trans (by rw [f3]), (e2 4 (by omega)).trans (by rw [f4]), (e2 5 (by omega)).trans (by rw [f5]), (e2 6 (by omega)).trans (by rw [f6]), hr⟩
def smalls (L : List RecD) : Bool := L.all small && decide (L.length ≤ 40)
theorem smalls_no {L : List RecD} {i : Nat} (hi : i < L.length) (h : small L[i] = false) : smalls L = false := by
  unfold smalls
  rw [show L.all small = false from List.all_eq_false.2 ⟨L[i], List.getElem_mem hi, by simp [h]⟩]
  rfl
theorem smalls_all {L : List RecD} (h : ∀ j (hj : j < L.length), small L[j] = true) : smalls L = decide (L.length ≤ 40) := by
  unfold smalls
  rw [show L.all small = true from List.all_eq_true.2 fun x hx => by
    obtain ⟨j, hj, rfl⟩ := List.getElem_of_mem hx
    exact h j hj]
  rfl
end Go.Proofs.YtegbgnjmkohcfaaDoor.Tbl
namespace Go.Proofs.YtegbgnjmkohcfaaDoor.Tbl
set_option linter.unusedVariables false
open Go.ChangeShapes Go.WideShapes Go.ChangeAt Go.RowKit
open Go.Mem
end Go.Proofs.YtegbgnjmkohcfaaDoor.Tbl
namespace Tb
open Go Go.Mem Kl RecM
theorem put_length {α : Type} {key : α → List UInt8} {x : α} : ∀ L : List α, (put key x L).length ≤ L.length + 1
  | [] => by simp [put]
  | a :: L => by
    unfold put
    split
    · have := put_length (key := key) (x := x) L
      simp only [List.length_cons]
      omega
    · split <;> simp
def stepT (t : TabD) (r : RecD) : TabD := (apply t r).getD t
theorem step_ok {t : TabD} (h : t.Ok) (r : RecD) : (stepT t r).Ok := by
  unfold stepT
  cases e : apply t r with
  | none => exact h
  | some t' => exact apply_ok h e
theorem apply_kn {t t' : TabD} {r : RecD} (e : apply t r = some t') : t'.k = t.k ∧ t'.n = t.n := by
  unfold apply at e
  split at e
  · split at e
    · cases e; exact ⟨rfl, rfl⟩
    · cases e
  · split at e
    · split at e
      · cases e; exact ⟨rfl, rfl⟩
      · cases e
    · split at e
      · split at e
        · split at e
          · obtain ⟨L, hL, rfl⟩ := Option.map_eq_some_iff.1 e
            exact ⟨rfl, rfl⟩
          · cases e
        · cases e
      · split at e
        · split at e
          · cases e; exact ⟨rfl, rfl⟩
          · cases e
        · split at e
          · split at e
            · cases e; exact ⟨rfl, rfl⟩
            · cases e
          · cases e
theorem step_kn (t : TabD) (r : RecD) : (stepT t r).k = t.k ∧ (stepT t r).n = t.n := by
  unfold stepT
  cases e : apply t r with
  | none => exact ⟨rfl, rfl⟩
  | some t' => exact apply_kn e
theorem moveO_length {s : StpD} : ∀ {L L' : List ObjD}, moveO s L = some L' → L'.length = L.length
  | [], _, h => by cases h
  | o :: L, L', h => by
    unfold moveO at h
    split at h
    · cases h; rfl
    · obtain ⟨m, hm, rfl⟩ := Option.map_eq_some_iff.1 h
      simp [moveO_length hm]
theorem apply_length {t t' : TabD} {r : RecD} (e : apply t r = some t') : t'.objs.length ≤ t.objs.length + 1 ∨ t'.objs.length ≤ r.objects.length := by
  unfold apply at e
  split at e
  · split at e
    · cases e; exact .inl (put_length _)
    · cases e
  · split at e
    · split at e
      · cases e; exact .inl (Nat.le_succ_of_le (List.length_filter_le _ _))
      · cases e
    · split at e
      · split at e
        · split at e
          · obtain ⟨L, hL, rfl⟩ := Option.map_eq_some_iff.1 e
            exact .inl (Nat.le_succ_of_le (Nat.le_of_eq (moveO_length hL)))
          · cases e
        · cases e
      · split at e
        · split at e
          · cases e; exact .inl (Nat.le_succ _)
          · cases e
        · split at e
          · split at e
            · cases e; exact .inr (Nat.le_refl _)
            · cases e
          · cases e
theorem small_parts {r : RecD} (h : small r = true) : RecM.base r ≤ 400 ∧ RecM.items r < 4000 := by
  unfold small at h
  rw [Bool.and_eq_true] at h
  exact ⟨of_decide_eq_true h.1, of_decide_eq_true h.2⟩
theorem step_length {t : TabD} {r : RecD} (h : small r = true) {n : Nat} (ht : t.objs.length ≤ n) (hn : 400 ≤ n) : (stepT t r).objs.length ≤ n + 1 := by
  have hb := (small_parts h).1
  have hr : r.objects.length ≤ 400 := by unfold RecM.base at hb; omega
  unfold stepT
  cases e : apply t r with
  | none => show t.objs.length ≤ _; omega
  | some t' => rcases apply_length e with q | q <;> (show t'.objs.length ≤ _; omega)
/-- what there is behind the first i records -/
def runT (k n : Int) (L : List RecD) (i : Nat) : TabD := (L.take i).foldl stepT (empty k n)
theorem run_zero (k n : Int) (L : List RecD) : runT k n L 0 = empty k n := rfl
theorem run_succ {k n : Int} {L : List RecD} {i : Nat} (h : i < L.length) : runT k n L (i + 1) = stepT (runT k n L i) L[i] := by
  unfold runT
  rw [List.take_succ_eq_append_getElem h, List.foldl_append]
  rfl
theorem run_ok {k : Int} (n : Int) (hk : 1 ≤ k) {L : List RecD} : ∀ {i : Nat}, i ≤ L.length → (runT k n L i).Ok ∧ (runT k n L i).k = k ∧ (runT k n L i).n = n
  | 0, _ => ⟨empty_ok n hk, rfl, rfl⟩
  | i + 1, h => by
    obtain ⟨h1, h2, h3⟩ := run_ok n hk (L := L) (i := i) (by omega)
    rw [run_succ (show i < L.length by omega)]
    exact ⟨step_ok h1 _, (step_kn _ _).1.trans h2, (step_kn _ _).2.trans h3⟩
theorem run_len {k n : Int} {L : List RecD} (hs : ∀ r ∈ L, small r = true) : ∀ {i : Nat}, i ≤ L.length → (runT k n L i).objs.length ≤ 400 + i
  | 0, _ => by rw [run_zero]; simp [empty]
  | i + 1, h => by
    rw [run_succ (show i < L.length by omega)]
    exact step_length (hs _ (List.getElem_mem _)) (run_len hs (by omega)) (show 400 ≤ 400 + i by omega)
end Tb
namespace Go.Proofs.YtegbgnjmkohcfaaDoor.Tbl
set_option linter.unusedVariables false
open Go.ChangeShapes Go.WideShapes Go.ChangeAt Go.RowKit
open Go.Mem RecM
theorem fit_small {r : RecD} (h : small r = true) : Fit r := by
  have := Tb.small_parts h
  exact ⟨by omega, by omega⟩
theorem few_run {L : List RecD} {k n : Int} (hs : smalls L = true) {i : Nat} (hi : i ≤ L.length) : Few (Tb.runT k n L i) := by
  unfold smalls at hs
  rw [Bool.and_eq_true] at hs
  have h2 : L.length ≤ 40 := of_decide_eq_true hs.2
  have := Tb.run_len (k := k) (n := n) (List.all_eq_true.1 hs.1) hi
  unfold Few
  omega
theorem small_at {L : List RecD} (hs : smalls L = true) {i : Nat} (hi : i < L.length) : small L[i] = true := by
  unfold smalls at hs
  rw [Bool.and_eq_true] at hs
  exact List.all_eq_true.1 hs.1 _ (List.getElem_mem hi)
/-- a table that a call has made for itself -/
def MineT (PD : Thing) (W w : World) (p : Nat) (t : Tb.TabD) : Prop := ∃ F, PD w F p t ∧ (∀ b, F b → W.heap.size ≤ b) ∧ Below W.heap.size W w
section
variable {PD : Thing} {W w w' : World} {p : Nat} {t t' : Tb.TabD}
theorem MineT.bel (h : MineT PD W w p t) : Below W.heap.size W w := by
  obtain ⟨F, _, _, h⟩ := h
  exact h
/-- a record that was there when the call began -/
theorem sure_old {V : Value} {r : RecD} (h3 : Below W.heap.size W w) (hr : RecV W V r) : ∀ F : Nat → Prop, (∀ b, F b → W.heap.size ≤ b ∧ b < w.heap.size) → Sure F w (fun w' => RecV w' V r) :=
  fun F hF w' ht => hr.below (h3.trans (ht.below (fun b q => (hF b q).1) h3.size))
/-- .. when what was told lies behind the table's blocks -/
def Told (PD : Thing) (W w : World) (p : Nat) (t : Tb.TabD) (P : World → Prop) : Prop := ∃ F, PD w F p t ∧ (∀ b, F b → W.heap.size ≤ b) ∧ Below W.heap.size W w ∧ Sure F w P
theorem Told.mine {P : World → Prop} (h : Told PD W w p t P) : MineT PD W w p t := by
  obtain ⟨F, h1, h2, h3, _⟩ := h
  exact ⟨F, h1, h2, h3⟩
theorem Told.here {P : World → Prop} (h : Told PD W w p t P) : P w := by
  obtain ⟨F, h1, h2, h3, h4⟩ := h
  exact h4.here
end
end Go.Proofs.YtegbgnjmkohcfaaDoor.Tbl
namespace Tb
open Go Go.Mem Kl RecM
def moveR (s : StpD) : RecD := ⟨3, 0, 0, ⟨#[]⟩, [s], [], []⟩
theorem move_apply (t : TabD) (s : StpD) : apply t (moveR s) = if StpOk t.n s then (moveO s t.objs).map fun L => ⟨t.k, t.n, L, t.states, t.epoch, t.last⟩ else none := by
  unfold apply
  rw [if_neg (show ¬ (moveR s).kind = 1 from (by decide : ¬ (3 : Int) = 1)), if_neg (show ¬ (moveR s).kind = 2 from (by decide : ¬ (3 : Int) = 2)), if_pos (show (moveR s).kind = 3 from rfl)]
  rfl
/-- what a move leaves: the rows' lengths, what parts, and that the stripe is there -/
structure Moved (t t' : TabD) (s : StpD) (e : Int) : Prop where
  len : (rowS t').length = (rowS t).length
  objs : t'.objs.length = t.objs.length
  part : ∀ j (h : j < (rowS t).length) (h' : j < (rowS t').length), ¬ (rowS t)[j] = (rowS t')[j] → e = 0 ∧ (rowS t')[j].id = s.id
  one : ∀ i j (hi : i < (rowS t').length) (hj : j < (rowS t').length), i < j → (rowS t')[i].id ≠ (rowS t')[j].id
  there : e = 2 ∨ (e = 0 ∧ stripe t' s.id = some s)
theorem up_one {l : List StpD} (h : Up l) : ∀ i j (hi : i < l.length) (hj : j < l.length), i < j → l[i].id ≠ l[j].id := fun i j hi hj hij => by
  have := List.pairwise_iff_getElem.1 h i j hi hj hij
  omega
theorem moved {t : TabD} (h : t.Ok) (s : StpD) : Moved t (stepT t (moveR s)) s (if (apply t (moveR s)).isSome = true then 0 else 2) := by
  have hsk := step_ok h (moveR s)
  unfold stepT at *
  cases e : apply t (moveR s) with
  | none => exact ⟨rfl, rfl, fun j hj hj' q => absurd rfl q, up_one (rowS_up h), .inl rfl⟩
  | some t' =>
    rw [e] at hsk
    have hk : t'.Ok := hsk
    rw [move_apply] at e
    split at e
    · rename_i hs
      obtain ⟨L, hL, rfl⟩ := Option.map_eq_some_iff.1 e
      obtain ⟨h1, x, hx, q⟩ := row_moved h hs hL
      refine ⟨(congrArg List.length h1).trans (List.length_map _), moveO_length hL, fun j hj hj' z => ⟨rfl, ?_⟩, up_one (rowS_up hk), .inr ⟨rfl, ?_⟩⟩
      · have e2 : (rowS ⟨t.k, t.n, L, t.states, t.epoch, t.last⟩)[j] = sub s (rowS t)[j] := by
          rw [List.getElem_of_eq h1, List.getElem_map]
        show (rowS ⟨t.k, t.n, L, t.states, t.epoch, t.last⟩)[j].id = s.id
        rw [e2, sub_id]
        by_cases w : (rowS t)[j].id = s.id
        · exact w
        · have z' : ¬ (rowS t)[j] = (rowS ⟨t.k, t.n, L, t.states, t.epoch, t.last⟩)[j] := z
          rw [e2] at z'
          unfold sub at z'
          rw [if_neg w] at z'
          exact absurd rfl z'
      · refine stripe_self hk (rowS_mem.1 ?_)
        show s ∈ rowS ⟨t.k, t.n, L, t.states, t.epoch, t.last⟩
        rw [h1]
        exact List.mem_map.2 ⟨x, hx, by unfold sub; rw [if_pos q]⟩
    · cases e
end Tb
namespace Go.Proofs.YtegbgnjmkohcfaaDoor.Tbl
set_option linter.unusedVariables false
open Go.ChangeShapes Go.WideShapes Go.ChangeAt Go.RowKit
open Go.Mem RecM
/-- a stripe in a block of its own -/
theorem stp_alone {w w' : World} {T : TypeId} {F : Nat → Prop} {s : StpD} {A : Option Addr} {C : Nat} (hF : ∀ b, F b → b < w.heap.size) (ht : Turned F (w.alloc (.cells #[.int .i64 s.id, .int .i64 s.ep, .slice A s.locs.length C] T)) w') (hi : Ints w' (.slice A s.locs.length C) s.locs) (h0 : I64 s.id) (h1 : I64 s.ep) (h2 : LenOk s.locs.length) :
    Stps w' (.slice (some ⟨w.heap.size, 0, none⟩) 1 1) [s] := by
  have cs := fun (j : Nat) (hj : j < 3) => cells_of w #[.int .i64 s.id, .int .i64 s.ep, .slice A s.locs.length C] T (i := j) hj
  refine ⟨_, 1, 1, rfl, rfl, Nat.le_refl _, by unfold maxLen; omega, (fun e => by cases e), fun i hi' => ?_⟩
  obtain rfl : i = 0 := by simp at hi'; exact hi'
  refine ⟨_, 0, fun j => #[Value.int .i64 s.id, .int .i64 s.ep, .slice A s.locs.length C].getD j undef, rfl, fun j hj => ?_, rfl, rfl, hi, h0, h1, h2⟩
  rw [show 0 + 0 * 3 + j = j by omega, below_set ht (by simp) (fun q => by have := hF _ q; omega), cs j hj]
  rcases (by omega : j = 0 ∨ j = 1 ∨ j = 2) with rfl | rfl | rfl <;> rfl
/-- one element of a slice, as a slice -/
theorem Stps.one {w : World} {b o n C : Nat} {L : List StpD} (h : Stps w (.slice (some ⟨b, o, none⟩) n C) L) {i : Nat} (hi : i < L.length) (hC : i + 1 ≤ C) (hm : C ≤ 9223372036854775807) : Stps w (.slice (some ⟨b, o + i * 3, none⟩) 1 (C - i)) [L[i]] := by
  obtain ⟨A', n', C', h1, _, _, _, _, h6⟩ := h
  cases h1
  refine ⟨_, 1, C - i, rfl, rfl, by omega, by unfold maxLen; omega, (fun e => by cases e), fun k hk => ?_⟩
  obtain rfl : k = 0 := by simp at hk; exact hk
  obtain ⟨b', o', f, e1, e2, e3⟩ := h6 i hi
  cases e1
  exact ⟨b, o + i * 3, f, rfl, fun j hj => by rw [show o + i * 3 + 0 * 3 + j = o + i * 3 + j by omega]; exact e2 j hj, e3⟩
end Go.Proofs.YtegbgnjmkohcfaaDoor.Tbl
namespace Tb
open Go Go.Mem Kl
/-- the first i places are right, and unlike -/
def OkTo (l : List Int) (i : Nat) : Prop := (∀ j (h : j < l.length), j < i → 0 ≤ l[j] ∧ l[j] ≤ 11) ∧ ∀ a b (ha : a < l.length) (hb : b < l.length), a < b → b < i → l[a] ≠ l[b]
theorem okTo_zero (l : List Int) : OkTo l 0 := ⟨fun _ _ h => absurd h (by omega), fun _ _ _ _ _ h => absurd h (by omega)⟩
theorem okTo_succ {l : List Int} {i : Nat} (hi : i < l.length) (h : OkTo l i) (h0 : 0 ≤ l[i]) (h1 : l[i] ≤ 11) (h2 : ∀ a (ha : a < l.length), a < i → l[i] ≠ l[a]) : OkTo l (i + 1) := by
  refine ⟨fun j hj q => ?_, fun a b ha hb hab q => ?_⟩
  · by_cases e : j = i
    · subst e; exact ⟨h0, h1⟩
    · exact h.1 j hj (by omega)
  · by_cases e : b = i
    · subst e; exact fun z => h2 a ha hab z.symm
    · exact h.2 a b ha hb hab (by omega)
theorem okTo_all {n : Int} {s : StpD} (h0 : 0 ≤ s.ep) (h1 : s.ep ≤ 1073741824) (h2 : (s.locs.length : Int) = n) (h : OkTo s.locs s.locs.length) : decide (StpOk n s) = true := by
  apply decide_eq_true
  refine ⟨h0, h1, h2, fun x hx => ?_, ?_⟩
  · obtain ⟨j, hj, rfl⟩ := List.getElem_of_mem hx
    exact h.1 j hj hj
  · exact List.pairwise_iff_getElem.2 fun a b ha hb hab => h.2 a b ha hb hab hb
theorem stp_low {n : Int} {s : StpD} (h : s.ep < 0) : decide (StpOk n s) = false := decide_eq_false fun q => by have := q.1; omega
theorem stp_high {n : Int} {s : StpD} (h : 1073741824 < s.ep) : decide (StpOk n s) = false := decide_eq_false fun q => by have := q.2.1; omega
theorem stp_len {n : Int} {s : StpD} (h : ¬ (s.locs.length : Int) = n) : decide (StpOk n s) = false := decide_eq_false fun q => h q.2.2.1
theorem stp_loc {n : Int} {s : StpD} {i : Nat} (hi : i < s.locs.length) (h : ¬ (0 ≤ s.locs[i] ∧ s.locs[i] ≤ 11)) : decide (StpOk n s) = false := decide_eq_false fun q => h (q.2.2.2.1 _ (List.getElem_mem hi))
theorem stp_two {n : Int} {s : StpD} {i k : Nat} (hi : i < s.locs.length) (hk : k < s.locs.length) (hki : k < i) (h : s.locs[i] = s.locs[k]) : decide (StpOk n s) = false :=
  decide_eq_false fun q => List.pairwise_iff_getElem.1 q.2.2.2.2 k i hk hi hki h.symm
end Tb
namespace Go.Proofs.YtegbgnjmkohcfaaDoor.Tbl
set_option linter.unusedVariables false
open Go.ChangeShapes Go.WideShapes Go.ChangeAt Go.RowKit
open Go.Mem RecM
end Go.Proofs.YtegbgnjmkohcfaaDoor.Tbl
namespace Tb
open Go Go.Mem Kl
/-- so many stripes as are needed, and no more -/
theorem nStp_is {k size : Int} {n : Nat} (hk : 1 ≤ k) (h0 : 0 ≤ size) (h1 : size ≤ n * k * 8) (h2 : n = 0 ∨ ((n : Int) - 1) * k * 8 < size) : (n : Int) = nStp k size := by
  unfold nStp
  have e : (n : Int) * k * 8 = n * (8 * k) := by rw [Int.mul_assoc, Int.mul_comm k 8]
  have e' : ((n : Int) - 1) * k * 8 = n * (8 * k) - 8 * k := by rw [Int.mul_assoc, Int.mul_comm k 8, Int.sub_mul, Int.one_mul]
  rw [e] at h1
  rw [e'] at h2
  have hp : 0 < 8 * k := by omega
  generalize 8 * k = d at *
  symm
  refine Int.le_antisymm (Int.le_of_lt_add_one (Int.ediv_lt_of_lt_mul hp ?_)) (Int.le_ediv_of_mul_le hp ?_)
  · rw [Int.add_mul, Int.one_mul]; omega
  · rcases h2 with rfl | h2
    · simp; omega
    · omega
theorem mul_up {n : Nat} {k : Int} (hn : n ≤ 100) (h0 : 0 ≤ k) (h1 : k ≤ 1000) : 0 ≤ (n : Int) * k ∧ (n : Int) * k ≤ 100000 := by
  refine ⟨Int.mul_nonneg (by omega) h0, ?_⟩
  have a : (n : Int) * k ≤ 100 * k := Int.mul_le_mul_of_nonneg_right (by omega) h0
  omega
theorem mul_low {n : Nat} {k : Int} (h0 : 1 ≤ k) : (n : Int) ≤ n * k := by
  have := Int.mul_le_mul_of_nonneg_left h0 (show (0 : Int) ≤ n by omega)
  rwa [Int.mul_one] at this
/-- the first i stripes are -/
def GoodTo (N n : Int) (l : List StpD) (i : Nat) : Prop := ∀ j (h : j < l.length), j < i → l[j].id = n + j ∧ StpOk N l[j]
theorem goodTo_zero (N n : Int) (l : List StpD) : GoodTo N n l 0 := fun _ _ h => absurd h (by omega)
theorem goodTo_succ {N n : Int} {l : List StpD} {i : Nat} (hi : i < l.length) (h : GoodTo N n l i) (h0 : l[i].id = n + i) (h1 : StpOk N l[i]) : GoodTo N n l (i + 1) := fun j hj q => by
  by_cases e : j = i
  · subst e; exact ⟨h0, h1⟩
  · exact h j hj (by omega)
theorem numbered_iff : ∀ {l : List StpD} {n : Int}, Numbered n l ↔ ∀ j (h : j < l.length), l[j].id = n + j
  | [], n => ⟨fun _ j h => absurd h (by simp), fun _ => trivial⟩
  | s :: l, n => by
    unfold Numbered
    rw [numbered_iff]
    constructor
    · rintro ⟨h1, h2⟩ j hj
      cases j with
      | zero => simpa using h1
      | succ j =>
        have := h2 j (by simpa using hj)
        simp only [List.getElem_cons_succ]
        omega
    · intro h
      refine ⟨by have := h 0 (by simp); rw [List.getElem_cons_zero] at this; omega, fun j hj => ?_⟩
      have := h (j + 1) (by simpa using hj)
      simp only [List.getElem_cons_succ] at this
      omega
theorem goodTo_all {k N : Int} {o : ObjD} (h1 : 1 ≤ o.key.size) (h2 : o.key.size ≤ 16) (h3 : 1 ≤ o.id) (h4 : o.id ≤ 33554432) (h5 : 0 ≤ o.size) (h6 : o.size ≤ 96) (h7 : (o.stripes.length : Int) = nStp k o.size) (h : GoodTo N (16 * o.id) o.stripes o.stripes.length) : decide (ObjOk k N o) = true := by
  apply decide_eq_true
  refine ⟨h1, h2, h3, h4, h5, h6, h7, numbered_iff.2 fun j hj => (h j hj hj).1, fun s hs => ?_⟩
  obtain ⟨j, hj, rfl⟩ := List.getElem_of_mem hs
  exact (h j hj hj).2
theorem obj_len {k N : Int} {o : ObjD} (h : ¬ (o.stripes.length : Int) = nStp k o.size) : decide (ObjOk k N o) = false := decide_eq_false fun q => h q.2.2.2.2.2.2.1
theorem obj_num {k N : Int} {o : ObjD} {i : Nat} (hi : i < o.stripes.length) (h : ¬ o.stripes[i].id = 16 * o.id + i) : decide (ObjOk k N o) = false := decide_eq_false fun q => h (numbered_iff.1 q.2.2.2.2.2.2.2.1 i hi)
theorem obj_stp {k N : Int} {o : ObjD} {i : Nat} (hi : i < o.stripes.length) (h : ¬ StpOk N o.stripes[i]) : decide (ObjOk k N o) = false := decide_eq_false fun q => h (q.2.2.2.2.2.2.2.2 _ (List.getElem_mem hi))
end Tb
namespace Go.Proofs.YtegbgnjmkohcfaaDoor.Tbl
set_option linter.unusedVariables false
open Go.ChangeShapes Go.WideShapes Go.ChangeAt Go.RowKit
open Go.Mem RecM
end Go.Proofs.YtegbgnjmkohcfaaDoor.Tbl
namespace Go.Proofs.YtegbgnjmkohcfaaDoor.Tbl
set_option linter.unusedVariables false
open Go.ChangeShapes Go.WideShapes Go.ChangeAt Go.RowKit
open Go.Mem
/-- so it is, as long as the blocks of K stay -/
def On (K : Nat → Prop) (w : World) (P : World → Prop) : Prop := Sure (fun b => ¬ K b) w P
theorem On.turned {K F : Nat → Prop} {w w' : World} {P : World → Prop} (h : On K w P) (ht : Turned F w w') (hF : ∀ b, F b → ¬ K b) : On K w' P := Sure.later h (ht.mono hF)
theorem On.more {K K' : Nat → Prop} {w : World} {P : World → Prop} (h : On K w P) (hK : ∀ b, K b → K' b) : On K' w P := Sure.less h fun b hb q => hb (hK b q)
theorem On.here {K : Nat → Prop} {w : World} {P : World → Prop} (h : On K w P) : P w := Sure.here h
theorem On.both {K : Nat → Prop} {w : World} {P Q : World → Prop} (h : On K w P) (g : On K w Q) : On K w (fun w' => P w' ∧ Q w') := fun w' t => ⟨h w' t, g w' t⟩
theorem On.map {K : Nat → Prop} {w : World} {P Q : World → Prop} (h : On K w P) (hP : ∀ w, P w → Q w) : On K w Q := fun w' t => hP _ (h w' t)
def BuiltX {α : Type} (k : Nat) (R : World → (Nat → Value) → α → Prop) (K : Nat → Prop) (w : World) (t : Nat) (v : Value) (L : List α) : Prop :=
  ∃ xs : List Value, w.ownsRow 0 t k v L.length xs ∧ (∀ b, v.ownBlock = some b → ¬ K b) ∧ ∀ i (h : i < L.length), ∃ f : Nat → Value, (∀ j, j < k → xs[i * k + j]? = some (f j)) ∧ On K w (fun w' => R w' f L[i])
section
variable {α : Type} {k : Nat} {R : World → (Nat → Value) → α → Prop} {K K' F : Nat → Prop} {w w' : World} {t : Nat} {v : Value} {L : List α}
theorem BuiltX.start (k : Nat) (R : World → (Nat → Value) → α → Prop) (K : Nat → Prop) (w : World) (t : Nat) : BuiltX k R K w t (.slice none 0 0) [] := ⟨[], World.ownsRow_nil _ _ _ _, fun _ q => (by cases q), fun _ h => absurd h (by simp)⟩
theorem row_stays {n : Nat} {xs : List Value} (h1 : w.ownsRow 0 t k v n xs) (ht : Turned F w w') (hF : ∀ b, F b → v.ownBlock ≠ some b) : w'.ownsRow 0 t k v n xs := by
  have hlt := h1.lt
  refine ⟨h1.1, ?_⟩
  rcases h1.2 with h0 | ⟨g, cap, cur, e, q1, q2, q3⟩
  · exact .inl h0
  · obtain ⟨l1, l2⟩ := hlt g (by rw [e]; rfl)
    exact .inr ⟨g, cap, cur, e, q1, (ht.block g l2 (fun q => hF g q (by rw [e]; rfl))).trans q2, q3⟩
theorem BuiltX.turned (h : BuiltX k R K w t v L) (ht : Turned F w w') (hF : ∀ b, F b → ¬ K b ∧ v.ownBlock ≠ some b) : BuiltX k R K w' t v L := by
  obtain ⟨xs, h1, h2, h3⟩ := h
  refine ⟨xs, row_stays h1 ht (fun b q => (hF b q).2), h2, fun i hi => ?_⟩
  obtain ⟨f, e, hR⟩ := h3 i hi
  exact ⟨f, e, hR.turned ht fun b q => (hF b q).1⟩
theorem BuiltX.below (h : BuiltX k R K w t v L) (ht : Below w.heap.size w w') : BuiltX k R K w' t v L := h.turned (Turned.of_below (fun _ => False) ht) (fun _ q => q.elim)
theorem BuiltX.own_lt (h : BuiltX k R K w t v L) : ∀ b, v.ownBlock = some b → b < w.heap.size := by
  obtain ⟨xs, h1, _⟩ := h
  exact fun b q => (h1.lt b q).2
theorem BuiltX.more (h : BuiltX k R K w t v L) (hK : ∀ b, K b → K' b) (ho : ∀ b, v.ownBlock = some b → ¬ K' b) : BuiltX k R K' w t v L := by
  obtain ⟨xs, h1, h2, h3⟩ := h
  refine ⟨xs, h1, ho, fun i hi => ?_⟩
  obtain ⟨f, e, hR⟩ := h3 i hi
  exact ⟨f, e, hR.more hK⟩
theorem BuiltX.cells (h : BuiltX k R K w t v L) : Cells k R w v L := by
  obtain ⟨xs, h1, h2, hx⟩ := h
  have h3 := h1
  rcases h1.2 with ⟨e1, e2⟩ | ⟨g, cap, cur, e1, _, e3, e4, e5, _, _⟩
  · exact ⟨none, 0, 0, e1, e2.symm, Nat.le_refl _, Nat.zero_le _, fun _ => rfl, fun i hi => absurd hi (by omega)⟩
  · refine ⟨some ⟨g, 0, none⟩, L.length, cap, e1, rfl, e4, e5, (fun e => by cases e), fun i hi => ?_⟩
    obtain ⟨f, e, hR⟩ := hx i hi
    refine ⟨g, 0, f, rfl, fun j hj => ?_, hR.here⟩
    have := h3.cells (g := g) (by rw [e1]; rfl) _ _ (e j hj)
    rw [Nat.zero_add]
    rwa [add_from] at this
theorem BuiltX.on (h : BuiltX k R K w t v L) : On (fun b => K b ∨ v.ownBlock = some b) w (fun w' => Cells k R w' v L) := fun w' ht => (h.turned ht (fun b q => ⟨fun z => q (.inl z), fun z => q (.inr z)⟩)).cells
theorem BuiltX.len (h : BuiltX k R K w t v L) : ∃ A C, v = .slice A L.length C ∧ L.length ≤ C ∧ C ≤ 9223372036854775807 ∧ (A = none → C = 0) := h.cells.shape
end
theorem run_append_builtX {P : Program} {α : Type} {k : Nat} {R : World → (Nat → Value) → α → Prop} {K : Nat → Prop} (w : World) (t ty e : TypeId) (z : Value) (bytes : Nat) (ht : P.underlying t = some (.slice e))
    (hinfo : (P.info? e).map (fun i => (i.zero, i.size, i.bytes)) = some (some z, k, bytes)) (hzs : z.cells.size = k) (hk0 : 0 < k) (v : Value) (L : List α) (hown : BuiltX k R K w e v L) (hK : ∀ b, K b → b < w.heap.size)
    (cs : Array Value) (y : α) (hcs : cs.size = k) (h1 : ∀ u ∈ cs.toList, u.oneCell' = true) (hR : On K w (fun w' => R w' (fun j => cs.getD j undef) y)) (hbytes : (L.length + 1) * (bytes + 1) ≤ 140737488355328) :
    ∃ v' w', (Builtin.append_ #[t, t] ty #[v, .slice (some ⟨w.heap.size, 0, none⟩) 1 1]).run P (w.alloc (.cells cs e)) = .ok v' w' ∧ BuiltX k R K w' e v' (L ++ [y]) ∧ Turned (fun b => v.ownBlock = some b) w w' ∧ (v'.ownBlock = v.ownBlock ∨ v'.ownBlock = some (w.heap.size + 1)) := by
  obtain ⟨xs, hrow, hno, hel⟩ := hown
  obtain ⟨v', w', hrun, hown', hg0, hat⟩ := run_append_cells (P := P) w 0 t ty e z k bytes ht hinfo hzs hk0 v L.length xs hrow cs hcs h1 hbytes (Nat.zero_le _)
  have ht0 : Turned (fun b => v.ownBlock = some b) w w' := Turned.grown hg0 (fun b hb => hb)
  refine ⟨v', w', hrun, ⟨xs ++ cs.toList, by rw [List.length_append]; exact hown', fun b q hb => ?_, fun j hj => ?_⟩, ht0, hat⟩
  · rcases hat with e1 | e1
    · exact hno b (e1 ▸ q) hb
    · rw [e1] at q
      injection q with q
      have := hK b hb
      omega
  have hxl : xs.length = L.length * k := hrow.1
  by_cases hlt : j < L.length
  · obtain ⟨f, e1, e2⟩ := hel j hlt
    have hm : j * k + k ≤ L.length * k := by
      have := Nat.mul_le_mul_right k (show j + 1 ≤ L.length from hlt)
      rw [Nat.add_mul, Nat.one_mul] at this
      exact this
    refine ⟨f, fun i hi => by rw [List.getElem?_append_left (by omega)]; exact e1 i hi, ?_⟩
    rw [List.getElem_append_left hlt]
    exact e2.turned ht0 hno
  · have hj' : j = L.length := by simp at hj; omega
    subst hj'
    refine ⟨fun i => cs.getD i undef, fun i hi => ?_, ?_⟩
    · rw [List.getElem?_append_right (by omega), hxl, Nat.add_sub_cancel_left, Array.getElem?_toList]
      have : i < cs.size := by omega
      simp [Array.getD, this]
    · rw [List.getElem_append_right (Nat.le_refl _)]
      have e : On K w' (fun w' => R w' (fun j => cs.getD j undef) y) := hR.turned ht0 hno
      simpa using e
theorem wpList_append_builtX {P : Program} {α : Type} {k : Nat} {R : World → (Nat → Value) → α → Prop} {K : Nat → Prop} (w : World) {ops : Array Oper} {rest : List Oper} {o : Oper} {a : Act} {Q : Exit → Act → World → Prop} (hgd : o.guard = none) (s x : Operand) (t : TypeId)
    (ho : o.op = .call { callee := .builtin .append, args := #[s, x], argTypes := #[t, t] })
    (e : TypeId) (z : Value) (bytes : Nat) (ht : P.underlying t = some (.slice e)) (hinfo : (P.info? e).map (fun i => (i.zero, i.size, i.bytes)) = some (some z, k, bytes)) (hzs : z.cells.size = k) (hk0 : 0 < k)
    (v : Value) (L : List α) (hs : a.eval s = v) (hown : BuiltX k R K w e v L) (hK : ∀ b, K b → b < w.heap.size)
    (cs : Array Value) (y : α) (bk : Nat) (hx : a.eval x = .slice (some ⟨bk, 0, none⟩) 1 1) (hbk : bk = w.heap.size) (hcs : cs.size = k) (h1 : ∀ u ∈ cs.toList, u.oneCell' = true) (hR : On K w (fun w' => R w' (fun j => cs.getD j undef) y))
    (hbytes : (L.length + 1) * (bytes + 1) ≤ 140737488355328)
    (h : ∀ v' w', BuiltX k R K w' e v' (L ++ [y]) → Turned (fun b => v.ownBlock = some b) w w' → (v'.ownBlock = v.ownBlock ∨ v'.ownBlock = some (w.heap.size + 1)) → wpList P ops Q rest (a.put o.dst v') w') : wpList P ops Q (o :: rest) a (w.alloc (.cells cs e)) := by
  subst hbk
  obtain ⟨v', w', hrun, h2, h3, h4⟩ := run_append_builtX (P := P) w t o.type e z bytes ht hinfo hzs hk0 v L hown hK cs y hcs h1 hR hbytes
  exact Lib.wpList_append_run _ hgd s x t t ho _ _ hs hx v' w' hrun (h v' w' h2 h3 h4)
/-- ints that a call has built read on, as long as their own block stays -/
theorem ints_own {w : World} {base t : Nat} {v : Value} {l : List Int} (h : Built IntR w base t v l) : On (fun b => v.ownBlock = some b) w (fun w' => Ints w' v l) := by
  intro w' ht
  obtain ⟨xs, h1, h2⟩ := h
  have hk : w'.ownsRow base t 1 v l.length xs := by
    have hlt := h1.lt
    refine ⟨h1.1, ?_⟩
    rcases h1.2 with h0 | ⟨g, cap, cur, e, q1, q2, q3⟩
    · exact .inl h0
    · obtain ⟨l1, l2⟩ := hlt g (by rw [e]; rfl)
      exact .inr ⟨g, cap, cur, e, q1, (ht.block g l2 (fun q => q (by rw [e]; rfl))).trans q2, q3⟩
  have hb : Built IntR w' base t v l := ⟨xs, hk, fun i hi => by
    obtain ⟨c, e, hR⟩ := h2 i hi
    exact ⟨c, e, fun w'' _ => hR w (World.grownBy.refl _ _)⟩⟩
  exact hb.slice
/-- append([]int{}, l...): the run, and what it leaves -/
theorem int_app {P : Program} (w : World) (t ty e : TypeId) (ht : P.underlying t = some (.slice e)) (hinfo : (P.info? e).map (fun i => (i.zero, i.size, i.bytes)) = some (some (.int .i64 0), 1, 8)) (A : Option Addr) (m C : Nat) (l : List Int) (hl : Ints w (.slice A m C) l) (hlen : l.length ≤ 1000000) :
    ∃ v' w', (Builtin.append_ #[t, t] ty #[.slice (some ⟨w.heap.size, 0, none⟩) 0 0, .slice A m C]).run P (w.alloc (.cells #[] e)) = .ok v' w' ∧ Built IntR w' w.heap.size e v' l ∧ Below w.heap.size w w' ∧ ∃ A' C', v' = .slice A' l.length C' := by
  have hal : Below w.heap.size w (w.alloc (.cells #[] e)) := (Below.refl _ _).alloc (Nat.le_refl _) _
  obtain ⟨v', w', h1, h2, h3, h4⟩ := run_append_list (P := P) (R := IntR) (fun _ _ _ _ h => h) (fun _ _ _ h => by rw [h.1]; rfl) (w.alloc (.cells #[] e)) w.heap.size t ty e (.int .i64 0) 8 ht hinfo rfl _ [] (built_none (R := IntR) (t := e) w (Nat.le_refl _)) A m C l (hl.below hal) (by simp; omega) hal.size
  rw [List.nil_append] at h2
  obtain ⟨A', C', e', -, -⟩ := h2.len
  exact ⟨v', w', h1, h2, hal.trans h4, A', C', e'⟩
/-- .. in a region whose order is drawn -/
theorem int_appd {P : Program} (w : World) (t ty e : TypeId) (ht : P.underlying t = some (.slice e)) (hinfo : (P.info? e).map (fun i => (i.zero, i.size, i.bytes)) = some (some (.int .i64 0), 1, 8)) (A : Option Addr) (m C : Nat) (l : List Int) (hl : Ints w (.slice A m C) l) (hlen : l.length ≤ 1000000) :
    ∃ v' w', (Builtin.append_ #[t, t] ty #[.slice (some ⟨w.heap.size, 0, none⟩) 0 0, .slice A m C]).run P (w.alloc (.cells #[] e)).drew = .ok v' w' ∧ Built IntR w' w.heap.size e v' l ∧ Below w.heap.size w w' ∧ ∃ A' C', v' = .slice A' l.length C' := by
  have hal : Below w.heap.size w (w.alloc (.cells #[] e)).drew := ((Below.refl _ _).alloc (Nat.le_refl _) _).drew
  obtain ⟨v', w', h1, h2, h3, h4⟩ := run_append_list (P := P) (R := IntR) (fun _ _ _ _ h => h) (fun _ _ _ h => by rw [h.1]; rfl) (w.alloc (.cells #[] e)).drew w.heap.size t ty e (.int .i64 0) 8 ht hinfo rfl _ [] ((built_none (R := IntR) (t := e) w (Nat.le_refl _)).below (below_drewN _ _ 1)) A m C l (hl.below hal) (by simp; omega) hal.size
  rw [List.nil_append] at h2
  obtain ⟨A', C', e', -, -⟩ := h2.len
  exact ⟨v', w', h1, h2, hal.trans h4, A', C', e'⟩
end Go.Proofs.YtegbgnjmkohcfaaDoor.Tbl
namespace Go.Proofs.YtegbgnjmkohcfaaDoor.Tbl
set_option linter.unusedVariables false
open Go.ChangeShapes Go.WideShapes Go.ChangeAt Go.RowKit
open Go.Mem RecM
theorem infoInt : (Tryd.prog.info? 3).map (fun i => (i.zero, i.size, i.bytes)) = some (some (.int .i64 0), 1, 8) := by kernel_rfl
theorem infoStp : (Tryd.prog.info? 29).map (fun i => (i.zero, i.size, i.bytes)) = some (some (.agg #[.int .i64 0, .int .i64 0, .slice none 0 0]), 3, 40) := by kernel_rfl
theorem infoObj : (Tryd.prog.info? 48).map (fun i => (i.zero, i.size, i.bytes)) = some (some (.agg #[.string ⟨#[]⟩, .int .i64 0, .int .i64 0, .slice none 0 0]), 4, 56) := by kernel_rfl
abbrev TStp : Nat := 29
abbrev TObj : Nat := 48
theorem row_of (w : World) (c : Array Value) (T : TypeId) : (w.alloc (.cells c T)).rowIs w.heap.size T c.size (fun i => c.getD i undef) := World.rowIs_alloc w c T (fun i => c.getD i undef) (fun i hi => by simp [Array.getD, hi])
/-- in the midst of a copy: i stripes are copied, into blocks K -/
def CMid (w1 : World) (l : List StpD) (i : Nat) (v : Value) (wr : World) : Prop := ∃ K : Nat → Prop, BuiltX 3 StpR K wr TStp v (l.take i) ∧ (∀ b, K b → w1.heap.size ≤ b ∧ b < wr.heap.size) ∧ (∀ b, v.ownBlock = some b → w1.heap.size ≤ b) ∧ Below w1.heap.size w1 wr
theorem CMid.bel {w1 wr : World} {l : List StpD} {i : Nat} {v : Value} (h : CMid w1 l i v wr) : Below w1.heap.size w1 wr := by
  obtain ⟨K, _, _, _, q⟩ := h
  exact q
theorem CMid.len {w1 wr : World} {l : List StpD} {i : Nat} {v : Value} (h : CMid w1 l i v wr) (hi : i ≤ l.length) : ∃ A C, v = .slice A i C := by
  obtain ⟨K, q, _⟩ := h
  obtain ⟨A', C', e, -⟩ := q.len
  rw [List.length_take, Nat.min_eq_left hi] at e
  exact ⟨A', C', e⟩
/-- one stripe more: its places are copied to v3, the copy is put into block wr.heap.size, and from there behind the others -/
theorem cmid_next {w1 wr w3 : World} {l : List StpD} {i : Nat} {v : Value} (h : CMid w1 l i v wr) (hi : i < l.length) {A3 : Option Addr} {C3 : Nat} {c : Array Value} (hb : Below (wr.alloc (.cells c TStp)).heap.size (wr.alloc (.cells c TStp)) w3)
    (hbu : Built IntR w3 (wr.alloc (.cells c TStp)).heap.size 3 (.slice A3 l[i].locs.length C3) l[i].locs) (h0 : I64 l[i].id) (h1 : I64 l[i].ep) (h2 : LenOk l[i].locs.length) :
    ∃ K : Nat → Prop, BuiltX 3 StpR K (w3.setCell ⟨wr.heap.size, 2, none⟩ (.slice A3 l[i].locs.length C3)) TStp v (l.take i) ∧ (∀ b, K b → w1.heap.size ≤ b ∧ b < (w3.setCell ⟨wr.heap.size, 2, none⟩ (.slice A3 l[i].locs.length C3)).heap.size) ∧
      On K (w3.setCell ⟨wr.heap.size, 2, none⟩ (.slice A3 l[i].locs.length C3)) (fun w' => StpR w' (fun j => #[Value.int .i64 l[i].id, .int .i64 l[i].ep, .slice A3 l[i].locs.length C3].getD j undef) l[i]) ∧ Below w1.heap.size w1 (w3.setCell ⟨wr.heap.size, 2, none⟩ (.slice A3 l[i].locs.length C3)) := by
  obtain ⟨K, k1, k2, k3, k4⟩ := h
  have hal : Below wr.heap.size wr (wr.alloc (.cells c TStp)) := (Below.refl _ _).alloc (Nat.le_refl _) _
  have hsz : (wr.alloc (.cells c TStp)).heap.size = wr.heap.size + 1 := by simp
  have hw3 : Below wr.heap.size wr w3 := hal.trans (hb.mono hal.size)
  have hs3 : wr.heap.size + 1 ≤ w3.heap.size := by have := hb.size; omega
  have hset : Turned (fun b => b = wr.heap.size) w3 (w3.setCell ⟨wr.heap.size, 2, none⟩ (.slice A3 l[i].locs.length C3)) := Turned.set _ rfl
  have hss : (w3.setCell ⟨wr.heap.size, 2, none⟩ (.slice A3 l[i].locs.length C3)).heap.size = w3.heap.size := by simp [World.setCell]
  have hown := hbu.own_lt
  have hKo : ∀ b, K b → b < wr.heap.size := fun b q => (k2 b q).2
  have hvo : ∀ b, v.ownBlock = some b → b < wr.heap.size := k1.own_lt
  refine ⟨fun b => K b ∨ (Value.slice A3 l[i].locs.length C3).ownBlock = some b, ?_, fun b q => ?_, ?_, ?_⟩
  · have e1 := k1.below hw3
    have e2 := e1.turned hset (fun b q => ⟨fun z => by have := hKo b z; omega, fun z => by have := hvo b z; omega⟩)
    obtain ⟨xs, p1, p2, p3⟩ := k1
    exact e2.more (fun b q => .inl q) (fun b q z => by
      rcases z with z | z
      · exact p2 b q z
      · have := hvo b q; have := (hown b z).1; omega)
  · rw [hss]
    rcases q with q | q
    · exact ⟨(k2 b q).1, by have := hKo b q; omega⟩
    · exact ⟨by have := (hown b q).1; have := k4.size; omega, (hown b q).2⟩
  · have e1 : On (fun b => (Value.slice A3 l[i].locs.length C3).ownBlock = some b) w3 (fun w' => Ints w' (.slice A3 l[i].locs.length C3) l[i].locs) := ints_own hbu
    have e2 := On.turned e1 hset (fun b q z => by have := (hown b z).1; omega)
    exact (On.more e2 (fun b q => .inr q)).map fun w' q => ⟨rfl, rfl, q, h0, h1, h2⟩
  · exact (k4.trans (hw3.mono k4.size)).setCell (by exact k4.size) _
end Go.Proofs.YtegbgnjmkohcfaaDoor.Tbl
namespace Go.Proofs.YtegbgnjmkohcfaaDoor.Tbl
set_option linter.unusedVariables false
open Go.ChangeShapes Go.WideShapes Go.ChangeAt Go.RowKit
open Go.Mem RecM
def rc (t : Tb.TabD) (V S : Value) : Nat → Value
  | 0 => .int .i64 t.k | 1 => .int .i64 (t.n - t.k) | 2 => V | 3 => S | 4 => .int .i64 t.epoch | _ => .int .i64 t.last
section
variable {w w' : World} {G K F : Nat → Prop} {r : Nat} {V S : Value} {t : Tb.TabD}
end
/-- what an object reads as, in four cells -/
theorem Objs.val {w : World} {A : Option Addr} {n C : Nat} {L : List ObjD} (h : Objs w (.slice A n C) L) {i : Nat} (hi : i < L.length) :
    ∃ b o A' C', A = some ⟨b, o, none⟩ ∧ w.cell? ⟨b, o + i * 4, none⟩ = some (.string L[i].key) ∧ w.cell? ⟨b, o + i * 4 + 1, none⟩ = some (.int .i64 L[i].id) ∧ w.cell? ⟨b, o + i * 4 + 2, none⟩ = some (.int .i64 L[i].size) ∧
      w.cell? ⟨b, o + i * 4 + 3, none⟩ = some (.slice A' L[i].stripes.length C') ∧ ObjIs w (.agg #[.string L[i].key, .int .i64 L[i].id, .int .i64 L[i].size, .slice A' L[i].stripes.length C']) L[i] := by
  obtain ⟨A1, n1, C1, h1, _, _, _, _, h6⟩ := h
  cases h1
  obtain ⟨b, o, f, e, hc, f0, f1, f2, f3, q⟩ := h6 i hi
  obtain ⟨A', C', e3, -⟩ := f3.shape
  have c0 := hc 0 (by omega)
  have c1 := hc 1 (by omega)
  have c2 := hc 2 (by omega)
  have c3 := hc 3 (by omega)
  rw [f0, Nat.add_zero] at c0
  rw [f1] at c1
  rw [f2] at c2
  rw [e3] at c3 f3
  exact ⟨b, o, A', C', e, c0, c1, c2, c3, A', C', rfl, f3, q⟩
end Go.Proofs.YtegbgnjmkohcfaaDoor.Tbl
namespace Go.Proofs.YtegbgnjmkohcfaaDoor.Tbl
set_option linter.unusedVariables false
open Go.ChangeShapes Go.WideShapes Go.ChangeAt Go.RowKit
open Go.Mem RecM
theorem stripe_at {t : Tb.TabD} (h : t.Ok) {i k : Nat} (hi : i < t.objs.length) (hk : k < t.objs[i].stripes.length) {id : Int} (e : t.objs[i].stripes[k].id = id) : Tb.stripe t id = some t.objs[i].stripes[k] := by
  subst e
  exact Tb.stripe_self h (List.mem_flatMap.2 ⟨_, List.getElem_mem hi, List.getElem_mem hk⟩)
theorem stripe_nowhere {t : Tb.TabD} {id : Int} (h : ∀ i (hi : i < t.objs.length), ∀ k (hk : k < t.objs[i].stripes.length), ¬ t.objs[i].stripes[k].id = id) : Tb.stripe t id = none := by
  unfold Tb.stripe Tb.stripes
  rw [List.find?_eq_none]
  intro s hs
  obtain ⟨o, ho, hm⟩ := List.mem_flatMap.1 hs
  obtain ⟨i, hi, rfl⟩ := List.getElem_of_mem ho
  obtain ⟨k, hk, rfl⟩ := List.getElem_of_mem hm
  simpa using h i hi k hk
end Go.Proofs.YtegbgnjmkohcfaaDoor.Tbl
namespace Go.Proofs.YtegbgnjmkohcfaaDoor.Tbl
set_option linter.unusedVariables false
open Go.ChangeShapes Go.WideShapes Go.ChangeAt Go.RowKit
open Go.Mem RecM
theorem step_append_run {P : Program} (w w' : World) (v' : Value) {ops : Array Oper} {o : Oper} {a : Act} {K : Act → World → Prop} {Q : Exit → Act → World → Prop} {E : Prop} (hgd : o.guard = none) (s x : Operand) (t tn : TypeId)
    (ho : o.op = .call { callee := .builtin .append, args := #[s, x], argTypes := #[t, tn] }) (vs vx : Value) (hs : a.eval s = vs) (hx : a.eval x = vx) (hr : (Builtin.append_ #[t, tn] o.type #[vs, vx]).run P w = .ok v' w') (h : K (a.put o.dst v') w') :
    if Region.wanted o (yielded ops a.tmps) = true then Oper.wp P o a w K Q else E := by
  rw [if_pos (show Region.wanted o (yielded ops a.tmps) = true by simp [Region.wanted, hgd])]
  exact Lib.wp_append_run w s x t tn ho vs vx hs hx v' w' hr h
theorem lt6 {P : Nat → Prop} (h0 : P 0) (h1 : P 1) (h2 : P 2) (h3 : P 3) (h4 : P 4) (h5 : P 5) : ∀ j, j < 6 → P j := by
  intro j hj
  rcases (by omega : j = 0 ∨ j = 1 ∨ j = 2 ∨ j = 3 ∨ j = 4 ∨ j = 5) with rfl | rfl | rfl | rfl | rfl | rfl <;> assumption
section
variable {w0 w w' : World} {G0 G K : Nat → Prop} {r : Nat} {V S : Value} {t : Tb.TabD}
end
/-- stores into another block leave a block's cells -/
theorem two_kept {w : World} {r B o i j : Nat} {v x y : Value} (hne : r ≠ B) (h : w.cell? ⟨B, i, none⟩ = some x ∧ w.cell? ⟨B, j, none⟩ = some y) : (w.setCell ⟨r, o, none⟩ v).cell? ⟨B, i, none⟩ = some x ∧ (w.setCell ⟨r, o, none⟩ v).cell? ⟨B, j, none⟩ = some y :=
  ⟨(World.cell?_setCell_other w ⟨r, o, none⟩ ⟨B, i, none⟩ v (fun e => hne (congrArg Addr.block e))).trans h.1, (World.cell?_setCell_other w ⟨r, o, none⟩ ⟨B, j, none⟩ v (fun e => hne (congrArg Addr.block e))).trans h.2⟩
/-- an object of a slice that a call has built: its four cells, and what stays so as long as the blocks of K stay -/
theorem BuiltX.val {w : World} {K : Nat → Prop} {A : Option Addr} {n C : Nat} {L : List ObjD} (h : BuiltX 4 ObjR K w TObj (.slice A n C) L) {i : Nat} (hi : i < L.length) :
    ∃ g A' C', A = some ⟨g, 0, none⟩ ∧ w.cell? ⟨g, i * 4, none⟩ = some (.string L[i].key) ∧ w.cell? ⟨g, i * 4 + 1, none⟩ = some (.int .i64 L[i].id) ∧ w.cell? ⟨g, i * 4 + 2, none⟩ = some (.int .i64 L[i].size) ∧
      w.cell? ⟨g, i * 4 + 3, none⟩ = some (.slice A' L[i].stripes.length C') ∧ On K w (fun w' => ObjR w' (fun j => #[Value.string L[i].key, .int .i64 L[i].id, .int .i64 L[i].size, .slice A' L[i].stripes.length C'].getD j undef) L[i]) := by
  obtain ⟨xs, h1, -, hx⟩ := h
  have h3 := h1
  obtain ⟨f, e, hR⟩ := hx i hi
  obtain ⟨f0, f1, f2, f3, -⟩ := hR.here
  obtain ⟨A', C', e3, -⟩ := f3.shape
  rcases h1.2 with ⟨e1, e2⟩ | ⟨g, cap, cur, e1, -⟩
  · omega
  have hcell := fun j (hj : j < 4) => h3.cells (g := g) (by rw [e1]; rfl) _ _ (e j hj)
  simp only [Value.slice.injEq] at e1
  obtain ⟨rfl, -, -⟩ := e1
  refine ⟨g, A', C', rfl, ?_, ?_, ?_, ?_, hR.map fun w' q => ⟨rfl, rfl, rfl, (by have := q.2.2.2.1; rw [e3] at this; exact this), q.2.2.2.2⟩⟩
  · have := hcell 0 (by omega)
    rw [f0, add_from] at this
    exact this
  · have := hcell 1 (by omega)
    rw [f1, add_from] at this
    exact this
  · have := hcell 2 (by omega)
    rw [f2, add_from] at this
    exact this
  · have := hcell 3 (by omega)
    rw [e3, add_from] at this
    exact this
theorem objCells : ∀ (k : ByteArray) (a b : Int) (A : Option Addr) (n C : Nat), ∀ u ∈ (#[Value.string k, .int .i64 a, .int .i64 b, .slice A n C] : Array Value).toList, u.oneCell' = true := fun k a b A n C u hu => by
  simp at hu
  rcases hu with rfl | rfl | rfl | rfl <;> rfl
end Go.Proofs.YtegbgnjmkohcfaaDoor.Tbl
namespace Tb
open Go Go.Mem Kl
theorem ap2 {t : TabD} {r : RecD} (hk : r.kind = 2) : apply t r = if (∃ x ∈ t.objs, keyOf x = r.key.toList) ∧ 1 ≤ r.id ∧ r.id ≤ 33554432 then some ⟨t.k, t.n, del keyOf r.key.toList t.objs, t.states, t.epoch, maxZ t.last r.id⟩ else none := by
  unfold apply
  rw [if_neg (by omega), if_pos hk]
theorem del_len {k : List UInt8} {L : List ObjD} : (del keyOf k L).length = L.length ↔ ¬ ∃ x ∈ L, keyOf x = k := by
  unfold del
  rw [List.length_filter_eq_length_iff]
  simp
theorem ap2_no {t : TabD} {r : RecD} (hk : r.kind = 2) (h : (del keyOf r.key.toList t.objs).length = t.objs.length ∨ r.id < 1 ∨ 33554432 < r.id) : (apply t r).isSome = false ∧ stepT t r = t := by
  have e : apply t r = none := by
    rw [ap2 hk, if_neg]
    rintro ⟨h1, h2, h3⟩
    rcases h with h | h | h
    · exact del_len.1 h h1
    · omega
    · omega
  unfold stepT
  rw [e]
  exact ⟨rfl, rfl⟩
theorem ap2_yes {t : TabD} {r : RecD} (hk : r.kind = 2) (h0 : ¬ (del keyOf r.key.toList t.objs).length = t.objs.length) (h1 : 1 ≤ r.id) (h2 : r.id ≤ 33554432) : (apply t r).isSome = true ∧ stepT t r = ⟨t.k, t.n, del keyOf r.key.toList t.objs, t.states, t.epoch, maxZ t.last r.id⟩ := by
  have e : apply t r = some ⟨t.k, t.n, del keyOf r.key.toList t.objs, t.states, t.epoch, maxZ t.last r.id⟩ := by
    rw [ap2 hk, if_pos ⟨Classical.not_not.1 (fun q => h0 (del_len.2 q)), h1, h2⟩]
  unfold stepT
  rw [e]
  exact ⟨rfl, rfl⟩
theorem del_keep {k : List UInt8} {L : List ObjD} {i : Nat} (hi : i < L.length) (h : ¬ L[i].key.toList = k) : del keyOf k (L.take (i + 1)) = del keyOf k (L.take i) ++ [L[i]] := by
  rw [List.take_succ_eq_append_getElem hi]
  unfold del
  rw [List.filter_append]
  simp [keyOf, h]
theorem del_drop {k : List UInt8} {L : List ObjD} {i : Nat} (hi : i < L.length) (h : L[i].key.toList = k) : del keyOf k (L.take (i + 1)) = del keyOf k (L.take i) := by
  rw [List.take_succ_eq_append_getElem hi]
  unfold del
  rw [List.filter_append]
  simp [keyOf, h]
theorem del_le {k : List UInt8} {L : List ObjD} : (del keyOf k L).length ≤ L.length := List.length_filter_le _ _
end Tb
namespace Go.Proofs.YtegbgnjmkohcfaaDoor.Tbl
set_option linter.unusedVariables false
open Go.ChangeShapes Go.WideShapes Go.ChangeAt Go.RowKit
open Go.Mem RecM
/-- in the midst: M has been put behind one another, in blocks of the call's own -/
def LMid (w1 : World) (K : Nat → Prop) (M : List ObjD) (v : Value) (wr : World) : Prop := BuiltX 4 ObjR K wr TObj v M ∧ (∀ b, v.ownBlock = some b → w1.heap.size ≤ b) ∧ Below w1.heap.size w1 wr
section
variable {w1 wr w' : World} {K : Nat → Prop} {M : List ObjD} {v v' : Value}
theorem LMid.start (w1 : World) (K : Nat → Prop) : LMid w1 K [] (.slice none 0 0) w1 := ⟨BuiltX.start _ _ _ _ _, fun b q => (by cases q), Below.refl _ _⟩
theorem LMid.below (h : LMid w1 K M v wr) (hb : Below wr.heap.size wr w') : LMid w1 K M v w' := ⟨h.1.below hb, h.2.1, h.2.2.trans (hb.mono h.2.2.size)⟩
theorem LMid.len (h : LMid w1 K M v wr) : ∃ A C, v = .slice A M.length C ∧ M.length ≤ C ∧ C ≤ 9223372036854775807 := by
  obtain ⟨A, C, e, h1, h2, -⟩ := h.1.len
  exact ⟨A, C, e, h1, h2⟩
theorem LMid.next (h : LMid w1 K M v wr) {x : ObjD} (hb : BuiltX 4 ObjR K w' TObj v' (M ++ [x])) (ht : Turned (fun b => v.ownBlock = some b) wr w') (hat : v'.ownBlock = v.ownBlock ∨ v'.ownBlock = some (wr.heap.size + 1)) : LMid w1 K (M ++ [x]) v' w' := by
  have hs := h.2.2.size
  refine ⟨hb, fun b q => ?_, h.2.2.trans (ht.below (fun b q => h.2.1 b q) hs)⟩
  rcases hat with e | e
  · exact h.2.1 b (e ▸ q)
  · rw [e] at q; injection q with q; omega
end
end Go.Proofs.YtegbgnjmkohcfaaDoor.Tbl
namespace Tb
open Go Go.Mem Kl
theorem moveS_at {s : StpD} : ∀ {l : List StpD} {k : Nat} (hk : k < l.length), (∀ j (hj : j < l.length), j < k → ¬ l[j].id = s.id) → l[k].id = s.id → moveS s l = some (l.set k s)
  | [], k, hk, _, _ => absurd hk (by simp)
  | a :: l, 0, _, _, e => by
    unfold moveS
    rw [if_pos (by simpa using e)]
    rfl
  | a :: l, k + 1, hk, h, e => by
    unfold moveS
    rw [if_neg (show ¬ a.id = s.id from h 0 (by simp) (by omega)), moveS_at (l := l) (k := k) (by simpa using hk) (fun j hj q => h (j + 1) (by simpa using hj) (by omega)) (by simpa using e)]
    rfl
theorem moveS_not {s : StpD} {l : List StpD} (h : ∀ j (hj : j < l.length), ¬ l[j].id = s.id) : moveS s l = none := moveS_none.2 fun x hx => by
  obtain ⟨j, hj, rfl⟩ := List.getElem_of_mem hx
  exact h j hj
def movedO (o : ObjD) (k : Nat) (s : StpD) : ObjD := ⟨o.key, o.id, o.size, o.stripes.set k s⟩
theorem moveO_at {s : StpD} : ∀ {L : List ObjD} {i k : Nat} (hi : i < L.length) (hk : k < L[i].stripes.length), (∀ j (hj : j < L.length), j < i → ∀ m (hm : m < L[j].stripes.length), ¬ L[j].stripes[m].id = s.id) → (∀ m (hm : m < L[i].stripes.length), m < k → ¬ L[i].stripes[m].id = s.id) →
    L[i].stripes[k].id = s.id → moveO s L = some (L.set i (movedO L[i] k s))
  | [], i, _, hi, _, _, _, _ => absurd hi (by simp)
  | o :: L, 0, k, _, hk, _, h2, e => by
    unfold moveO
    rw [moveS_at (l := o.stripes) (k := k) hk (fun j hj q => h2 j hj q) e]
    rfl
  | o :: L, i + 1, k, hi, hk, h1, h2, e => by
    unfold moveO
    rw [moveS_not (l := o.stripes) (fun j hj => h1 0 (by simp) (by omega) j hj)]
    dsimp only
    rw [moveO_at (L := L) (i := i) (k := k) (by simpa using hi) hk (fun j hj q m hm => h1 (j + 1) (by simpa using hj) (by omega) m hm) (fun m hm q => h2 m hm q) e]
    rfl
theorem moveO_not {s : StpD} : ∀ {L : List ObjD}, (∀ j (hj : j < L.length), ∀ m (hm : m < L[j].stripes.length), ¬ L[j].stripes[m].id = s.id) → moveO s L = none
  | [], _ => rfl
  | o :: L, h => by
    unfold moveO
    rw [moveS_not (l := o.stripes) (fun j hj => h 0 (by simp) j hj)]
    dsimp only
    rw [moveO_not (L := L) (fun j hj m hm => h (j + 1) (by simpa using hj) m hm)]
    rfl
theorem ap3_one {t : TabD} {r : RecD} (hk : r.kind = 3) {s : StpD} (hs : r.stripes = [s]) : apply t r = if StpOk t.n s then (moveO s t.objs).map fun L => ⟨t.k, t.n, L, t.states, t.epoch, t.last⟩ else none := by
  unfold apply
  rw [if_neg (by omega), if_neg (by omega), if_pos hk, hs]
theorem ap3_len {t : TabD} {r : RecD} (hk : r.kind = 3) (hs : ¬ r.stripes.length = 1) : (apply t r).isSome = false ∧ stepT t r = t := by
  have e : apply t r = none := by
    unfold apply
    rw [if_neg (by omega), if_neg (by omega), if_pos hk]
    match h : r.stripes with
    | [] => rfl
    | [s] => rw [h] at hs; exact absurd rfl hs
    | a :: b :: l => rfl
  unfold stepT
  rw [e]
  exact ⟨rfl, rfl⟩
theorem ap3_wrong {t : TabD} {r : RecD} (hk : r.kind = 3) (s : StpD) (hs : r.stripes = [s]) (h : ¬ StpOk t.n s) : (apply t r).isSome = false ∧ stepT t r = t := by
  have e : apply t r = none := by rw [ap3_one hk hs, if_neg h]
  unfold stepT
  rw [e]
  exact ⟨rfl, rfl⟩
theorem ap3_none {t : TabD} {r : RecD} (hk : r.kind = 3) (s : StpD) (hs : r.stripes = [s]) (h : ∀ j (hj : j < t.objs.length), ∀ m (hm : m < t.objs[j].stripes.length), ¬ t.objs[j].stripes[m].id = s.id) : (apply t r).isSome = false ∧ stepT t r = t := by
  have e : apply t r = none := by
    rw [ap3_one hk hs, moveO_not h]
    split <;> rfl
  unfold stepT
  rw [e]
  exact ⟨rfl, rfl⟩
theorem ap3_yes {t : TabD} {r : RecD} (hk : r.kind = 3) (s : StpD) (hs : r.stripes = [s]) (h : StpOk t.n s) (i k : Nat) (hi : i < t.objs.length) (hki : k < t.objs[i].stripes.length) (h1 : ∀ j (hj : j < t.objs.length), j < i → ∀ m (hm : m < t.objs[j].stripes.length), ¬ t.objs[j].stripes[m].id = s.id)
    (h2 : ∀ m (hm : m < t.objs[i].stripes.length), m < k → ¬ t.objs[i].stripes[m].id = s.id) (e : t.objs[i].stripes[k].id = s.id) : (apply t r).isSome = true ∧ stepT t r = ⟨t.k, t.n, t.objs.set i (movedO t.objs[i] k s), t.states, t.epoch, t.last⟩ := by
  have e : apply t r = some ⟨t.k, t.n, t.objs.set i (movedO t.objs[i] k s), t.states, t.epoch, t.last⟩ := by rw [ap3_one hk hs, if_pos h, moveO_at hi hki h1 h2 e]; rfl
  unfold stepT
  rw [e]
  exact ⟨rfl, rfl⟩
theorem nStp_le {k size : Int} (h0 : 1 ≤ k) (h1 : size ≤ 96) : nStp k size ≤ 96 := by
  unfold nStp
  have hp : 0 < 8 * k := by omega
  refine Int.le_of_lt_add_one (Int.ediv_lt_of_lt_mul hp ?_)
  have : 97 * 8 ≤ 97 * (8 * k) := by omega
  omega
end Tb
namespace Go.Proofs.YtegbgnjmkohcfaaDoor.Tbl
set_option linter.unusedVariables false
open Go.ChangeShapes Go.WideShapes Go.ChangeAt Go.RowKit
open Go.Mem RecM
section
variable {α : Type} {R : World → (Nat → Value) → α → Prop} {K K' : Nat → Prop} {w : World} {t g C : Nat} {L : List α} {x : α}
theorem BuiltX.set4 (h : BuiltX 4 R K w t (.slice (some ⟨g, 0, none⟩) L.length C) L) {i : Nat} (hi : i < L.length) (hK : ∀ b, K b → K' b) (hg : ¬ K' g) (f : Nat → Value) (hR : On K' w (fun w' => R w' f x)) :
    BuiltX 4 R K' ((((w.setCell ⟨g, i * 4, none⟩ (f 0)).setCell ⟨g, i * 4 + 1, none⟩ (f 1)).setCell ⟨g, i * 4 + 2, none⟩ (f 2)).setCell ⟨g, i * 4 + 3, none⟩ (f 3)) t (.slice (some ⟨g, 0, none⟩) L.length C) (L.set i x) := by
  obtain ⟨xs, h1, h2, h3⟩ := h
  have a1 := (h1.stored (i * 4) (f 0)).1
  have a2 := (a1.stored (i * 4 + 1) (f 1)).1
  have a3 := (a2.stored (i * 4 + 2) (f 2)).1
  have a4 := (a3.stored (i * 4 + 3) (f 3)).1
  have ht : Turned (fun b => b = g) w ((((w.setCell ⟨g, i * 4, none⟩ (f 0)).setCell ⟨g, i * 4 + 1, none⟩ (f 1)).setCell ⟨g, i * 4 + 2, none⟩ (f 2)).setCell ⟨g, i * 4 + 3, none⟩ (f 3)) :=
    (((Turned.set (F := fun b => b = g) (b := g) _ rfl).trans (Turned.set (F := fun b => b = g) (b := g) _ rfl) (Grown.refl _ _)).trans (Turned.set (F := fun b => b = g) (b := g) _ rfl) (Grown.refl _ _)).trans (Turned.set (F := fun b => b = g) (b := g) _ rfl) (Grown.refl _ _)
  have hlen := h1.1
  refine ⟨_, by rw [List.length_set]; exact a4, fun b q z => ?_, fun j hj => ?_⟩
  · injection q with q; subst q; exact hg z
  by_cases e : j = i
  · subst e
    refine ⟨f, fun m hm => ?_, ?_⟩
    · rcases (by omega : m = 0 ∨ m = 1 ∨ m = 2 ∨ m = 3) with rfl | rfl | rfl | rfl
      · rw [List.getElem?_set_ne (by omega), List.getElem?_set_ne (by omega), List.getElem?_set_ne (by omega), Nat.add_zero, List.getElem?_set_self (by omega)]
      · rw [List.getElem?_set_ne (by omega), List.getElem?_set_ne (by omega), List.getElem?_set_self (by simp only [List.length_set]; omega)]
      · rw [List.getElem?_set_ne (by omega), List.getElem?_set_self (by simp only [List.length_set]; omega)]
      · rw [List.getElem?_set_self (by simp only [List.length_set]; omega)]
    · rw [List.getElem_set_self]
      exact hR.turned ht (fun b q z => hg (q ▸ z))
  · have hj' : j < L.length := by simpa using hj
    obtain ⟨f', e1, e2⟩ := h3 j hj'
    refine ⟨f', fun m hm => ?_, ?_⟩
    · rw [List.getElem?_set_ne (by omega), List.getElem?_set_ne (by omega), List.getElem?_set_ne (by omega), List.getElem?_set_ne (by omega)]
      exact e1 m hm
    · rw [List.getElem_set_ne (fun q => e q.symm)]
      exact (On.more e2 hK).turned ht (fun b q z => hg (q ▸ z))
theorem BuiltX.set3 (h : BuiltX 3 R K w t (.slice (some ⟨g, 0, none⟩) L.length C) L) {i : Nat} (hi : i < L.length) (hK : ∀ b, K b → K' b) (hg : ¬ K' g) (f : Nat → Value) (hR : On K' w (fun w' => R w' f x)) :
    BuiltX 3 R K' (((w.setCell ⟨g, i * 3, none⟩ (f 0)).setCell ⟨g, i * 3 + 1, none⟩ (f 1)).setCell ⟨g, i * 3 + 2, none⟩ (f 2)) t (.slice (some ⟨g, 0, none⟩) L.length C) (L.set i x) := by
  obtain ⟨xs, h1, h2, h3⟩ := h
  have a1 := (h1.stored (i * 3) (f 0)).1
  have a2 := (a1.stored (i * 3 + 1) (f 1)).1
  have a3 := (a2.stored (i * 3 + 2) (f 2)).1
  have ht : Turned (fun b => b = g) w (((w.setCell ⟨g, i * 3, none⟩ (f 0)).setCell ⟨g, i * 3 + 1, none⟩ (f 1)).setCell ⟨g, i * 3 + 2, none⟩ (f 2)) :=
    ((Turned.set (F := fun b => b = g) (b := g) _ rfl).trans (Turned.set (F := fun b => b = g) (b := g) _ rfl) (Grown.refl _ _)).trans (Turned.set (F := fun b => b = g) (b := g) _ rfl) (Grown.refl _ _)
  have hlen := h1.1
  refine ⟨_, by rw [List.length_set]; exact a3, fun b q z => ?_, fun j hj => ?_⟩
  · injection q with q; subst q; exact hg z
  by_cases e : j = i
  · subst e
    refine ⟨f, fun m hm => ?_, ?_⟩
    · rcases (by omega : m = 0 ∨ m = 1 ∨ m = 2) with rfl | rfl | rfl
      · rw [List.getElem?_set_ne (by omega), List.getElem?_set_ne (by omega), Nat.add_zero, List.getElem?_set_self (by omega)]
      · rw [List.getElem?_set_ne (by omega), List.getElem?_set_self (by simp only [List.length_set]; omega)]
      · rw [List.getElem?_set_self (by simp only [List.length_set]; omega)]
    · rw [List.getElem_set_self]
      exact hR.turned ht (fun b q z => hg (q ▸ z))
  · have hj' : j < L.length := by simpa using hj
    obtain ⟨f', e1, e2⟩ := h3 j hj'
    refine ⟨f', fun m hm => ?_, ?_⟩
    · rw [List.getElem?_set_ne (by omega), List.getElem?_set_ne (by omega), List.getElem?_set_ne (by omega)]
      exact e1 m hm
    · rw [List.getElem_set_ne (fun q => e q.symm)]
      exact (On.more e2 hK).turned ht (fun b q z => hg (q ▸ z))
end
/-- a stripe of a slice that a call has built -/
theorem BuiltX.valS {w : World} {K : Nat → Prop} {A : Option Addr} {n C : Nat} {L : List StpD} (h : BuiltX 3 StpR K w TStp (.slice A n C) L) {i : Nat} (hi : i < L.length) :
    ∃ g A' C', A = some ⟨g, 0, none⟩ ∧ w.cell? ⟨g, i * 3, none⟩ = some (.int .i64 L[i].id) ∧ w.cell? ⟨g, i * 3 + 1, none⟩ = some (.int .i64 L[i].ep) ∧ w.cell? ⟨g, i * 3 + 2, none⟩ = some (.slice A' L[i].locs.length C') ∧
      On K w (fun w' => StpR w' (fun j => #[Value.int .i64 L[i].id, .int .i64 L[i].ep, .slice A' L[i].locs.length C'].getD j undef) L[i]) := by
  obtain ⟨xs, h1, -, hx⟩ := h
  have h3 := h1
  obtain ⟨f, e, hR⟩ := hx i hi
  obtain ⟨f0, f1, f2, -⟩ := hR.here
  obtain ⟨A', C', e2, -⟩ := f2.shape
  rcases h1.2 with ⟨e1, q⟩ | ⟨g, cap, cur, e1, -⟩
  · omega
  have hcell := fun j (hj : j < 3) => h3.cells (g := g) (by rw [e1]; rfl) _ _ (e j hj)
  simp only [Value.slice.injEq] at e1
  obtain ⟨rfl, -, -⟩ := e1
  refine ⟨g, A', C', rfl, ?_, ?_, ?_, hR.map fun w' q => ⟨rfl, rfl, (by have := q.2.2.1; rw [e2] at this; exact this), q.2.2.2⟩⟩
  · have := hcell 0 (by omega)
    rw [f0, add_from] at this
    exact this
  · have := hcell 1 (by omega)
    rw [f1, add_from] at this
    exact this
  · have := hcell 2 (by omega)
    rw [e2, add_from] at this
    exact this
/-- where it lies, its cells are free to be written -/
theorem BuiltX.free {α : Type} {k : Nat} {R : World → (Nat → Value) → α → Prop} {K : Nat → Prop} {w : World} {t g n C : Nat} {L : List α} (h : BuiltX k R K w t (.slice (some ⟨g, 0, none⟩) n C) L) (j : Nat) : w.frozen? ⟨g, j, none⟩ = false := by
  obtain ⟨xs, h1, -, -⟩ := h
  rcases h1.2 with ⟨e, -⟩ | ⟨g', cap', cur, e, -, hg, -⟩
  · cases e
  · simp only [Value.slice.injEq, Option.some.injEq, Addr.mk.injEq, and_true] at e
    obtain ⟨rfl, -, -⟩ := e
    exact frozen_of_row w g j cur t hg
theorem kept_3 {w : World} {b g i o1 o2 o3 : Nat} {v1 v2 v3 x : Value} (hne : g ≠ b) (h : w.cell? ⟨b, i, none⟩ = some x) : (((w.setCell ⟨g, o1, none⟩ v1).setCell ⟨g, o2, none⟩ v2).setCell ⟨g, o3, none⟩ v3).cell? ⟨b, i, none⟩ = some x := by
  have k : ∀ (w : World) (o : Nat) (v : Value), (w.setCell ⟨g, o, none⟩ v).cell? ⟨b, i, none⟩ = w.cell? ⟨b, i, none⟩ := fun w o v => World.cell?_setCell_other w ⟨g, o, none⟩ ⟨b, i, none⟩ v (fun e => hne (congrArg Addr.block e))
  rw [k, k, k]
  exact h
end Go.Proofs.YtegbgnjmkohcfaaDoor.Tbl
namespace Go.Mem
open Go.RowKit
set_option linter.unusedVariables false
/-- ints that may be written, from the head of block b on -/
structure RowZ (w : World) (b : Nat) (m : List Int) : Prop where
  cell : ∀ i, i < m.length → w.cell? ⟨b, i, none⟩ = some (.int .i64 (m.getD i 0))
  free : ∀ i, i < m.length → w.frozen? ⟨b, i, none⟩ = false
theorem RowZ.lt {w : World} {b : Nat} {m : List Int} (h : RowZ w b m) (hn : 0 < m.length) : b < w.heap.size := World.block_lt_of_cell? _ _ (h.cell 0 hn)
theorem RowZ.keep {w w' : World} {b : Nat} {m : List Int} (h : RowZ w b m) (e : w'.heap[b]? = w.heap[b]?) : RowZ w' b m :=
  ⟨fun i hi => (World.cell?_of_block (w := w) (a := ⟨b, i, none⟩) e).trans (h.cell i hi), fun i hi => (World.frozen?_of_block (w := w) (a := ⟨b, i, none⟩) e).trans (h.free i hi)⟩
theorem RowZ.below {w w' : World} {b : Nat} {m : List Int} (h : RowZ w b m) (hn : 0 < m.length) (hb : Below w.heap.size w w') : RowZ w' b m := h.keep (hb.block b (h.lt hn))
theorem RowZ.set {w : World} {b : Nat} {m : List Int} (h : RowZ w b m) (k : Nat) (x : Int) : RowZ (w.setCell ⟨b, k, none⟩ (.int .i64 x)) b (m.set k x) := by
  refine ⟨fun i hi => ?_, fun i hi => ?_⟩
  · have hi' : i < m.length := by simpa using hi
    by_cases e : i = k
    · subst e
      rw [show (m.set i x).getD i 0 = x by simp [List.getD, hi']]
      exact World.cell?_setCell_same _ _ _ (h.cell i hi')
    · rw [World.cell?_setCell_other _ _ _ _ (fun q => by injection q; omega), show (m.set k x).getD i 0 = m.getD i 0 by simp [List.getD, Ne.symm e]]
      exact h.cell i hi'
  · rw [World.frozen?_setCell]
    exact h.free i (by simpa using hi)
theorem intR_world : ∀ (w1 w2 : World) (c : Value) (x : Int), IntR w1 c x → IntR w2 c x := fun _ _ _ _ h => h
theorem intR_one : ∀ (w : World) (c : Value) (x : Int), IntR w c x → c.oneCell' = true := fun _ _ _ h => by rw [h.1]; rfl
theorem built_rowZ {w : World} {base t : Nat} {v : Value} {L : List Int} (h : Built IntR w base t v L) (h0 : 0 < L.length) : ∃ g C, v = .slice (some ⟨g, 0, none⟩) L.length C ∧ L.length ≤ C ∧ C ≤ 9223372036854775807 ∧ base ≤ g ∧ RowZ w g L := by
  obtain ⟨xs, h1, h2⟩ := h
  have hs := Built.slice ⟨xs, h1, h2⟩
  rcases h1.2 with ⟨_, e⟩ | ⟨g, cap, cur, e, hb, hg, h3, h4, _, _⟩
  · omega
  · subst e
    refine ⟨g, cap, rfl, h3, by unfold maxLen at h4; exact h4, hb, fun i hi => ?_, fun i hi => by simp [World.frozen?, hg]⟩
    have hI : Ints w (.slice (some ⟨g, 0, none⟩) L.length cap) L := hs
    have := (hI.here hi).1
    rw [Nat.zero_add] at this
    rw [this]
    simp [List.getD, hi]
theorem RowZ.ints {w : World} {b C : Nat} {m : List Int} (h : RowZ w b m) (hi : ∀ x ∈ m, I64 x) (h1 : m.length ≤ C) (h2 : C ≤ 9223372036854775807) : Ints w (.slice (some ⟨b, 0, none⟩) m.length C) m :=
  ⟨some ⟨b, 0, none⟩, m.length, C, rfl, rfl, h1, by unfold maxLen; exact h2, (fun e => by cases e), fun i hj => ⟨b, 0, .int .i64 m[i], rfl, by rw [Nat.zero_add, h.cell i hj]; simp [List.getD, hj], rfl, hi _ (List.getElem_mem hj)⟩⟩
theorem ints_i64 {w : World} {v : Value} {l : List Int} (h : Ints w v l) : ∀ x ∈ l, I64 x := by
  intro x hx
  obtain ⟨i, hi, rfl⟩ := List.getElem_of_mem hx
  obtain ⟨A, C, rfl, _⟩ := h.shape
  obtain ⟨_, _, _, _, q⟩ := h.at hi
  exact q
theorem made_rowZ (w : World) (t n : Nat) : RowZ (w.alloc (.cells (madeCells #[.int .i64 0] n) t)) w.heap.size (List.replicate n 0) := by
  have hm : (madeCells #[.int .i64 0] n : Array Value).size = n := size_madeCells _ _
  have h := World.rowIs_alloc w (madeCells #[.int .i64 0] n) t (fun _ => .int .i64 0) (fun i hi => by
    have hi' : i < n := by rw [hm] at hi; exact hi
    simp [madeCells, hi', Nat.mod_one])
  refine ⟨fun i hi => ?_, fun i _ => h.frozen i⟩
  have hi' : i < n := by simpa using hi
  rw [h.cell (i := i) (by rw [hm]; exact hi')]
  simp [List.getD, hi']
def onesTo (n k : Nat) : List Int := List.replicate k 1 ++ List.replicate (n - k) 0
theorem onesTo_len {n k : Nat} (h : k ≤ n) : (onesTo n k).length = n := by simp [onesTo]; omega
theorem onesTo_set {n k : Nat} (h : k < n) : (onesTo n k).set k 1 = onesTo n (k + 1) := by
  unfold onesTo
  rw [List.set_append_right _ _ (by simp), List.length_replicate, Nat.sub_self, show n - k = (n - (k + 1)) + 1 by omega, List.replicate_succ, List.set_cons_zero, List.replicate_succ', List.append_assoc]
  rfl
theorem two_ints (T : TypeId) (w : World) (x y : Int) (hx : I64 x) (hy : I64 y) : Ints (w.alloc (.cells #[.int .i64 x, .int .i64 y] T)) (.slice (some ⟨w.heap.size, 0, none⟩) 2 2) [x, y] := by
  have h := World.rowIs_alloc w #[.int .i64 x, .int .i64 y] T (fun i => if i = 0 then .int .i64 x else .int .i64 y) (fun i hi => by
    have : i < 2 := hi
    rcases (by omega : i = 0 ∨ i = 1) with rfl | rfl <;> rfl)
  refine ⟨_, 2, 2, rfl, rfl, Nat.le_refl _, by decide, (fun e => by cases e), fun i hi => ?_⟩
  have hi' : i < 2 := hi
  rcases (by omega : i = 0 ∨ i = 1) with rfl | rfl
  · exact ⟨_, 0, _, rfl, h.cell (i := 0) (by omega), rfl, hx⟩
  · exact ⟨_, 0, _, rfl, h.cell (i := 1) (by omega), rfl, hy⟩
theorem one_int (T : TypeId) (w : World) (x : Int) (hx : I64 x) : Ints (w.alloc (.cells #[.int .i64 x] T)) (.slice (some ⟨w.heap.size, 0, none⟩) 1 1) [x] := by
  have h := World.rowIs_alloc w #[.int .i64 x] T (fun _ => .int .i64 x) (fun i hi => by
    have : i < 1 := hi
    rw [show i = 0 by omega]; rfl)
  refine ⟨_, 1, 1, rfl, rfl, Nat.le_refl _, by decide, (fun e => by cases e), fun i hi => ?_⟩
  have hi' : i < 1 := hi
  obtain rfl : i = 0 := by omega
  exact ⟨_, 0, _, rfl, h.cell (i := 0) (by omega), rfl, hx⟩
theorem below_nxt {B : Nat} {w w1 w2 : World} (h : Below B w w1) (k : Below w1.heap.size w1 w2) (hB : B ≤ w.heap.size) : Below B w w2 := h.trans (k.mono (Nat.le_trans hB h.size))
end Go.Mem
