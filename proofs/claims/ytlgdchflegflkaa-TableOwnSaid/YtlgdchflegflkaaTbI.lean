/- What the laws of layer 14 ask of the program's tables: their calls' contracts, over whatever stands for a table in memory. -/
import Derived.Test.YtlgdchflegflkaaRows
import Derived.Test.YtlgdchflegflkaaFoot
import Derived.Test.YtlgdchflegflkaaTbStp
import Derived.Test.YtlgdchflegflkaaRecMath
import Derived.Test.YtlgdchflegflkaaRecSame
import Derived.Test.YtlgdchflegflkaaWrites
namespace Go.Proofs.Ytlgdchflegflkaa.Tbl
set_option linter.unusedVariables false
open Go.ChangeShapes Go.WideShapes Go.ChangeAt Go.RowKit
open Go.Mem
/-- so it is, whatever becomes of the blocks of X -/
def Sure (X : Nat → Prop) (w : World) (P : World → Prop) : Prop := ∀ w', Turned X w w' → P w'
section
variable {X Y : Nat → Prop} {w w' : World} {P Q : World → Prop}
theorem Sure.here (h : Sure X w P) : P w := h w (Turned.refl _ _)
theorem Sure.later (h : Sure X w P) (t : Turned X w w') : Sure X w' P := fun w'' t' => h w'' (t.trans t' (Grown.refl _ _))
theorem Sure.mono (h : Sure X w P) (hP : ∀ w, P w → Q w) : Sure X w Q := fun w' t => hP _ (h w' t)
theorem Sure.less (h : Sure X w P) (hX : ∀ b, Y b → X b) : Sure Y w P := fun w' t => h w' (t.mono hX)
end
def StpIs (w : World) (V : Value) (s : StpD) : Prop := ∃ A C, V = .agg #[.int .i64 s.id, .int .i64 s.ep, .slice A s.locs.length C] ∧ Ints w (.slice A s.locs.length C) s.locs ∧ I64 s.id ∧ I64 s.ep ∧ LenOk s.locs.length
def ObjIs (w : World) (V : Value) (o : ObjD) : Prop := ∃ A C, V = .agg #[.string o.key, .int .i64 o.id, .int .i64 o.size, .slice A o.stripes.length C] ∧ Stps w (.slice A o.stripes.length C) o.stripes ∧ I64 o.id ∧ I64 o.size ∧ KeyOk o.key ∧ LenOk o.stripes.length
def StrR (_ : World) (c : Value) (s : ByteArray) : Prop := c = .string s
def Strs (w : World) (v : Value) (l : List ByteArray) : Prop := SliceOf StrR w v l
def noStp : StpD := ⟨0, 0, []⟩
abbrev Thing := World → (Nat → Prop) → Nat → Tb.TabD → Prop
/-- the table is as t' behind a call -/
def Does (PD : Thing) (F : Nat → Prop) (p : Nat) (t' : Tb.TabD) (w w' : World) : Prop := ∃ F', PD w' F' p t' ∧ Turned F w w' ∧ Grown F F' w
/-- what is told is memory of its own -/
def Own (w w' : World) (P : World → Prop) : Prop := Sure (fun b => b < w.heap.size) w' P ∧ Below w.heap.size w w'
/-- as much as the laws hand in -/
def Fit (r : RecD) : Prop := RecM.base r ≤ 1000 ∧ RecM.items r ≤ 10000
def Few (t : Tb.TabD) : Prop := t.objs.length ≤ 1000
structure TbI (PD : Thing) : Prop where
  turned : ∀ {w w' : World} {F G : Nat → Prop} {p : Nat} {t : Tb.TabD}, PD w F p t → Turned G w w' → (∀ b, G b → ¬ F b) → PD w' F p t
  lt : ∀ {w : World} {F : Nat → Prop} {p : Nat} {t : Tb.TabD}, PD w F p t → ∀ b, F b → b < w.heap.size
  ok : ∀ {w : World} {F : Nat → Prop} {p : Nat} {t : Tb.TabD}, PD w F p t → t.Ok
  new : ∀ (w : World) (k m : Int), (k = 3 ∧ m = 2) ∨ (k = 1 ∧ m = 0) → Calls Try.prog 11 #[.int .i64 k, .int .i64 m] w fun e w' => ∃ F p, e = .returned (.pointer (some ⟨p, 0, none⟩)) ∧ PD w' F p (Tb.empty k (k + m)) ∧ (∀ b, F b → w.heap.size ≤ b) ∧ Below w.heap.size w w'
  apply : ∀ {w : World} {F : Nat → Prop} {p : Nat} {t : Tb.TabD}, PD w F p t → Few t → ∀ (r : RecD) (V : Value), Sure F w (fun w' => RecV w' V r) → Fit r →
    Calls Try.prog 12 #[.pointer (some ⟨p, 0, none⟩), V] w fun e w' => e = .returned (.int .i64 (if (Tb.apply t r).isSome = true then 0 else 2)) ∧ Does PD F p ((Tb.apply t r).getD t) w w'
  object : ∀ {w : World} {F : Nat → Prop} {p : Nat} {t : Tb.TabD}, PD w F p t → Few t → ∀ s : ByteArray,
    Calls Try.prog 18 #[.pointer (some ⟨p, 0, none⟩), .string s] w fun e w' => ∃ V o, e = .returned (.tuple #[V, .bool (Kl.find Tb.keyOf s.toList t.objs).isSome]) ∧ Own w w' (fun w'' => ObjIs w'' V o) ∧ ∀ x, Kl.find Tb.keyOf s.toList t.objs = some x → o = x
  keys : ∀ {w : World} {F : Nat → Prop} {p : Nat} {t : Tb.TabD}, PD w F p t → Few t →
    Calls Try.prog 24 #[.pointer (some ⟨p, 0, none⟩)] w fun e w' => ∃ V, e = .returned V ∧ Own w w' (fun w'' => Strs w'' V (t.objs.map ObjD.key))
  stripe : ∀ {w : World} {F : Nat → Prop} {p : Nat} {t : Tb.TabD}, PD w F p t → Few t → ∀ id : Int, I64 id →
    Calls Try.prog 16 #[.pointer (some ⟨p, 0, none⟩), .int .i64 id] w fun e w' => ∃ V, e = .returned (.tuple #[V, .bool (Tb.stripe t id).isSome]) ∧ Own w w' (fun w'' => StpIs w'' V ((Tb.stripe t id).getD noStp))
  stripes : ∀ {w : World} {F : Nat → Prop} {p : Nat} {t : Tb.TabD}, PD w F p t → Few t →
    Calls Try.prog 22 #[.pointer (some ⟨p, 0, none⟩)] w fun e w' => ∃ V, e = .returned V ∧ Own w w' (fun w'' => Stps w'' V (Tb.rowS t))
  states : ∀ {w : World} {F : Nat → Prop} {p : Nat} {t : Tb.TabD}, PD w F p t →
    Calls Try.prog 23 #[.pointer (some ⟨p, 0, none⟩)] w fun e w' => ∃ V, e = .returned V ∧ Own w w' (fun w'' => Ints w'' V t.states)
  epoch : ∀ {w : World} {F : Nat → Prop} {p : Nat} {t : Tb.TabD}, PD w F p t →
    Calls Try.prog 25 #[.pointer (some ⟨p, 0, none⟩)] w fun e w' => e = .returned (.int .i64 t.epoch) ∧ Below w.heap.size w w'
  last : ∀ {w : World} {F : Nat → Prop} {p : Nat} {t : Tb.TabD}, PD w F p t →
    Calls Try.prog 26 #[.pointer (some ⟨p, 0, none⟩)] w fun e w' => e = .returned (.int .i64 t.last) ∧ Below w.heap.size w w'
  all : ∀ {w : World} {F : Nat → Prop} {p : Nat} {t : Tb.TabD}, PD w F p t → Few t →
    Calls Try.prog 15 #[.pointer (some ⟨p, 0, none⟩)] w fun e w' => ∃ V, e = .returned V ∧ Own w w' (fun w'' => RecV w'' V (Tb.allRec t))
/-- .. and of a table that is none -/
structure NoTab : Prop where
  apply : ∀ (w : World) (V : Value), Calls Try.prog 12 #[.pointer none, V] w fun e w' => e = .returned (.int .i64 2) ∧ Below w.heap.size w w'
  object : ∀ (w : World) (s : ByteArray), Calls Try.prog 18 #[.pointer none, .string s] w fun e w' => ∃ V o, e = .returned (.tuple #[V, .bool false]) ∧ ObjIs w' V o ∧ Below w.heap.size w w'
  keys : ∀ (w : World), Calls Try.prog 24 #[.pointer none] w fun e w' => ∃ V, e = .returned V ∧ Strs w' V [] ∧ Below w.heap.size w w'
  stripe : ∀ (w : World) (id : Int), Calls Try.prog 16 #[.pointer none, .int .i64 id] w fun e w' => ∃ V s, e = .returned (.tuple #[V, .bool false]) ∧ StpIs w' V s ∧ Below w.heap.size w w'
  stripes : ∀ (w : World), Calls Try.prog 22 #[.pointer none] w fun e w' => ∃ V, e = .returned V ∧ Stps w' V [] ∧ Below w.heap.size w w'
  states : ∀ (w : World), Calls Try.prog 23 #[.pointer none] w fun e w' => ∃ V, e = .returned V ∧ Ints w' V [] ∧ Below w.heap.size w w'
  epoch : ∀ (w : World), Calls Try.prog 25 #[.pointer none] w fun e w' => e = .returned (.int .i64 0) ∧ Below w.heap.size w w'
  last : ∀ (w : World), Calls Try.prog 26 #[.pointer none] w fun e w' => e = .returned (.int .i64 0) ∧ Below w.heap.size w w'
  all : ∀ (w : World), Calls Try.prog 15 #[.pointer none] w fun e w' => ∃ V, e = .returned V ∧ RecV w' V RecD.zero ∧ Below w.heap.size w w'
/-- the law's own example -/
def r0 : RecD := ⟨1, 5, 3, ⟨#[97]⟩, [⟨80, 0, [2]⟩], [], []⟩
def o0 : ObjD := ⟨⟨#[97]⟩, 5, 3, [⟨80, 0, [2]⟩]⟩
theorem r0_apply : Tb.apply (Tb.empty 1 1) r0 = some ⟨1, 1, [o0], [], 0, 5⟩ := by
  have h : Tb.ObjOk 1 1 (Tb.putObj r0) := by decide +kernel
  unfold Tb.apply
  rw [if_pos (show r0.kind = 1 from rfl), if_pos ⟨h, fun x hx => by cases hx⟩]
  rfl
theorem r0_stripe : Tb.stripe ⟨1, 1, [o0], [], 0, 5⟩ 80 = some ⟨80, 0, [2]⟩ := rfl
theorem r0_fit : Fit r0 := by unfold Fit; decide +kernel
end Go.Proofs.Ytlgdchflegflkaa.Tbl
