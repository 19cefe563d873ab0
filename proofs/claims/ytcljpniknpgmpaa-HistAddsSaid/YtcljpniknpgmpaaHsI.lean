/- What the laws of layer 21 ask of the program's histories: their calls' contracts, over whatever stands for a history in memory. -/
import Derived.Test.YtcljpniknpgmpaaRows
import Derived.Test.YtcljpniknpgmpaaHsMath
import Derived.Test.YtcljpniknpgmpaaWrites
namespace Go.Proofs.Ytcljpniknpgmpaa.Hst
set_option linter.unusedVariables false
open Go.ChangeShapes Go.WideShapes Go.ChangeAt Go.RowKit
open Go.Mem Hs
abbrev TCall : Nat := 40
abbrev TStep : Nat := 31
abbrev TAns : Nat := 35
abbrev THist : Nat := 50
def stepVal (x : StepD) (A : Option Addr) (C : Nat) : Value := .agg #[.int .i64 x.kind, .int .i64 x.a, .string x.key, .slice A x.data.length C, .int .u64 x.keep]
def ansVal (a : AnsD) (A : Option Addr) (C : Nat) (As : Option Addr) (Cs : Nat) : Value := .agg #[.int .i64 a.e, .int .i64 a.task, .bool a.done, .int .i64 a.mark, .slice A a.data.length C, .slice As a.keys.length Cs]
def StepV (w : World) (V : Value) (x : StepD) : Prop := ∃ A C, V = stepVal x A C ∧ Bytes w (.slice A x.data.length C) x.data ∧ I64 x.kind ∧ I64 x.a
def AnsV (w : World) (V : Value) (a : AnsD) : Prop := ∃ A C As Cs, V = ansVal a A C As Cs ∧ Bytes w (.slice A a.data.length C) a.data ∧ Strs w (.slice As a.keys.length Cs) a.keys ∧ I64 a.e ∧ I64 a.task ∧ I64 a.mark
theorem StepV.below {w w' : World} {V : Value} {x : StepD} (h : StepV w V x) (hb : Below w.heap.size w w') : StepV w' V x := by
  obtain ⟨A, C, e, h1, h2⟩ := h
  exact ⟨A, C, e, h1.below hb, h2⟩
theorem AnsV.below {w w' : World} {V : Value} {a : AnsD} (h : AnsV w V a) (hb : Below w.heap.size w w') : AnsV w' V a := by
  obtain ⟨A, C, As, Cs, e, h1, h2, h3⟩ := h
  exact ⟨A, C, As, Cs, e, h1.below hb, h2.below hb, h3⟩
structure CallP (c : CallD) : Prop where
  task : I64 c.task
  op : I64 c.op
  fr : I64 c.fr
  to : I64 c.to
  mo : I64 c.mo
  e : I64 c.e
  data : c.data.length ≤ 200
  out : c.out.length ≤ 200
  keys : c.keys.length ≤ 50
structure CallR (w : World) (f : Nat → Value) (c : CallD) : Prop where
  r0 : f 0 = .int .i64 c.task
  r1 : f 1 = .int .i64 c.op
  r2 : f 2 = .string c.key
  r3 : Bytes w (f 3) c.data
  r4 : f 4 = .int .i64 c.fr
  r5 : f 5 = .int .i64 c.to
  r6 : f 6 = .int .i64 c.mo
  r7 : f 7 = .int .i64 c.e
  r8 : Bytes w (f 8) c.out
  r9 : Strs w (f 9) c.keys
  ok : CallP c
/-- .. whose data may be written -/
def CallW (w : World) (f : Nat → Value) (c : CallD) : Prop := CallR w f c ∧ ∀ b o n C, f 3 = .slice (some ⟨b, o, none⟩) n C → ∀ i, w.frozen? ⟨b, i, none⟩ = false
abbrev Thing := World → (Nat → Prop) → Nat → St → Prop
/-- the history is as st behind a call -/
def Does (PD : Thing) (F : Nat → Prop) (p : Nat) (st : St) (w w' : World) : Prop := ∃ F', PD w' F' p st ∧ Turned F w w' ∧ Grown F F' w
/-- what is told is memory of its own -/
def Own (w w' : World) (P : World → Prop) : Prop := Sure (fun b => b < w.heap.size) w' P ∧ Below w.heap.size w w'
def Few (s : St) : Prop := s.calls.length ≤ 1000 ∧ s.mom ≤ 1000
/-- as much as the laws hand in -/
def Fit (x : StepD) (a : AnsD) : Prop := x.data.length ≤ 200 ∧ a.data.length ≤ 200 ∧ a.keys.length ≤ 50
structure HsI (PD : Thing) : Prop where
  turned : ∀ {w w' : World} {F G : Nat → Prop} {p : Nat} {s : St}, PD w F p s → Turned G w w' → (∀ b, G b → ¬ F b) → PD w' F p s
  lt : ∀ {w : World} {F : Nat → Prop} {p : Nat} {s : St}, PD w F p s → ∀ b, F b → b < w.heap.size
  uniq : ∀ {w : World} {F : Nat → Prop} {p : Nat} {s : St}, PD w F p s → s.Uniq
  new : ∀ (w : World), Calls Try.prog 8 #[] w fun e w' => ∃ F p, e = .returned (.pointer (some ⟨p, 0, none⟩)) ∧ PD w' F p Hs.zero ∧ (∀ b, F b → w.heap.size ≤ b) ∧ Below w.heap.size w w'
  add : ∀ {w : World} {F : Nat → Prop} {p : Nat} {s : St}, PD w F p s → Few s → ∀ (x : StepD) (a : AnsD) (X A : Value), Sure F w (fun w' => StepV w' X x) → Sure F w (fun w' => AnsV w' A a) → Fit x a →
    Calls Try.prog 9 #[.pointer (some ⟨p, 0, none⟩), X, A] w fun e w' => e = .returned (.tuple #[]) ∧ Does PD F p (s.add x a) w w'
  calls : ∀ {w : World} {F : Nat → Prop} {p : Nat} {s : St}, PD w F p s → Few s →
    Calls Try.prog 11 #[.pointer (some ⟨p, 0, none⟩)] w fun e w' => ∃ V, e = .returned V ∧ Own w w' (fun w'' => Cells 10 CallW w'' V s.calls)
/-- .. and of a history that is none -/
structure NoHist : Prop where
  add : ∀ (w : World) (x : StepD) (a : AnsD) (X A : Value), StepV w X x → AnsV w A a → Calls Try.prog 9 #[.pointer none, X, A] w fun e w' => e = .returned (.tuple #[]) ∧ Below w.heap.size w w'
  calls : ∀ (w : World), Calls Try.prog 11 #[.pointer none] w fun e w' => e = .returned (.slice none 0 0) ∧ w = w'
end Go.Proofs.Ytcljpniknpgmpaa.Hst
