/- Steps in memory; a text that a builder holds. -/
import Derived.Test.YtegnheonncoodaaDoorScLib
import Derived.Test.YtegnheonncoodaaDoorHsOn
import Derived.Test.YtegnheonncoodaaDoorZeros
import Derived.Test.YtegnheonncoodaaDoorWrites
namespace Go.Proofs.YtegnheonncoodaaDoor.Scr
set_option linter.unusedVariables false
open Go.ChangeShapes Go.WideShapes Go.ChangeAt Go.RowKit
open Go.Mem Sc
abbrev TStep : Nat := 35
abbrev TBld : Nat := 39
def nums (l : List UInt8) : List Nat := l.map UInt8.toNat
theorem nums_len (l : List UInt8) : (nums l).length = l.length := by simp [nums]
theorem nums_lt (l : List UInt8) : ∀ x ∈ nums l, x < 256 := by
  intro x hx
  obtain ⟨y, _, rfl⟩ := List.mem_map.1 hx
  exact y.toNat_lt
theorem nums_inj {l m : List UInt8} (h : nums l = nums m) : l = m := by
  unfold nums at h
  exact List.map_inj_right (fun a b e => UInt8.toNat_inj.1 e) |>.1 h
theorem nums_of {l : List Nat} (h : ∀ x ∈ l, x < 256) : ∃ m : List UInt8, nums m = l := by
  refine ⟨l.map UInt8.ofNat, ?_⟩
  unfold nums
  rw [List.map_map]
  conv => rhs; rw [← List.map_id l]
  refine List.map_congr_left fun x hx => ?_
  have := h x hx
  simp only [Function.comp, id]
  rw [UInt8.toNat_ofNat']
  omega
/-- a step's five cells -/
structure StepR (w : World) (f : Nat → Value) (x : SD) : Prop where
  r0 : f 0 = .int .i64 x.kind
  r1 : f 1 = .int .i64 x.a
  r2 : f 2 = .string (str x.key)
  r3 : Bytes w (f 3) (nums x.data)
  r4 : f 4 = .int .u64 (x.keep : Nat)
  ok : x.Ok
theorem StepR.below {w w' : World} {f : Nat → Value} {x : SD} (h : StepR w f x) (hb : Below w.heap.size w w') : StepR w' f x := ⟨h.r0, h.r1, h.r2, h.r3.below hb, h.r4, h.ok⟩
def Steps (w : World) (v : Value) (l : List SD) : Prop := Cells 5 StepR w v l
theorem Steps.below {w w' : World} {v : Value} {l : List SD} (h : Steps w v l) (hb : Below w.heap.size w w') : Steps w' v l := Cells.mono h (below_cell hb) (fun _ _ h => StepR.below h hb)
theorem Steps.shape {w : World} {v : Value} {l : List SD} (h : Steps w v l) : ∃ A C, v = .slice A l.length C ∧ l.length ≤ C ∧ C ≤ 9223372036854775807 ∧ (A = none → C = 0) := Cells.shape h
theorem Steps.nil (w : World) : Steps w (.slice none 0 0) [] := Cells.nil _ _ _
/-- the five cells of element i -/
theorem Steps.at {w : World} {A : Option Addr} {n C : Nat} {L : List SD} (h : Steps w (.slice A n C) L) {i : Nat} (hi : i < L.length) :
    ∃ b o A' C', A = some ⟨b, o, none⟩ ∧ w.cell? ⟨b, o + i * 5, none⟩ = some (.int .i64 L[i].kind) ∧ w.cell? ⟨b, o + i * 5 + 1, none⟩ = some (.int .i64 L[i].a) ∧
      w.cell? ⟨b, o + i * 5 + 2, none⟩ = some (.string (str L[i].key)) ∧ w.cell? ⟨b, o + i * 5 + 3, none⟩ = some (.slice A' L[i].data.length C') ∧ w.cell? ⟨b, o + i * 5 + 4, none⟩ = some (.int .u64 (L[i].keep : Nat)) ∧
      Bytes w (.slice A' L[i].data.length C') (nums L[i].data) ∧ L[i].Ok := by
  obtain ⟨A1, n1, C1, h1, _, _, _, _, h6⟩ := h
  cases h1
  obtain ⟨b, o, f, e, hc, q⟩ := h6 i hi
  obtain ⟨A', C', e2, _⟩ := q.r3.shape
  rw [nums_len] at e2
  have c0 := hc 0 (by omega)
  have c1 := hc 1 (by omega)
  have c2 := hc 2 (by omega)
  have c3 := hc 3 (by omega)
  have c4 := hc 4 (by omega)
  have r3 := q.r3
  rw [q.r0, Nat.add_zero] at c0
  rw [q.r1] at c1
  rw [q.r2] at c2
  rw [e2] at c3 r3
  rw [q.r4] at c4
  exact ⟨b, o, A', C', e, c0, c1, c2, c3, c4, r3, q.ok⟩
/-- a step, by value -/
def stepVal (x : SD) (A : Option Addr) (C : Nat) : Value := .agg #[.int .i64 x.kind, .int .i64 x.a, .string (str x.key), .slice A x.data.length C, .int .u64 (x.keep : Nat)]
/-! builders -/
def Bld (B b : Nat) (l : List UInt8) (w : World) : Prop := Lib.IsBuilder 39 5 B b (Lib.byteCells l) w
theorem Bld.start (w : World) (B : Nat) (hB : B ≤ w.heap.size) : Bld B w.heap.size [] (w.alloc (.cells #[.pointer none, .slice none 0 0] TBld)) := by
  refine .inl ⟨hB, .slice none 0 0, ?_, World.ownsRow_nil _ _ _ _, fun h => by cases h⟩
  unfold World.alloc; simp
theorem strCells_eq (l : List UInt8) : Lib.strCells (str l) = Lib.byteCells l := rfl
theorem byteCells_append (l m : List UInt8) : Lib.byteCells l ++ Lib.byteCells m = Lib.byteCells (l ++ m) := by simp [Lib.byteCells]
theorem byteCells_len (l : List UInt8) : (Lib.byteCells l).length = l.length := by simp [Lib.byteCells]
theorem Bld.lt {B b : Nat} {l : List UInt8} {w : World} (h : Bld B b l w) : b < w.heap.size := by
  rcases h with h | h
  · exact h.lt
  · exact h.lt
theorem Bld.below {B b : Nat} {l : List UInt8} {w w' : World} (h : Bld B b l w) (hb : Below w.heap.size w w') : Bld B b l w' := by
  have key : ∀ p, Lib.BuilderAt 39 5 B b p (Lib.byteCells l) w → Lib.BuilderAt 39 5 B b p (Lib.byteCells l) w' := by
    rintro p ⟨h1, v, h2, h3, h4⟩
    refine ⟨h1, v, (hb.block b (Array.getElem?_eq_some_iff.1 h2).1).trans h2, ?_, h4⟩
    exact h3.kept (row := none) (grown_of_below hb) (by rcases hv : v.ownBlock with _ | k <;> simp)
  exact h.imp (key _) (key _)
theorem bldStrC (B b : Nat) (l m : List UInt8) (w : World) (h : Bld B b l w) (hl : l.length + m.length ≤ 140737488355328) (hB : B ≤ w.heap.size) :
    Calls Tryd.prog 13 #[.pointer (some ⟨b, 0, none⟩), .string (str m)] w fun e w' => e = .returned (.tuple #[.int .i64 (m.length : Nat), .nilIface]) ∧ Bld B b (l ++ m) w' ∧ Below B w w' := by
  have := Any.Builder_WriteString (ρ := Tryd.lays156_ren) { Tryd.lays156 with } Tryd.Builder_Extra_156 B b (Lib.byteCells l) (str m) w h (by rw [byteCells_len, str_size]; exact hl) hB
  refine this.mono ?_
  rintro e w' ⟨rfl, h1, h2⟩
  refine ⟨by rw [str_size], .inr ?_, h2⟩
  rw [strCells_eq, byteCells_append] at h1
  exact h1
def ren167 : Go.Shelf.Ren := ⟨fun | 167 => 36 | 240 => 21 | 276 => 32 | n => n, fun n => Tryd.lays156_ren.t n, fun n => n⟩
theorem lays167 : Lays.n167 Tryd.prog ren167 := {
  mixed := by kernel_rfl
  f167 := Tryd.func36.trans (congrArg some (by kernel_rfl))
  f240 := Tryd.func21.trans (congrArg some (by kernel_rfl))
  f276 := Tryd.func32.trans (congrArg some (by kernel_rfl))
  t0 := Tryd.lays156.t0
  a0 := Tryd.lays156.a0
  z0 := Tryd.lays156.z0
  v0 := Tryd.lays156.v0
  t4 := Tryd.lays156.t4
  a4 := Tryd.lays156.a4
  z4 := Tryd.lays156.z4
  v4 := Tryd.lays156.v4
  t5 := Tryd.Builder_Extra_156.t5
  a5 := Tryd.Builder_Extra_156.a5
  z5 := Tryd.Builder_Extra_156.z5
  v5 := Tryd.Builder_Extra_156.v5
  t9 := Tryd.lays156.t9
  a9 := Tryd.lays156.a9
  z9 := Tryd.lays156.z9
  v9 := Tryd.lays156.v9
  t20 := Tryd.lays156.t20
  a20 := Tryd.lays156.a20
  z20 := Tryd.lays156.z20
  v20 := Tryd.lays156.v20
  t37 := Tryd.lays156.t37
  a37 := Tryd.lays156.a37
  z37 := Tryd.lays156.z37
  v37 := Tryd.lays156.v37
  t70 := Tryd.lays156.t70
  a70 := Tryd.lays156.a70
  z70 := Tryd.lays156.z70
  v70 := Tryd.lays156.v70
  t72 := Tryd.lays156.t72
  a72 := Tryd.lays156.a72
  z72 := Tryd.lays156.z72
  v72 := Tryd.lays156.v72
  t75 := Tryd.lays156.t75
  a75 := Tryd.lays156.a75
  z75 := Tryd.lays156.z75
  v75 := Tryd.lays156.v75
  t164 := Tryd.lays156.t164
  a164 := Tryd.lays156.a164
  z164 := Tryd.lays156.z164
  v164 := Tryd.lays156.v164 }
theorem extra167 : Builder.Extra Tryd.prog ren167 := { Tryd.Builder_Extra_156 with }
theorem bldByteC (B b : Nat) (l : List UInt8) (c : UInt8) (w : World) (h : Bld B b l w) (hl : l.length + 1 ≤ 140737488355328) (hB : B ≤ w.heap.size) :
    Calls Tryd.prog 36 #[.pointer (some ⟨b, 0, none⟩), .int .u8 (c.toNat : Nat)] w fun e w' => e = .returned .nilIface ∧ Bld B b (l ++ [c]) w' ∧ Below B w w' := by
  have := Any.Builder_WriteByte (ρ := ren167) lays167 extra167 B b (Lib.byteCells l) (c.toNat : Nat) w h (by rw [byteCells_len]; exact hl) hB
  refine this.mono ?_
  rintro e w' ⟨rfl, h1, h2⟩
  refine ⟨rfl, .inr ?_, h2⟩
  rw [show [Value.int .u8 (c.toNat : Nat)] = Lib.byteCells [c] from rfl, byteCells_append] at h1
  exact h1
theorem bldEndC (B b : Nat) (l : List UInt8) (w : World) (h : Bld B b l w) (hB : B ≤ w.heap.size) :
    Calls Tryd.prog 15 #[.pointer (some ⟨b, 0, none⟩)] w fun e w' => e = .returned (.string (str l)) ∧ Below B w w' :=
  Tryd.Builder_String_any B b l w h hB
end Go.Proofs.YtegnheonncoodaaDoor.Scr
