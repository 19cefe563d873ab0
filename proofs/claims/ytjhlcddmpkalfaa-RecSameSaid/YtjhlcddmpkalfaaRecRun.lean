/- The document's writer of records' bytes, beside memory that stays: each of its calls. -/
import Derived.Test.YtjhlcddmpkalfaaRecOut2
import Derived.Test.YtjhlcddmpkalfaaRecLen
namespace Go.Proofs.Ytjhlcddmpkalfaa.Rec
set_option linter.unusedVariables false
open Go.ChangeShapes Go.WideShapes Go.ChangeAt Go.RowKit
open Go.Mem RecM
/-- bytes are being written at p; the blocks of S stand as they did in Ws -/
structure Run (S : Nat → Prop) (Ws : World) (p : Nat) (o : Out) (w : World) : Prop where
  ex : ∃ F, ROut w F p o ∧ ∀ b, S b → ¬ F b
  b0 : Below 0 Ws w
  st : ∀ b, S b → b < Ws.heap.size ∧ w.heap[b]? = Ws.heap[b]?
section
variable {S T : Nat → Prop} {Ws W0 w w' : World} {p : Nat} {o o' : Out}
theorem Run.bel (h : Run S Ws p o w) {B : Nat} (hB : ∀ b, b < B → S b) : Below B Ws w := ⟨h.b0.os, h.b0.tape, h.b0.output, h.b0.size, fun b hb => (h.st b (hB b hb)).2⟩
theorem Run.step (hr : Run S Ws p o w) {P : Program} {f : FuncId} {args : Array Value} (hc : ∀ F, ROut w F p o → (∀ b, S b → ¬ F b) → Calls P f args w fun e w' => e = .returned (.tuple #[]) ∧ Wrote F p o' w w') :
    Calls P f args w fun e w' => e = .returned (.tuple #[]) ∧ Run S Ws p o' w' := by
  obtain ⟨F, h1, h2⟩ := hr.ex
  have hr' := hr
  refine (hc F h1 h2).mono fun e w' ⟨he, hw⟩ => ⟨he, ?_⟩
  obtain ⟨_, h3, h4⟩ := hr'
  obtain ⟨F', k1, k2, k3⟩ := hw
  have hz := h3.size
  refine ⟨⟨F', k1, fun b hS hF' => ?_⟩, ⟨k2.os.trans h3.os, k2.tape.trans h3.tape, k2.output.trans h3.output, Nat.le_trans hz k2.size, fun b hb => absurd hb (by omega)⟩, fun b hS => ⟨(h4 b hS).1, ?_⟩⟩
  · rcases k3 b hF' with q | q
    · exact h2 b hS q
    · have := (h4 b hS).1; omega
  · have hb := (h4 b hS).1
    exact (k2.block b (Nat.lt_of_lt_of_le hb hz) (h2 b hS)).trans (h4 b hS).2
theorem Run.num (hr : Run S Ws p o w) (v : Int) (n : Nat) (most : Int) (hv : I64 v) (hn : n ≤ 8) (m0 : 0 ≤ most) (m1 : most ≤ 4294967296) (hl : Fine o.l.length) :
    Calls Try.prog 17 #[.pointer (some ⟨p, 0, none⟩), .int .i64 v, .int .i64 n, .int .i64 most] w fun e w' => e = .returned (.tuple #[]) ∧ Run S Ws p (RecM.num v n most o) w' :=
  hr.step fun F h1 _ => outNum h1 v n most hv hn m0 m1 hl
theorem Run.key (hr : Run S Ws p o w) (s : ByteArray) (hs : KeyOk s) (hl : o.l.length ≤ 1000000) :
    Calls Try.prog 18 #[.pointer (some ⟨p, 0, none⟩), .string s] w fun e w' => e = .returned (.tuple #[]) ∧ Run S Ws p (RecM.key s o) w' :=
  hr.step fun F h1 _ => outKey h1 s hs hl
theorem Run.ints (hr : Run S Ws p o w) (hS : ∀ b, b < W0.heap.size → S b) (h0 : Below W0.heap.size W0 Ws) (l : List Int) (v : Value) (hI : Ints W0 v l) (hl : Fine (o.l.length + 1 + 4 * l.length)) :
    Calls Try.prog 20 #[.pointer (some ⟨p, 0, none⟩), v] w fun e w' => e = .returned (.tuple #[]) ∧ Run S Ws p (RecM.ints l o) w' :=
  hr.step fun F h1 h2 => outInts h1 (fun b hb => Nat.le_of_not_lt fun q => h2 b (hS b q) hb) (h0.trans (hr.bel hS)) l v hI hl
theorem Run.stps (hr : Run S Ws p o w) (hS : ∀ b, b < W0.heap.size → S b) (h0 : Below W0.heap.size W0 Ws) (l : List StpD) (v : Value) (hI : Stps W0 v l) (hl : Fine (o.l.length + 20 + 9 * l.length + 8 * locsSum l)) :
    Calls Try.prog 19 #[.pointer (some ⟨p, 0, none⟩), v] w fun e w' => e = .returned (.tuple #[]) ∧ Run S Ws p (RecM.stps l o) w' :=
  hr.step fun F h1 h2 => outStps h1 (fun b hb => Nat.le_of_not_lt fun q => h2 b (hS b q) hb) (h0.trans (hr.bel hS)) l v hI hl
theorem Run.below (hr : Run S Ws p o w) (hb : Below w.heap.size w w') : Run S Ws p o w' := by
  obtain ⟨⟨F, h1, h2⟩, h3, h4⟩ := hr
  have hz := h3.size
  exact ⟨⟨F, h1.below hb, h2⟩, h3.trans (hb.mono (Nat.zero_le _)), fun b hS => ⟨(h4 b hS).1, (hb.block b (by have := (h4 b hS).1; omega)).trans (h4 b hS).2⟩⟩
/-- a block more that stays: one that is new -/
theorem Run.beside (hr : Run S Ws p o w) (hb : Below w.heap.size w w') {g : Nat} (hg : w.heap.size ≤ g) (hg' : g < w'.heap.size) : Run (fun b => S b ∨ b = g) w' p o w' := by
  obtain ⟨⟨F, h1, h2⟩, h3, h4⟩ := hr
  have hz := h3.size
  have hz2 := hb.size
  refine ⟨⟨F, h1.below hb, fun b hS hF => ?_⟩, Below.refl _ _, fun b hS => ⟨?_, rfl⟩⟩
  · rcases hS with q | q
    · exact h2 b q hF
    · have := h1.lt b hF; omega
  · rcases hS with q | q
    · have := (h4 b q).1; omega
    · omega
theorem Run.back (hr : Run S Ws p o w) (hr2 : Run (fun b => S b ∨ T b) w p o' w') : Run S Ws p o' w' := by
  obtain ⟨_, h3, h4⟩ := hr
  obtain ⟨⟨F, k1, k2⟩, k3, k4⟩ := hr2
  exact ⟨⟨F, k1, fun b hS => k2 b (.inl hS)⟩, h3.trans (k3.mono (Nat.le_refl _)), fun b hS => ⟨(h4 b hS).1, (k4 b (.inl hS)).2.trans (h4 b hS).2⟩⟩
/-- its cells -/
theorem Run.open (hr : Run S Ws p o w) : ∃ A C, w.cell? ⟨p, 0, none⟩ = some (.slice A o.l.length C) ∧ w.cell? ⟨p, 1, none⟩ = some (.bool o.bad) ∧ Bytes w (.slice A o.l.length C) o.l ∧ p < w.heap.size := by
  obtain ⟨⟨F, ⟨v, h⟩, _⟩, _, _⟩ := hr
  obtain ⟨A, C, e, _⟩ := h.row.len
  subst e
  exact ⟨A, C, h.cells.1, h.cells.2, h.row.slice, h.lt p h.fp⟩
/-- a new one -/
theorem Run.fresh (w : World) : Run (fun b => b < w.heap.size) w w.heap.size o0 (w.alloc (.cells #[.slice none 0 0, .bool false] 51)) := by
  have h := World.rowIs_alloc w #[.slice none 0 0, .bool false] 51 (ofld (.slice none 0 0) false) (fun i hi => by
    have : i < 2 := hi
    rcases (by omega : i = 0 ∨ i = 1) with rfl | rfl <;> rfl)
  refine ⟨⟨fun b => b = w.heap.size, ⟨.slice none 0 0, h, Built.start _ _ _, (fun q => by cases q), rfl, (fun b q => by cases q), fun b q => by subst q; simp⟩, fun b hb q => by omega⟩, (Below.refl _ _).alloc (Nat.zero_le _) _, fun b hb => ⟨hb, Go.heap_alloc_old w _ hb⟩⟩
end
end Go.Proofs.Ytjhlcddmpkalfaa.Rec
