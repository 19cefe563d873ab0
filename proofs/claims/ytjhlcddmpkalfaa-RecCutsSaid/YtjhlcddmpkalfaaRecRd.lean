/- The program's own reader of records' bytes: its state in memory; bytes taken; numbers. -/
import Derived.Test.YtjhlcddmpkalfaaRecWr2
import Derived.Test.YtjhlcddmpkalfaaRecRm
import Derived.Test.YtjhlcddmpkalfaaBits
namespace Go.Proofs.Ytjhlcddmpkalfaa.Rec
set_option linter.unusedVariables false
open Go.ChangeShapes Go.WideShapes Go.ChangeAt Go.RowKit
open Go.Mem RecM
/-- b[n:], whatever b is -/
theorem slice_tail (l : List Nat) (A : Option Addr) (L C W : Nat) (hL : l.length = L) (hW : W ≤ L) (hC : L ≤ C) :
    ∃ A' D, (∀ w, (Instr.slice 29 (.slice A L C) (some (.int .i64 (W : Nat))) none none).run Try.prog w = .ok (.slice A' (L - W) D) w) ∧ ∀ w, Bytes w (.slice A L C) l → Bytes w (.slice A' (L - W) D) (l.drop W) := by
  have hsz : ∀ w, (sizeOf 5).run Try.prog w = .ok 1 w := fun w => by kernel_rfl
  refine ⟨if C = W then A else A.map (·.add (W * 1)), C - W, fun w => ?_, fun w h => ?_⟩
  · rw [run_slice_l w 29 A L C Try.underlying29 .i64 (W : Nat) (by omega) (by omega)]
    rw [show Try.prog.elem 29 = 5 from rfl, hsz]
    simp only [Result.andThen, sliced, Int.toNat_natCast]
  · obtain ⟨A1, n1, C1, e1, e2, e3, e4, e5, e6⟩ := h
    cases e1
    refine ⟨_, L - W, C - W, rfl, by rw [List.length_drop]; omega, by omega, by omega, fun hn => ?_, fun i hi => ?_⟩
    · have : A = none := by
        by_cases hc : C = W
        · rw [if_pos hc] at hn; exact hn
        · rw [if_neg hc] at hn; simpa using hn
      have := e5 this
      omega
    · have hi' : W + i < l.length := by rw [List.length_drop] at hi; omega
      obtain ⟨b, o, c, k1, k2, k3⟩ := e6 (W + i) hi'
      refine ⟨b, o + W, c, ?_, by rw [Nat.add_assoc]; exact k2, by rw [List.getElem_drop]; exact k3⟩
      rw [if_neg (by omega), k1, Nat.mul_one]
      unfold Addr.add
      by_cases h0 : W = 0
      · subst h0; rfl
      · simp [h0]
/-- so it is, whatever becomes of the blocks of X -/
def Sure (X : Nat → Prop) (w : World) (P : World → Prop) : Prop := ∀ w', Turned X w w' → P w'
section
variable {X Y : Nat → Prop} {w w' : World} {P Q : World → Prop}
theorem Sure.here (h : Sure X w P) : P w := h w (Turned.refl _ _)
theorem Sure.later (h : Sure X w P) (t : Turned X w w') : Sure X w' P := fun w'' t' => h w'' (t.trans t' (Grown.refl _ _))
theorem Sure.mono (h : Sure X w P) (hP : ∀ w, P w → Q w) : Sure X w Q := fun w' t => hP _ (h w' t)
theorem Sure.less (h : Sure X w P) (hX : ∀ b, Y b → X b) : Sure Y w P := fun w' t => h w' (t.mono hX)
end
theorem bytes_bd {w : World} {v : Value} {l : List Nat} (h : Bytes w v l) : ∀ x ∈ l, x < 256 := by
  intro x hx
  obtain ⟨i, hi, rfl⟩ := List.getElem_of_mem hx
  obtain ⟨_, _, _, _, _, _, _, _, h6⟩ := h
  obtain ⟨_, _, _, _, _, k⟩ := h6 i hi
  exact k.2
/-- bytes that are being read, at p -/
structure RdAt (w : World) (p : Nat) (A : Option Addr) (C : Nat) (l : List Nat) (bad : Bool) : Prop where
  head : w.rowIs p 57 2 (ofld (.slice A l.length C) bad)
  row : Sure (fun b => p ≤ b) w (fun w' => Bytes w' (.slice A l.length C) l)
  lt : p < w.heap.size
def Rd (w : World) (p : Nat) (l : List Nat) (bad : Bool) : Prop := ∃ A C, RdAt w p A C l bad
section
variable {w w' : World} {p : Nat} {A : Option Addr} {C : Nat} {l : List Nat} {bad : Bool}
theorem RdAt.cells (h : RdAt w p A C l bad) : w.cell? ⟨p, 0, none⟩ = some (.slice A l.length C) ∧ w.cell? ⟨p, 1, none⟩ = some (.bool bad) := ⟨h.head.cell (i := 0) (by omega), h.head.cell (i := 1) (by omega)⟩
theorem RdAt.free (h : RdAt w p A C l bad) (i : Nat) : w.frozen? ⟨p, i, none⟩ = false := h.head.frozen i
theorem RdAt.later (h : RdAt w p A C l bad) (t : Turned (fun b => p < b) w w') : RdAt w' p A C l bad :=
  ⟨h.head.of_block (t.block p h.lt (by omega)), h.row.later (t.mono fun b hb => Nat.le_of_lt hb), Nat.lt_of_lt_of_le h.lt t.size⟩
theorem RdAt.below (h : RdAt w p A C l bad) (t : Below w.heap.size w w') : RdAt w' p A C l bad := h.later (Turned.of_below _ t)
theorem Rd.later (h : Rd w p l bad) (t : Turned (fun b => p < b) w w') : Rd w' p l bad := by
  obtain ⟨A, C, h⟩ := h
  exact ⟨A, C, h.later t⟩
theorem Rd.below (h : Rd w p l bad) (t : Below w.heap.size w w') : Rd w' p l bad := h.later (Turned.of_below _ t)
theorem Rd.lt (h : Rd w p l bad) : p < w.heap.size := by
  obtain ⟨A, C, h⟩ := h
  exact h.lt
theorem Rd.bd (h : Rd w p l bad) : ∀ x ∈ l, x < 256 := by
  obtain ⟨A, C, h⟩ := h
  exact bytes_bd h.row.here
theorem RdAt.flag (h : RdAt w p A C l bad) (b : Bool) : RdAt (w.setCell ⟨p, 1, none⟩ (.bool b)) p A C l b ∧ Turned (fun x => x = p) w (w.setCell ⟨p, 1, none⟩ (.bool b)) := by
  refine ⟨⟨(h.head.set 1 (.bool b)).congr fun i hi => ?_, h.row.later (Turned.set _ (Nat.le_refl p)), by simpa [World.setCell] using h.lt⟩, Turned.set _ rfl⟩
  unfold ofld
  rcases (by omega : i = 0 ∨ i = 1) with rfl | rfl <;> rfl
theorem RdAt.move (h : RdAt w p A C l bad) {A' : Option Addr} {C' : Nat} {l' : List Nat} (hs : ∀ w', Bytes w' (.slice A l.length C) l → Bytes w' (.slice A' l'.length C') l') :
    RdAt (w.setCell ⟨p, 0, none⟩ (.slice A' l'.length C')) p A' C' l' bad ∧ Turned (fun x => x = p) w (w.setCell ⟨p, 0, none⟩ (.slice A' l'.length C')) := by
  refine ⟨⟨(h.head.set 0 _).congr fun i hi => ?_, (h.row.mono hs).later (Turned.set _ (Nat.le_refl p)), by simpa [World.setCell] using h.lt⟩, Turned.set _ rfl⟩
  unfold ofld
  rcases (by omega : i = 0 ∨ i = 1) with rfl | rfl <;> rfl
end
set_option maxHeartbeats 1000000 in
theorem takeNo {w : World} {p : Nat} {l : List Nat} {bad : Bool} (h : Rd w p l bad) (n : Nat) (hn : n ≤ 4294967295) (hno : bad = true ∨ l.length < n) :
    Calls Try.prog 51 #[.pointer (some ⟨p, 0, none⟩), .int .i64 n] w fun e w' => e = .returned (.slice none 0 0) ∧ Turned (fun b => b = p) w w' ∧ Rd w' p l true := by
  obtain ⟨A, C, h⟩ := h
  obtain ⟨c0, c1⟩ := h.cells
  have f1 := h.free 1
  obtain ⟨k1, k2⟩ := h.flag true
  have HX := Lib.hid (show Turned (fun b => b = p) w (w.setCell ⟨p, 1, none⟩ (.bool true)) ∧ Rd (w.setCell ⟨p, 1, none⟩ (.bool true)) p l true from ⟨k2, A, C, k1⟩)
  obtain ⟨L, hL⟩ : ∃ L, l.length = L := ⟨_, rfl⟩
  rw [hL] at c0 hno
  clear h k1 k2 hL
  cases bad with
  | true =>
    clear hno
    go_enter Try.func51, Try.ntmps51
    go_wp2
    go_ret
    exact ⟨rfl, HX.out⟩
  | false =>
    have hlt : L < n := by rcases hno with x | x; cases x; exact x
    have hd : decide (L < n) = true := by simpa using hlt
    clear hno
    go_enter Try.func51, Try.ntmps51
    go_wp2
    go_ret
    exact ⟨rfl, HX.out⟩
def TookB (w : World) (p : Nat) (l : List Nat) (n : Nat) (e : Ending) (w' : World) : Prop :=
  ∃ A C, e = .returned (.slice A n C) ∧ Sure (fun b => p ≤ b) w' (fun w' => Bytes w' (.slice A n C) (l.take n)) ∧ Turned (fun b => b = p) w w' ∧ Rd w' p (l.drop n) false
set_option maxHeartbeats 1000000 in
theorem takeYes {w : World} {p : Nat} {l : List Nat} (h : Rd w p l false) (n : Nat) (hn : n ≤ l.length) :
    Calls Try.prog 51 #[.pointer (some ⟨p, 0, none⟩), .int .i64 n] w (TookB w p l n) := by
  obtain ⟨A, C, h⟩ := h
  obtain ⟨c0, c1⟩ := h.cells
  have f0 := h.free 0
  obtain ⟨_, _, es, g1, g2, g3⟩ := h.row.here.shape
  cases es
  obtain ⟨L, hL⟩ : ∃ L, l.length = L := ⟨_, rfl⟩
  obtain ⟨A', D, hsl, hby⟩ := slice_tail l A L C n hL (by omega) (by omega)
  have hm := h.move (A' := A') (C' := D) (l' := l.drop n) (fun w' hb => by rw [List.length_drop, hL]; rw [hL] at hb; exact hby w' hb)
  rw [List.length_drop, hL] at hm
  have HM := Lib.hid hm
  have HT := Lib.hid (show Sure (fun b => p ≤ b) w (fun w' => Bytes w' (.slice A n C) (l.take n)) from h.row.mono fun w' hb => hb.take hn)
  rw [hL] at c0 hn g1
  have hd : decide (L < n) = false := by simpa using hn
  have hd2 : ¬ L < n := by omega
  clear h hm hby hL
  go_enter Try.func51, Try.ntmps51
  go_wp2
  go_ret
  exact ⟨A, C, rfl, HT.out.later (HM.out.2.mono fun b hb => by omega), HM.out.2, _, _, HM.out.1⟩
end Go.Proofs.Ytjhlcddmpkalfaa.Rec
