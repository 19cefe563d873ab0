/- The program's small functions: its sides, whether it works, what power is left, what of a change is kept, and a change done to bytes. -/
import Derived.Test.YtndponihilfidaaPtMem
import Derived.Test.YtndponihilfidaaTpI
import Derived.Test.YtndponihilfidaaAppSrc
import Derived.Deep.RegionHeld3
import Derived.Deep.RegionLaw
import Derived.Deep.LoopGhost
import Derived.Deep.Cut
import Derived.Lib.SliceRun
namespace Go.Proofs.Ytndponihilfidaa.Tape
set_option linter.unusedVariables false
open Go.ChangeShapes Go.WideShapes Go.ChangeAt Go.RowKit
open Go.Mem Tp
abbrev PT : Nat := 54
abbrev PU : Nat := 5
abbrev PAt (w : World) (G : Nat → Prop) (r : Nat) (V : Nat → Value) (t : Ts) : Prop := PtAt PT PU w G r V t
/-- the program's tapes: of what the document's are made of, what they hold themselves -/
def PD (w : World) (F : Nat → Prop) (p : Nat) (s : St) : Prop := s.fuse ≤ 9223372036854775807 ∧ ∃ V, PAt w F p V s.ts
theorem PD.turned {w w' : World} {F G : Nat → Prop} {p : Nat} {s : St} (h : PD w F p s) (ht : Turned G w w') (hd : ∀ b, G b → ¬ F b) : PD w' F p s := by
  obtain ⟨h1, V, h2⟩ := h
  exact ⟨h1, V, h2.turned ht hd⟩
theorem PD.lt {w : World} {F : Nat → Prop} {p : Nat} {s : St} (h : PD w F p s) : ∀ b, F b → b < w.heap.size := by
  obtain ⟨h1, V, h2⟩ := h
  exact h2.lt
theorem cloneC (l : List Nat) (v : Value) (w : World) (h : Bytes w v l) (hl : l.length ≤ 4000000) :
    Calls Try.prog 24 #[v] w fun e w' => ∃ u, e = .returned u ∧ Built ByteR w' w.heap.size PU u l ∧ Below w.heap.size w w' := by
  obtain ⟨A, C, rfl, h1, h2, h3⟩ := h.shape
  have hne := Lib.run_eql_slice_nil (P := Try.prog)
  rcases A with _ | ad
  · have hC := h3 rfl
    have hl0 : l = [] := List.length_eq_zero_iff.1 (by omega)
    subst hl0
    subst hC
    go_enter Try.func24, Try.ntmps24
    go_wp2_with fail
    go_ret
    exact ⟨_, rfl, Built.start _ _ _, Below.refl _ _⟩
  · have hal : Below w.heap.size w (w.alloc (.cells #[] 5)) := (Below.refl _ _).alloc (Nat.le_refl _) _
    have HB := Lib.hid (built_none (R := ByteR) (t := 5) w (Nat.le_refl _))
    have HL := Lib.hid (h.below hal)
    have HA := Lib.hid hal
    have HLL := Lib.hid hl
    clear hal h hl
    go_enter Try.func24, Try.ntmps24
    go_wp2_with (at_builtin; refine wpList_append_src _ rfl (.tmp 5) (.tmp 6) 27 27 rfl w.heap.size 5 Try.underlying27 infoByte _ _ rfl HB.out _ _ rfl (BSrc.ofBytes Try.underlying27 HL.out) (by have := HLL.out; simp; omega) (by simp) ?_; intro v' w' hbu' hg' hb' hat')
    go_ret
    exact ⟨_, rfl, hbu', HA.out.trans hb'⟩
theorem side_yes0 (w : World) (p : Nat) : Calls Try.prog 23 #[.pointer (some ⟨p, 0, none⟩), .int .i64 0] w fun e w' => e = .returned (.pointer (some ⟨p, 0, none⟩)) ∧ w = w' := by
  go_enter Try.func23, Try.ntmps23
  go_wp2
  go_ret
  exact ⟨rfl, rfl⟩
theorem side_yes1 (w : World) (p : Nat) : Calls Try.prog 23 #[.pointer (some ⟨p, 0, none⟩), .int .i64 1] w fun e w' => e = .returned (.pointer (some ⟨p, 4, none⟩)) ∧ w = w' := by
  go_enter Try.func23, Try.ntmps23
  go_wp2
  go_ret
  exact ⟨rfl, rfl⟩
theorem side_no (w : World) (p : Nat) (i : Int) (hi : i < 0 ∨ 1 < i) : Calls Try.prog 23 #[.pointer (some ⟨p, 0, none⟩), .int .i64 i] w fun e w' => e = .returned (.pointer none) ∧ w = w' := by
  rcases hi with hi | hi
  · have h2 : ¬ 2 ≤ i := by omega
    go_enter Try.func23, Try.ntmps23
    go_wp2
    go_ret
    exact ⟨rfl, rfl⟩
  · have h1 : ¬ i < 0 := by omega
    have h2 : 2 ≤ i := by omega
    go_enter Try.func23, Try.ntmps23
    go_wp2
    go_ret
    exact ⟨rfl, rfl⟩
theorem side_none (w : World) (i : Int) : Calls Try.prog 23 #[.pointer none, .int .i64 i] w fun e w' => e = .returned (.pointer none) ∧ w = w' := by
  go_enter Try.func23, Try.ntmps23
  go_wp2
  go_ret
  exact ⟨rfl, rfl⟩
theorem works_none (w : World) : Calls Try.prog 25 #[.pointer none] w fun e w' => e = .returned (.int .i64 1) ∧ w = w' := by
  go_enter Try.func25, Try.ntmps25
  go_wp2
  go_ret
  exact ⟨rfl, rfl⟩
def worksE (t : Ts) : Int := if t.d = true then 9 else if t.x0 = true ∧ t.x1 = true then 8 else 0
theorem worksC {w : World} {G : Nat → Prop} {r : Nat} {V : Nat → Value} {t : Ts} (h : PAt w G r V t) : Calls Try.prog 25 #[.pointer (some ⟨r, 0, none⟩)] w fun e w' => e = .returned (.int .i64 (worksE t)) ∧ w = w' := by
  have c3 : w.cell? ⟨r, 3, none⟩ = some (.bool t.x0) := h.cell (i := 3) (by omega)
  have c7 : w.cell? ⟨r, 7, none⟩ = some (.bool t.x1) := h.cell (i := 7) (by omega)
  have c10 : w.cell? ⟨r, 10, none⟩ = some (.bool t.d) := h.cell (i := 10) (by omega)
  obtain ⟨l0, b0, w0, x0, l1, b1, w1, x1, f, n, d⟩ := t
  have c3 : w.cell? ⟨r, 3, none⟩ = some (.bool x0) := c3
  have c7 : w.cell? ⟨r, 7, none⟩ = some (.bool x1) := c7
  have c10 : w.cell? ⟨r, 10, none⟩ = some (.bool d) := c10
  clear h
  cases d <;> cases x0 <;> cases x1
  all_goals
    go_enter Try.func25, Try.ntmps25
    go_wp2
    go_ret
    exact ⟨rfl, rfl⟩
theorem spend_free {w : World} {G : Nat → Prop} {r : Nat} {V : Nat → Value} {t : Ts} (h : PAt w G r V t) (hf : t.f = false) : Calls Try.prog 26 #[.pointer (some ⟨r, 0, none⟩)] w fun e w' => e = .returned (.bool true) ∧ w = w' := by
  have c8 : w.cell? ⟨r, 8, none⟩ = some (.bool t.f) := h.cell (i := 8) (by omega)
  rw [hf] at c8
  clear h hf
  go_enter Try.func26, Try.ntmps26
  go_wp2
  go_ret
  exact ⟨rfl, rfl⟩
theorem spend_out {w : World} {G : Nat → Prop} {r : Nat} {V : Nat → Value} {t : Ts} (h : PAt w G r V t) (hf : t.f = true) (hn : t.n = 0) : Calls Try.prog 26 #[.pointer (some ⟨r, 0, none⟩)] w fun e w' => e = .returned (.bool false) ∧ w.setCell ⟨r, 10, none⟩ (.bool true) = w' := by
  have c8 : w.cell? ⟨r, 8, none⟩ = some (.bool t.f) := h.cell (i := 8) (by omega)
  have c9 : w.cell? ⟨r, 9, none⟩ = some (.int .i64 t.n) := h.cell (i := 9) (by omega)
  have c10 : w.cell? ⟨r, 10, none⟩ = some (.bool t.d) := h.cell (i := 10) (by omega)
  have f10 := h.free 10
  rw [hf] at c8
  rw [hn] at c9
  clear h hf hn
  go_enter Try.func26, Try.ntmps26
  go_wp2
  go_ret
  exact ⟨rfl, rfl⟩
theorem spend_one {w : World} {G : Nat → Prop} {r : Nat} {V : Nat → Value} {t : Ts} (h : PAt w G r V t) (hf : t.f = true) (n : Int) (hn : t.n = n) (h1 : 0 < n) (h2 : n ≤ 9223372036854775807) : Calls Try.prog 26 #[.pointer (some ⟨r, 0, none⟩)] w fun e w' => e = .returned (.bool true) ∧ w.setCell ⟨r, 9, none⟩ (.int .i64 (n - 1)) = w' := by
  have c8 : w.cell? ⟨r, 8, none⟩ = some (.bool t.f) := h.cell (i := 8) (by omega)
  have c9 : w.cell? ⟨r, 9, none⟩ = some (.int .i64 t.n) := h.cell (i := 9) (by omega)
  have f9 := h.free 9
  rw [hf] at c8
  rw [hn] at c9
  have h0 : (n == 0) = false := by rw [beq_eq_false_iff_ne]; omega
  clear h hf hn
  go_enter Try.func26, Try.ntmps26
  go_wp2
  go_ret
  exact ⟨rfl, rfl⟩
end Go.Proofs.Ytndponihilfidaa.Tape
