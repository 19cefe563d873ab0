/- The document's table in memory: a block of six cells, a row of objects of its own, and parts in blocks K; what it tells. -/
import Derived.Test.YtlgdchflegflkaaTbCopy
import Derived.StillTailTactics
namespace Go.Proofs.Ytlgdchflegflkaa.Tbl
set_option linter.unusedVariables false
open Go.ChangeShapes Go.WideShapes Go.ChangeAt Go.RowKit
open Go.Mem RecM
abbrev TTab : Nat := 31
def rc (t : Tb.TabD) (V S : Value) : Nat → Value
  | 0 => .int .i64 t.k | 1 => .int .i64 (t.n - t.k) | 2 => V | 3 => S | 4 => .int .i64 t.epoch | _ => .int .i64 t.last
structure RTAt (w : World) (G K : Nat → Prop) (r : Nat) (V S : Value) (t : Tb.TabD) : Prop where
  head : w.rowIs r TTab 6 (rc t V S)
  objs : BuiltX 4 ObjR K w TObj V t.objs
  sts : On K w (fun w' => Ints w' S t.states)
  gr : G r
  gk : ∀ b, K b → G b ∧ b ≠ r
  gv : ∀ b, V.ownBlock = some b → G b ∧ b ≠ r
  lt : ∀ b, G b → b < w.heap.size
  k0 : 1 ≤ t.k
  k1 : t.k ≤ 1000
  m0 : 0 ≤ t.n - t.k
  m1 : t.n - t.k ≤ 1000
def RT (w : World) (G : Nat → Prop) (r : Nat) (t : Tb.TabD) : Prop := ∃ K V S, RTAt w G K r V S t
section
variable {w w' : World} {G K F : Nat → Prop} {r : Nat} {V S : Value} {t : Tb.TabD}
theorem RTAt.turned (h : RTAt w G K r V S t) (ht : Turned F w w') (hF : ∀ b, F b → ¬ G b) : RTAt w' G K r V S t :=
  ⟨h.head.of_block (ht.block r (h.lt r h.gr) (fun q => hF r q h.gr)), h.objs.turned ht (fun b q => ⟨fun z => hF b q (h.gk b z).1, fun z => hF b q (h.gv b z).1⟩), h.sts.turned ht (fun b q z => hF b q (h.gk b z).1), h.gr, h.gk, h.gv, fun b q => Nat.lt_of_lt_of_le (h.lt b q) ht.size, h.k0, h.k1, h.m0, h.m1⟩
theorem RT.turned (h : RT w G r t) (ht : Turned F w w') (hF : ∀ b, F b → ¬ G b) : RT w' G r t := by
  obtain ⟨K, V, S, h⟩ := h
  exact ⟨K, V, S, h.turned ht hF⟩
theorem RTAt.below (h : RTAt w G K r V S t) (hb : Below w.heap.size w w') : RTAt w' G K r V S t := h.turned (Turned.of_below (fun _ => False) hb) (fun _ q => q.elim)
theorem RT.below (h : RT w G r t) (hb : Below w.heap.size w w') : RT w' G r t := h.turned (Turned.of_below (fun _ => False) hb) (fun _ q => q.elim)
theorem RT.lt (h : RT w G r t) : ∀ b, G b → b < w.heap.size := by
  obtain ⟨K, V, S, h⟩ := h
  exact h.lt
theorem RTAt.cell (h : RTAt w G K r V S t) {i : Nat} (hi : i < 6) : w.cell? ⟨r, i, none⟩ = some (rc t V S i) := h.head.cell hi
theorem RTAt.free (h : RTAt w G K r V S t) (i : Nat) : w.frozen? ⟨r, i, none⟩ = false := h.head.frozen i
end
/-- what an object reads as, in four cells -/
theorem Objs.val {w : World} {A : Option Addr} {n C : Nat} {L : List ObjD} (h : Objs w (.slice A n C) L) {i : Nat} (hi : i < L.length) :
    ∃ b o A' C', A = some ⟨b, o, none⟩ ∧ w.cell? ⟨b, o + i * 4, none⟩ = some (.string L[i].key) ∧ w.cell? ⟨b, o + i * 4 + 1, none⟩ = some (.int .i64 L[i].id) ∧ w.cell? ⟨b, o + i * 4 + 2, none⟩ = some (.int .i64 L[i].size) ∧
      w.cell? ⟨b, o + i * 4 + 3, none⟩ = some (.slice A' L[i].stripes.length C') ∧ ObjIs w (.agg #[.string L[i].key, .int .i64 L[i].id, .int .i64 L[i].size, .slice A' L[i].stripes.length C']) L[i] := by
  obtain ⟨A1, n1, C1, h1, _, _, _, _, h6⟩ := h
  cases h1
  obtain ⟨b, o, f, e, hc, f0, f1, f2, f3, q⟩ := h6 i hi
  obtain ⟨A', C', e3, -⟩ := f3.shape
  have c0 := hc 0 (by omega)
  have c1 := hc 1 (by omega)
  have c2 := hc 2 (by omega)
  have c3 := hc 3 (by omega)
  rw [f0, Nat.add_zero] at c0
  rw [f1] at c1
  rw [f2] at c2
  rw [e3] at c3 f3
  exact ⟨b, o, A', C', e, c0, c1, c2, c3, A', C', rfl, f3, q⟩
set_option maxRecDepth 100000 in
set_option maxHeartbeats 4000000 in
theorem refAllC {w : World} {G : Nat → Prop} {r : Nat} {t : Tb.TabD} (h : RT w G r t) (hl : t.objs.length ≤ 1000) (hi : I64 t.last) (he : I64 t.epoch) (hs : t.states.length ≤ 1000) :
    Calls Try.prog 34 #[.pointer (some ⟨r, 0, none⟩)] w fun e w' => ∃ V, e = .returned V ∧ RecV w' V (Tb.allRec t) ∧ Below w.heap.size w w' := by
  obtain ⟨K, V, S, h⟩ := h
  have c2 : w.cell? ⟨r, 2, none⟩ = some V := h.cell (i := 2) (by omega)
  have c3 : w.cell? ⟨r, 3, none⟩ = some S := h.cell (i := 3) (by omega)
  have c4 : w.cell? ⟨r, 4, none⟩ = some (.int .i64 t.epoch) := h.cell (i := 4) (by omega)
  have c5 : w.cell? ⟨r, 5, none⟩ = some (.int .i64 t.last) := h.cell (i := 5) (by omega)
  obtain ⟨AV, CV, rfl, gv1, gv2, -⟩ := h.objs.len
  obtain ⟨AS, CS, rfl, gs1, gs2, -⟩ := h.sts.here.shape
  obtain ⟨w1, hw1⟩ : ∃ w1, w1 = w.alloc (.cells #[.int .i64 0, .int .i64 0, .int .i64 0, .string ⟨#[]⟩, .slice none 0 0, .slice none 0 0, .slice none 0 0] 36) := ⟨_, rfl⟩
  have hx : Below w.heap.size w w1 := by rw [hw1]; exact (Below.refl _ _).alloc (Nat.le_refl _) _
  have hrow : w1.rowIs w.heap.size 36 7 (fun i => #[Value.int .i64 0, .int .i64 0, .int .i64 0, .string ⟨#[]⟩, .slice none 0 0, .slice none 0 0, .slice none 0 0].getD i undef) := by rw [hw1]; exact row_of w _ _
  have d2 := below_cell hx _ _ c2
  have d3 := below_cell hx _ _ c3
  have d4 := below_cell hx _ _ c4
  have d5 := below_cell hx _ _ c5
  have HO := Lib.hid (fun (w' : World) (q : Below w.heap.size w w') => (show RecV w' (.agg #[.int .i64 5, .int .i64 t.last, .int .i64 t.epoch, .string ⟨#[]⟩, .slice none 0 0, .slice AV t.objs.length CV, .slice AS t.states.length CS]) (Tb.allRec t) from
    ⟨none, AV, AS, 0, CV, CS, rfl, Cells.nil _ _ _, (h.below q).objs.cells, (h.below q).sts.here, (show I64 5 by unfold I64; decide), hi, he, (show KeyOk ⟨#[]⟩ by unfold KeyOk; decide), (show LenOk 0 by unfold LenOk; decide), (show LenOk t.objs.length by unfold LenOk; omega), (show LenOk t.states.length by unfold LenOk; omega)⟩))
  obtain ⟨B, hB⟩ : ∃ B, w.heap.size = B := ⟨_, rfl⟩
  have hrB : r < B := hB ▸ h.lt r h.gr
  have HBE := Lib.hid hB
  have HX := Lib.hid hx
  have HW1 := Lib.hid hw1
  rw [hB] at hrow
  have y0 := hrow.cell (i := 0) (by omega)
  have y1 := hrow.cell (i := 1) (by omega)
  have y2 := hrow.cell (i := 2) (by omega)
  have y3 := hrow.cell (i := 3) (by omega)
  have y4 := hrow.cell (i := 4) (by omega)
  have y5 := hrow.cell (i := 5) (by omega)
  have y6 := hrow.cell (i := 6) (by omega)
  have j0 := hrow.frozen 0
  have j1 := hrow.frozen 1
  have j2 := hrow.frozen 2
  have j3 := hrow.frozen 3
  have j4 := hrow.frozen 4
  have j5 := hrow.frozen 5
  have j6 := hrow.frozen 6
  have hz := (((((((hrow.set 0 (.int .i64 5)).set 1 (.int .i64 t.last)).set 2 (.int .i64 t.epoch)).set 3 (.string ⟨#[]⟩)).set 4 (.slice none 0 0)).set 5 (.slice AV t.objs.length CV)).set 6 (.slice AS t.states.length CS))
  have hbl : Below w.heap.size w (((((((w1.setCell ⟨B, 0, none⟩ (.int .i64 5)).setCell ⟨B, 1, none⟩ (.int .i64 t.last)).setCell ⟨B, 2, none⟩ (.int .i64 t.epoch)).setCell ⟨B, 3, none⟩ (.string ⟨#[]⟩)).setCell ⟨B, 4, none⟩ (.slice none 0 0)).setCell ⟨B, 5, none⟩ (.slice AV t.objs.length CV)).setCell ⟨B, 6, none⟩ (.slice AS t.states.length CS)) := (Below.setCell (Below.setCell (Below.setCell (Below.setCell (Below.setCell (Below.setCell (Below.setCell hx (by show w.heap.size ≤ B; omega) (.int .i64 5)) (by show w.heap.size ≤ B; omega) (.int .i64 t.last)) (by show w.heap.size ≤ B; omega) (.int .i64 t.epoch)) (by show w.heap.size ≤ B; omega) (.string ⟨#[]⟩)) (by show w.heap.size ≤ B; omega) (.slice none 0 0)) (by show w.heap.size ≤ B; omega) (.slice AV t.objs.length CV)) (by show w.heap.size ≤ B; omega) (.slice AS t.states.length CS))
  have HW := Lib.hid (show ∃ wz : World, (((((((w1.setCell ⟨B, 0, none⟩ (.int .i64 5)).setCell ⟨B, 1, none⟩ (.int .i64 t.last)).setCell ⟨B, 2, none⟩ (.int .i64 t.epoch)).setCell ⟨B, 3, none⟩ (.string ⟨#[]⟩)).setCell ⟨B, 4, none⟩ (.slice none 0 0)).setCell ⟨B, 5, none⟩ (.slice AV t.objs.length CV)).setCell ⟨B, 6, none⟩ (.slice AS t.states.length CS)).drew = wz ∧ wz.cell? ⟨B, 0, none⟩ = some (.int .i64 5) ∧ wz.cell? ⟨B, 1, none⟩ = some (.int .i64 t.last) ∧ wz.cell? ⟨B, 2, none⟩ = some (.int .i64 t.epoch) ∧ wz.cell? ⟨B, 3, none⟩ = some (.string ⟨#[]⟩) ∧ wz.cell? ⟨B, 4, none⟩ = some (.slice none 0 0) ∧ wz.cell? ⟨B, 5, none⟩ = some (.slice AV t.objs.length CV) ∧ wz.cell? ⟨B, 6, none⟩ = some (.slice AS t.states.length CS) ∧ Below w.heap.size w wz from by
    obtain ⟨wy, hwy⟩ : ∃ wy, (((((((w1.setCell ⟨B, 0, none⟩ (.int .i64 5)).setCell ⟨B, 1, none⟩ (.int .i64 t.last)).setCell ⟨B, 2, none⟩ (.int .i64 t.epoch)).setCell ⟨B, 3, none⟩ (.string ⟨#[]⟩)).setCell ⟨B, 4, none⟩ (.slice none 0 0)).setCell ⟨B, 5, none⟩ (.slice AV t.objs.length CV)).setCell ⟨B, 6, none⟩ (.slice AS t.states.length CS)) = wy := ⟨_, rfl⟩
    rw [hwy] at hz hbl ⊢
    exact ⟨_, rfl, hz.cell (i := 0) (by omega), hz.cell (i := 1) (by omega), hz.cell (i := 2) (by omega), hz.cell (i := 3) (by omega), hz.cell (i := 4) (by omega), hz.cell (i := 5) (by omega), hz.cell (i := 6) (by omega), hbl.trans (below_drewN _ _ 1)⟩)
  clear h c2 c3 c4 c5 hw1 hx hB hz hrow hbl
  go_enter Try.func34, Try.ntmps34
  go_wp2_with fail
  rw [← HW1.out, HBE.out]
  go_still_tail 17, (by kernel_rfl)
  go_wp2
  obtain ⟨wz, hwz, z0, z1, z2, z3, z4, z5, z6, hbz⟩ := HW.out
  rw [hwz]
  exact bodyPost_ret (v := .agg #[.int .i64 5, .int .i64 t.last, .int .i64 t.epoch, .string ⟨#[]⟩, .slice none 0 0, .slice AV t.objs.length CV, .slice AS t.states.length CS]) (by simp [results, Try.results34, go_sem, z0, z1, z2, z3, z4, z5, z6]) rfl ⟨_, rfl, HO.out _ hbz, hbz⟩
end Go.Proofs.Ytlgdchflegflkaa.Tbl
