/- One round of the sum of layer 5, as a walk. -/
import Derived.Test.YtcgjoidfmigpnaaDoorShaHead
import Derived.Test.YtcgjoidfmigpnaaDoorRotl
import Derived.Test.YtcgjoidfmigpnaaDoorShaMore
namespace Go.Proofs.YtcgjoidfmigpnaaDoor.Hash
set_option linter.unusedVariables false
open Go.ChangeShapes Go.WideShapes Go.ChangeAt Go.RowKit
open Go.Mem Sha
set_option maxHeartbeats 1000000 in
theorem turnedC (x : Nat) (k : Int) (hx : x < 4294967296) (h1 : 1 ≤ k) (h2 : k ≤ 31) (w : World) :
    Calls Tryd.prog 54 #[.int .u32 x, .int .i64 k] w fun e w' => e = .returned (.int .u32 (rotr x k.toNat : Nat)) ∧ w = w' := by
  go_enter Tryd.func54, Tryd.ntmps54
  go_wp2_with (go_at_call 55; refine (rotlC x k.toNat _ hx (by omega) (by omega) (by omega) _).mono ?_; rintro e w' ⟨rfl, rfl⟩)
  go_ret
  exact ⟨rfl, rfl⟩
theorem gen_drew1 {P : Program} {C : Code} {Q : Exit → Act → World → Prop} {a : Act} {w : World} {n : Nat} (h : ∀ w9, (∃ k, w9 = w.drewN k) → Code.wp P C Q a w9) : Code.wp P C Q a (w.drewN n) := h _ ⟨n, rfl⟩
/-- k and w are added first -/
theorem rnd_word (k w : Nat) (s : St) : rnd 0 ((k + w) % 4294967296) s = rnd k w s := by
  have h : xF s 0 ((k + w) % 4294967296) = xF s k w := by unfold xF; omega
  unfold rnd
  rw [h]
/-- what a function that is handed a state, and hands one back, holds in memory -/
structure Two (w wr : World) (s : St) : Prop where
  old : Words wr w.heap.size 54 8 (Sha.St.get s)
  res : ∃ cs, wr.heap[w.heap.size + 1]? = some (.cells cs 54 (0, 0)) ∧ cs.size = 8
  bel : Below w.heap.size w wr
theorem Two.start (w : World) (s : St) : Two w ((w.alloc (.cells (stArr s) 54)).alloc (.cells z8 54)) s := by
  have s1 : (w.alloc (.cells (stArr s) 54)).heap.size = w.heap.size + 1 := by simp
  refine ⟨st_words ?_, ⟨z8, ?_, rfl⟩, ((Below.refl _ _).alloc (Nat.le_refl _) _).alloc (by simp) _⟩
  · rw [heap_alloc_old _ _ (by rw [s1]; omega)]; exact heap_alloc_new _ _
  · rw [← s1]; exact heap_alloc_new _ _
theorem Two.go {w wr wx : World} {s : St} (h : Two w wr s) (hb : Below wr.heap.size wr wx) : Two w wx s := by
  obtain ⟨cs, hc, hs⟩ := h.res
  have hl : w.heap.size + 1 < wr.heap.size := (Array.getElem?_eq_some_iff.1 hc).1
  exact ⟨h.old.below hb, ⟨cs, (hb.block _ hl).trans hc, hs⟩, h.bel.trans (hb.mono h.bel.size)⟩
theorem Two.lt {w wr : World} {s : St} (h : Two w wr s) : w.heap.size + 1 < wr.heap.size := by
  obtain ⟨cs, hc, hs⟩ := h.res
  exact (Array.getElem?_eq_some_iff.1 hc).1
set_option maxRecDepth 100000 in
set_option maxHeartbeats 4000000 in
theorem roundC (s : St) (hok : s.ok) (x : Nat) (hx : x < 4294967296) (w : World) :
    Calls Tryd.prog 52 #[.agg (stArr s), .int .u32 x] w fun e w' => e = .returned (.agg (stArr (rnd 0 x s))) ∧ Below w.heap.size w w' := by
  have hst := Two.start w s
  obtain ⟨a, b, c, d, e, f, g, g8⟩ := s
  obtain ⟨ha, hb, hc, hd, he, hf, hg, hh⟩ := hok
  dsimp only at ha hb hc hd he hf hg hh
  go_enter Tryd.func52, Tryd.ntmps52
  go_upto_region 1 with (fail)
  generalize hw3 : ((w.alloc (.cells (stArr ⟨a, b, c, d, e, f, g, g8⟩) 54)).alloc (.cells #[.int .u32 0, .int .u32 0, .int .u32 0, .int .u32 0, .int .u32 0, .int .u32 0, .int .u32 0, .int .u32 0] 54)) = w3
  have HS := Lib.hid (show Two w w3 ⟨a, b, c, d, e, f, g, g8⟩ by rw [← hw3]; exact hst)
  clear hst hw3
  have c0 : w3.cell? ⟨w.heap.size, 0, none⟩ = some (.int .u32 (a : Nat)) := HS.out.old.cell (i := 0) (by omega)
  have c1 : w3.cell? ⟨w.heap.size, 1, none⟩ = some (.int .u32 (b : Nat)) := HS.out.old.cell (i := 1) (by omega)
  have c2 : w3.cell? ⟨w.heap.size, 2, none⟩ = some (.int .u32 (c : Nat)) := HS.out.old.cell (i := 2) (by omega)
  have c3 : w3.cell? ⟨w.heap.size, 3, none⟩ = some (.int .u32 (d : Nat)) := HS.out.old.cell (i := 3) (by omega)
  go_quiet (fail)
  clear c0 c1 c2 c3
  go_upto_region 2 with (fail)
  refine gen_drew1 fun w9 h9 => ?_
  have HS9 := Lib.hid (show Two w w9 ⟨a, b, c, d, e, f, g, g8⟩ by obtain ⟨n9, e9⟩ := h9; rw [e9]; exact HS.out.go (below_drewN _ _ _))
  clear h9 HS
  have c4 : w9.cell? ⟨w.heap.size, 4, none⟩ = some (.int .u32 (e : Nat)) := HS9.out.old.cell (i := 4) (by omega)
  have c5 : w9.cell? ⟨w.heap.size, 5, none⟩ = some (.int .u32 (f : Nat)) := HS9.out.old.cell (i := 5) (by omega)
  have c6 : w9.cell? ⟨w.heap.size, 6, none⟩ = some (.int .u32 (g : Nat)) := HS9.out.old.cell (i := 6) (by omega)
  have c7 : w9.cell? ⟨w.heap.size, 7, none⟩ = some (.int .u32 (g8 : Nat)) := HS9.out.old.cell (i := 7) (by omega)
  go_quiet (fail)
  clear c4 c5 c6 c7
  go_upto_region 3 with (fail)
  refine gen_drew1 fun w10 h10 => ?_
  have HS10 := Lib.hid (show Two w w10 ⟨a, b, c, d, e, f, g, g8⟩ by obtain ⟨n9, e9⟩ := h10; rw [e9]; exact HS9.out.go (below_drewN _ _ _))
  clear h10 HS9
  go_upto_region 5 with (fail)
  rw [ch_raw he hf hg, maj_raw ha hb hc]
  have hcl := ch_lt (e := e) hf hg
  have hml := maj_lt (a := a) hb hc
  obtain ⟨CH, hCH⟩ : ∃ z, ch e f g = z := ⟨_, rfl⟩
  obtain ⟨MJ, hMJ⟩ : ∃ z, maj a b c = z := ⟨_, rfl⟩
  rw [hCH] at hcl ⊢
  rw [hMJ] at hml ⊢
  have HCH := Lib.hid hCH
  have HMJ := Lib.hid hMJ
  clear hCH hMJ
  go_upto_region 7 with (go_at_call 54; refine (turnedC _ _ (by omega) (by omega) (by omega) _).mono ?_; rintro _ _ ⟨rfl, rfl⟩)
  rw [S1_raw he, S0_raw ha]
  have hx1 : ((g8 : Int) + (S1 e : Nat) + (CH : Nat) + (x : Nat)) % 4294967296 = ((xF ⟨a, b, c, d, e, f, g, g8⟩ 0 x : Nat) : Int) := by unfold xF; dsimp only; rw [HCH.out]; omega
  have hy1 : (((S0 a : Nat) : Int) + (MJ : Nat)) % 4294967296 = ((yF ⟨a, b, c, d, e, f, g, g8⟩ : Nat) : Int) := by unfold yF; dsimp only; rw [HMJ.out]; omega
  rw [hx1, hy1]
  have hxl := xF_lt ⟨a, b, c, d, e, f, g, g8⟩ 0 x
  have hyl := yF_lt ⟨a, b, c, d, e, f, g, g8⟩
  obtain ⟨X, hX⟩ : ∃ X, xF ⟨a, b, c, d, e, f, g, g8⟩ 0 x = X := ⟨_, rfl⟩
  obtain ⟨Y, hY⟩ : ∃ Y, yF ⟨a, b, c, d, e, f, g, g8⟩ = Y := ⟨_, rfl⟩
  rw [hX] at hxl ⊢
  rw [hY] at hyl ⊢
  have HNA := Lib.hid (next_arr hX hY)
  clear hX hY hx1 hy1
  obtain ⟨cs, hcs, hcl8⟩ := HS10.out.res
  have HRES := Lib.hid hcs
  have HCL := Lib.hid (show cs.size = (nextArr X Y a b c d e f g).size from hcl8)
  have HI8 := Lib.hid (info8n X Y a b c d e f g)
  have HI8b := Lib.hid (info8n X Y a b c d e f g)
  clear hcs hcl8
  go_wp2_with (refine wpList_store_rowTo rfl 54 (.tmp 4) (.tmp 88) rfl rfl (w.heap.size + 1) (nextArr X Y a b c d e f g) rfl rfl 54 cs HRES.out HI8.out HCL.out (nextArr_one _ _ _ _ _ _ _ _ _) ?_)
  refine bodyPost_ret (v := .agg (nextArr X Y a b c d e f g)) ?_ rfl ⟨by rw [HNA.out], below_setRow HS10.out.bel (by omega) _⟩
  exact results_cell_row rfl _ _ (w.heap.size + 1) 54 (nextArr X Y a b c d e f g) (0, 0) _ rfl (setRow_heap _ _ _ _ _ _ HRES.out) Tryd.underlying54 rfl HI8b.out
end Go.Proofs.YtcgjoidfmigpnaaDoor.Hash
