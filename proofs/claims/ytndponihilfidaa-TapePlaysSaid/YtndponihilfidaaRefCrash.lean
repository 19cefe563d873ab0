/- The document's crash of its tapes, as a walk. -/
import Derived.Test.YtndponihilfidaaRefWrite
import Derived.Deep.RegionHeld3
namespace Go.Proofs.Ytndponihilfidaa.Tape
set_option linter.unusedVariables false
open Go.ChangeShapes Go.WideShapes Go.ChangeAt Go.RowKit
open Go.Mem Tp
theorem row_sized {R : Nat → Prop} {w : World} {v : Value} {l : List Nat} (h : RowIn R w v l) : RowIn (fun b => R b ∧ b < w.heap.size) w v l := by
  refine ⟨h.1, fun a n C e hn => ⟨h.2 a n C e hn, ?_⟩⟩
  obtain ⟨A, m, C', e1, e2, _, _, _, h6⟩ := h.1
  rw [e] at e1
  cases e1
  obtain ⟨b, o, c, k1, k2, k3⟩ := h6 0 (by omega)
  cases k1
  exact World.block_lt_of_cell? _ _ k2
def CMid (w : World) (G0 : Nat → Prop) (r : Nat) (t : St) (keep : Int) (i : Nat) (wr : World) : Prop := ∃ G V s, On w G0 wr G r V s ∧ s.upto 2000000 ∧
  ((i = 0 ∧ s = t) ∨ (i = 1 ∧ s = { t with s0 := t.s0.crash keep }) ∨ (i = 2 ∧ s = { t with s0 := t.s0.crash keep, s1 := t.s1.crash keep }))
theorem crash_upto {s : Sd} {n : Nat} (h : s.upto n) (keep : Int) : (s.crash keep).upto (n + n) := by
  refine ⟨?_, by show ([] : List Nat).length ≤ _; simp⟩
  have := all_len s keep
  obtain ⟨h1, h2⟩ := h
  show (s.all keep).length ≤ _
  omega
set_option maxHeartbeats 4000000 in
theorem refCrashC {w : World} {G : Nat → Prop} {r : Nat} {t : St} (h : RTp TT w G r t) (ht : t.upto 1000000) (keep : Int) (lk : -9223372036854775808 ≤ keep) (uk : keep ≤ 9223372036854775807) :
    Calls Try.prog 14 #[.pointer (some ⟨r, 0, none⟩), .int .i64 keep] w fun e w' => e = .returned (.tuple #[]) ∧ ∃ G', RTp TT w' G' r (t.crash keep) ∧ Turned G w w' ∧ Grown G G' w := by
  obtain ⟨V, h⟩ := h
  have HM0 := Lib.hid (show CMid w G r t keep 0 w from ⟨G, V, t, h.on, upto_mono ht (by omega), .inl ⟨rfl, rfl⟩⟩)
  have HT := Lib.hid ht
  clear h ht
  go_enter Try.func14, Try.ntmps14
  go_wp2
  go_loopg [4] 2 (fun k c wr => ∃ i : Nat, i + k = 2 ∧ c = .int .i64 i ∧ CMid w G r t keep i wr)
  case atStart => exact ⟨0, by omega, rfl, HM0.out⟩
  case round =>
    obtain ⟨i, hik, rfl, hmid⟩ := hrel
    rcases (by omega : i = 0 ∨ i = 1 ∨ i = 2) with rfl | rfl | rfl
    · obtain ⟨G1, V1, s, hon, hsu, hs⟩ := hmid
      have HS := Lib.hid (show s = t by rcases hs with q | q | q; exact q.2; omega; omega)
      have HUP := Lib.hid (show s.s0.upto 1000000 from by rw [HS.out]; exact HT.out.1)
      obtain ⟨A0, C0, e0, -, -, -⟩ := (hon.1.rows 0 (by omega)).1.shape
      obtain ⟨A1, C1, e1, -, -, -⟩ := (hon.1.rows 1 (by omega)).1.shape
      obtain ⟨N0, hN0⟩ : ∃ n, s.s0.b.length = n := ⟨_, rfl⟩
      obtain ⟨N1, hN1⟩ : ∃ n, s.s0.l.length = n := ⟨_, rfl⟩
      have e0 : V1 0 = .slice A0 N0 C0 := hN0 ▸ e0
      have e1 : V1 1 = .slice A1 N1 C1 := hN1 ▸ e1
      have hb0 : RowIn (fun b => G1 b ∧ b ≠ r) wr (V1 0) s.s0.b := hon.1.rows 0 (by omega)
      have hb1 : RowIn (fun b => G1 b ∧ b ≠ r) wr (V1 1) s.s0.l := hon.1.rows 1 (by omega)
      have d0 : wr.cell? ⟨r, 0, none⟩ = some (V1 0) := hon.1.cell (i := 0) (by omega)
      have d1 : wr.cell? ⟨r, 1, none⟩ = some (V1 1) := hon.1.cell (i := 1) (by omega)
      have d2 : wr.cell? ⟨r, 2, none⟩ = some (.bool s.s0.wet) := hon.1.cell (i := 2) (by omega)
      have d3 : wr.cell? ⟨r, 3, none⟩ = some (.bool s.s0.swap) := hon.1.cell (i := 3) (by omega)
      have d4 : wr.cell? ⟨r, 4, none⟩ = some (.bool s.s0.lost) := hon.1.cell (i := 4) (by omega)
      rw [e0] at hb0 d0
      rw [e1] at hb1 d1
      have HO := Lib.hid hon
      have HB0 := Lib.hid hb0
      have HB1 := Lib.hid hb1
      clear hs hon e0 e1 hN0 hN1 hb0 hb1
      go_wp2_with fail
      refine (refAllC s.s0 _ _ _ wr HB0.out HB1.out keep lk uk HUP.out).mono ?_
      rintro _ w5 ⟨u5, rfl, hu5, hb5⟩
      have ho5 := HO.out.news hb5
      have HO5 := Lib.hid ho5
      have hv5 : RowIn (fun b => (G1 b ∨ (wr.heap.size ≤ b ∧ b < w5.heap.size)) ∧ b ≠ r) w5 u5 (s.s0.all keep) := (row_sized hu5).same (fun _ _ => rfl) (fun b q => by
        rcases q.1 with k | k
        · exact ⟨.inl k.1, k.2⟩
        · exact ⟨.inr ⟨k, q.2⟩, fun e => by have := HO.out.1.lt r HO.out.1.gr; omega⟩)
      obtain ⟨A5, C5, e5, -, -, -⟩ := hv5.1.shape
      obtain ⟨N5, hN5⟩ : ∃ n, (s.s0.all keep).length = n := ⟨_, rfl⟩
      rw [hN5] at e5
      subst e5
      have HV5 := Lib.hid hv5
      have k0 := ho5.1.cell (i := 0) (by omega)
      have k1 := ho5.1.cell (i := 1) (by omega)
      have k2 := ho5.1.cell (i := 2) (by omega)
      have k3 := ho5.1.cell (i := 3) (by omega)
      have k4 : w5.cell? ⟨r, 4, none⟩ = some (.bool s.s0.lost) := ho5.1.cell (i := 4) (by omega)
      have j0 := ho5.1.free 0
      have j1 := ho5.1.free 1
      have j2 := ho5.1.free 2
      have j3 := ho5.1.free 3
      have j4 := ho5.1.free 4
      clear ho5 hv5 hu5 hb5 hN5 d0 d1 d2 d3 d4
      go_wp2_with fail
      have hx := ((((HO5.out.b0 (.slice A5 N5 C5) _ HV5.out).l0 (.slice none 0 0) [] (RowIn.nil _ _)).wet0 false).swap0 false).lost0 s.s0.lost
      have HX := Lib.hid hx
      clear hx
      go_region_law (fail)
      all_goals
        clear k0 k1 k2 k3 k4 j0 j1 j2 j3 j4
        go_wp2_with fail
        go_roundg (1 - 0)
        case measure => omega
        case rel =>
          refine ⟨1, by omega, by go_num, ?_⟩
          have hx := HX.out.below (below_drewN _ _ 1)
          exact ⟨_, _, { s with s0 := s.s0.crash keep }, hx, by rw [HS.out]; exact ⟨by have := crash_upto HT.out.1 keep; exact this, ⟨Nat.le_trans HT.out.2.1 (by omega), Nat.le_trans HT.out.2.2 (by omega)⟩⟩, .inr (.inl ⟨rfl, by rw [HS.out]⟩)⟩
    · obtain ⟨G1, V1, s, hon, hsu, hs⟩ := hmid
      have HS := Lib.hid (show s = { t with s0 := t.s0.crash keep } by rcases hs with q | q | q; omega; exact q.2; omega)
      have HUP := Lib.hid (show s.s1.upto 1000000 from by rw [HS.out]; exact HT.out.2)
      obtain ⟨A0, C0, e0, -, -, -⟩ := (hon.1.rows 2 (by omega)).1.shape
      obtain ⟨A1, C1, e1, -, -, -⟩ := (hon.1.rows 3 (by omega)).1.shape
      obtain ⟨N0, hN0⟩ : ∃ n, s.s1.b.length = n := ⟨_, rfl⟩
      obtain ⟨N1, hN1⟩ : ∃ n, s.s1.l.length = n := ⟨_, rfl⟩
      have e0 : V1 2 = .slice A0 N0 C0 := hN0 ▸ e0
      have e1 : V1 3 = .slice A1 N1 C1 := hN1 ▸ e1
      have hb0 : RowIn (fun b => G1 b ∧ b ≠ r) wr (V1 2) s.s1.b := hon.1.rows 2 (by omega)
      have hb1 : RowIn (fun b => G1 b ∧ b ≠ r) wr (V1 3) s.s1.l := hon.1.rows 3 (by omega)
      have d0 : wr.cell? ⟨r, 5, none⟩ = some (V1 2) := hon.1.cell (i := 5) (by omega)
      have d1 : wr.cell? ⟨r, 6, none⟩ = some (V1 3) := hon.1.cell (i := 6) (by omega)
      have d2 : wr.cell? ⟨r, 7, none⟩ = some (.bool s.s1.wet) := hon.1.cell (i := 7) (by omega)
      have d3 : wr.cell? ⟨r, 8, none⟩ = some (.bool s.s1.swap) := hon.1.cell (i := 8) (by omega)
      have d4 : wr.cell? ⟨r, 9, none⟩ = some (.bool s.s1.lost) := hon.1.cell (i := 9) (by omega)
      rw [e0] at hb0 d0
      rw [e1] at hb1 d1
      have HO := Lib.hid hon
      have HB0 := Lib.hid hb0
      have HB1 := Lib.hid hb1
      clear hs hon e0 e1 hN0 hN1 hb0 hb1
      go_wp2_with fail
      refine (refAllC s.s1 _ _ _ wr HB0.out HB1.out keep lk uk HUP.out).mono ?_
      rintro _ w5 ⟨u5, rfl, hu5, hb5⟩
      have ho5 := HO.out.news hb5
      have HO5 := Lib.hid ho5
      have hv5 : RowIn (fun b => (G1 b ∨ (wr.heap.size ≤ b ∧ b < w5.heap.size)) ∧ b ≠ r) w5 u5 (s.s1.all keep) := (row_sized hu5).same (fun _ _ => rfl) (fun b q => by
        rcases q.1 with k | k
        · exact ⟨.inl k.1, k.2⟩
        · exact ⟨.inr ⟨k, q.2⟩, fun e => by have := HO.out.1.lt r HO.out.1.gr; omega⟩)
      obtain ⟨A5, C5, e5, -, -, -⟩ := hv5.1.shape
      obtain ⟨N5, hN5⟩ : ∃ n, (s.s1.all keep).length = n := ⟨_, rfl⟩
      rw [hN5] at e5
      subst e5
      have HV5 := Lib.hid hv5
      have k0 := ho5.1.cell (i := 5) (by omega)
      have k1 := ho5.1.cell (i := 6) (by omega)
      have k2 := ho5.1.cell (i := 7) (by omega)
      have k3 := ho5.1.cell (i := 8) (by omega)
      have k4 : w5.cell? ⟨r, 9, none⟩ = some (.bool s.s1.lost) := ho5.1.cell (i := 9) (by omega)
      have j0 := ho5.1.free 5
      have j1 := ho5.1.free 6
      have j2 := ho5.1.free 7
      have j3 := ho5.1.free 8
      have j4 := ho5.1.free 9
      clear ho5 hv5 hu5 hb5 hN5 d0 d1 d2 d3 d4
      go_wp2_with fail
      have hx := ((((HO5.out.b1 (.slice A5 N5 C5) _ HV5.out).l1 (.slice none 0 0) [] (RowIn.nil _ _)).wet1 false).swap1 false).lost1 s.s1.lost
      have HX := Lib.hid hx
      clear hx
      go_region_law (fail)
      all_goals
        clear k0 k1 k2 k3 k4 j0 j1 j2 j3 j4
        go_wp2_with fail
        go_roundg (1 - 1)
        case measure => omega
        case rel =>
          refine ⟨2, by omega, by go_num, ?_⟩
          have hx := HX.out.below (below_drewN _ _ 1)
          exact ⟨_, _, { s with s1 := s.s1.crash keep }, hx, by rw [HS.out]; exact ⟨crash_upto HT.out.1 keep, crash_upto HT.out.2 keep⟩, .inr (.inr ⟨rfl, by rw [HS.out]⟩)⟩
    · obtain ⟨G1, V1, s, hon, hsu, hs⟩ := hmid
      have HS := Lib.hid (show s = { t with s0 := t.s0.crash keep, s1 := t.s1.crash keep } by rcases hs with q | q | q; omega; omega; exact q.2)
      have e10 := hon.1.cell (i := 10) (by omega)
      have f10 := hon.1.free 10
      have e11 := hon.1.cell (i := 11) (by omega)
      have f11 := hon.1.free 11
      have HO := Lib.hid hon
      clear hs hon
      go_wp2
      go_end0
      have hx := (HO.out.fuse (-1)).down false
      have hst : ({ ({ s with fuse := -1 } : St) with down := false } : St) = t.crash keep := by rw [HS.out]; rfl
      exact ⟨rfl, hst ▸ hx.done⟩
end Go.Proofs.Ytndponihilfidaa.Tape
