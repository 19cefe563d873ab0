/- The program's tapes: New, Fuse, Lose, Read. -/
import Derived.Test.YtndponihilfidaaPtOn
namespace Go.Proofs.Ytndponihilfidaa.Tape
set_option linter.unusedVariables false
open Go.ChangeShapes Go.WideShapes Go.ChangeAt Go.RowKit
open Go.Mem Tp
abbrev POn (w0 : World) (G0 : Nat → Prop) (w : World) (G : Nat → Prop) (r : Nat) (V : Nat → Value) (t : Ts) : Prop := PtOn PT PU w0 G0 w G r V t
theorem does_of {w w' : World} {F G' : Nat → Prop} {p : Nat} {V : Nat → Value} {s : St} (hz : s.fuse ≤ 9223372036854775807) (h : POn w F w' G' p V s.ts) : Does PD F p s w w' := ⟨G', ⟨hz, V, h.1⟩, h.2.1, h.2.2⟩
theorem newC (w : World) : Calls Try.prog 8 #[] w fun e w' => ∃ F p, e = .returned (.pointer (some ⟨p, 0, none⟩)) ∧ PD w' F p fresh ∧ (∀ b, F b → w.heap.size ≤ b) ∧ Below w.heap.size w w' := by
  go_enter Try.func8, Try.ntmps8
  go_wp2
  go_ret
  refine ⟨fun b => b = w.heap.size, w.heap.size, rfl, ⟨by decide, fun _ => .slice none 0 0, ⟨?_, fun i hi => ?_, fun i b hi q => (by cases q), fun i j b hi hj hne q => (by cases q), rfl, fun b hb => by subst hb; simp⟩⟩, fun b hb => by omega, (Below.refl _ _).alloc (Nat.le_refl _) _⟩
  · exact World.rowIs_alloc w _ _ _ (lt11 rfl rfl rfl rfl rfl rfl rfl rfl rfl rfl rfl)
  · have e : pls fresh.ts i = [] := by
      rcases (by omega : i = 0 ∨ i = 1 ∨ i = 2 ∨ i = 3) with rfl | rfl | rfl | rfl <;> rfl
    rw [e]; exact Built.start _ _ _
theorem fuseC {w : World} {F : Nat → Prop} {p : Nat} {s : St} (h : PD w F p s) (n : Int) (hn : I64 n) : Calls Try.prog 12 #[.pointer (some ⟨p, 0, none⟩), .int .i64 n] w fun e w' => e = .returned (.tuple #[]) ∧ Does PD F p (s.burn n) w w' := by
  obtain ⟨hz, V, h⟩ := h
  have c8 := h.cell (i := 8) (by omega)
  have c9 := h.cell (i := 9) (by omega)
  have f8 := h.free 8
  have f9 := h.free 9
  have HO := Lib.hid h.on
  obtain ⟨h1, h2⟩ := hn
  clear h
  rcases (by omega : n < 0 ∨ 0 ≤ n) with hk | hk
  · have hb : s.burn n = { s with fuse := 0 } := by unfold St.burn; rw [if_pos hk]
    rw [hb]
    clear hb
    go_enter Try.func12, Try.ntmps12
    go_wp2
    go_end0
    exact ⟨rfl, does_of (by show (0 : Int) ≤ _; omega) ((HO.out.set 8 (.bool true) (t' := { s.ts with f := true }) (lt11 rfl rfl rfl rfl rfl rfl rfl rfl rfl rfl rfl) (lt4 rfl rfl rfl rfl)).set 9 (.int .i64 0) (t' := ({ s with fuse := 0 } : St).ts) (lt11 rfl rfl rfl rfl rfl rfl rfl rfl rfl rfl rfl) (lt4 rfl rfl rfl rfl))⟩
  · have hb : s.burn n = { s with fuse := n } := by unfold St.burn; rw [if_neg (by omega)]
    rw [hb]
    have HT := Lib.hid (show ({ s with fuse := n } : St).ts = { ({ s.ts with f := true } : Ts) with n := n } by unfold St.ts; simp only [decide_eq_true hk, if_pos hk])
    clear hb
    go_enter Try.func12, Try.ntmps12
    go_wp2
    go_end0
    exact ⟨rfl, does_of (by show n ≤ _; omega) (HT.out ▸ ((HO.out.set 8 (.bool true) (t' := { s.ts with f := true }) (lt11 rfl rfl rfl rfl rfl rfl rfl rfl rfl rfl rfl) (lt4 rfl rfl rfl rfl)).set 9 (.int .i64 n) (t' := { ({ s.ts with f := true } : Ts) with n := n }) (lt11 rfl rfl rfl rfl rfl rfl rfl rfl rfl rfl rfl) (lt4 rfl rfl rfl rfl)))⟩
theorem lose_no {w : World} {F : Nat → Prop} {p : Nat} {s : St} (h : PD w F p s) (i : Int) (hi : i < 0 ∨ 1 < i) : Calls Try.prog 15 #[.pointer (some ⟨p, 0, none⟩), .int .i64 i] w fun e w' => e = .returned (.tuple #[]) ∧ Does PD F p (s.lose i) w w' := by
  have hs : s.lose i = s := by unfold St.lose St.set; rw [if_neg (by omega), if_neg (by omega)]
  rw [hs]
  have H := Lib.hid h
  have HN := Lib.hid (side_no w p i hi)
  clear h hs hi
  go_enter Try.func15, Try.ntmps15
  go_wp2_with fail
  refine HN.out.mono ?_
  rintro _ w1 ⟨rfl, rfl⟩
  go_wp2
  go_end0
  exact ⟨rfl, F, H.out, Turned.refl _ _, Grown.refl _ _⟩
theorem read_no {w : World} {F : Nat → Prop} {p : Nat} {s : St} (h : PD w F p s) (i : Int) (hi : i < 0 ∨ 1 < i) :
    Calls Try.prog 17 #[.pointer (some ⟨p, 0, none⟩), .int .i64 i] w fun e w' => ∃ u, e = .returned (.tuple #[u, .int .i64 (s.readE i)]) ∧ RowIn (fun b => w.heap.size ≤ b) w' u (s.readB i) ∧ Below w.heap.size w w' := by
  have he : s.readE i = 1 := by unfold St.readE; rw [if_pos hi]
  have hb : s.readB i = [] := by unfold St.readB; rw [if_neg (by omega)]
  rw [he, hb]
  have HN := Lib.hid (side_no w p i hi)
  clear h he hb hi
  go_enter Try.func17, Try.ntmps17
  go_wp2_with fail
  refine HN.out.mono ?_
  rintro _ w1 ⟨rfl, rfl⟩
  go_wp2
  go_ret2
  exact ⟨_, rfl, RowIn.nil _ _, Below.refl _ _⟩
/-- what a slice that was built reads as lies in its own block -/
theorem built_off {w : World} {base t : Nat} {v : Value} {L : List Nat} {A : Option Addr} {n C g : Nat} (h : Built ByteR w base t v L) (e : v = .slice A n C) (hne : v.ownBlock ≠ some g) : Off (.slice A n C) g := by
  intro a n' C' e' hn q
  cases e'
  subst e
  exact hne (by rw [← q]; rfl)
theorem lose_0 {w : World} {F : Nat → Prop} {p : Nat} {s : St} (h : PD w F p s) : Calls Try.prog 15 #[.pointer (some ⟨p, 0, none⟩), .int .i64 0] w fun e w' => e = .returned (.tuple #[]) ∧ Does PD F p (s.lose 0) w w' := by
  obtain ⟨hz, V, h⟩ := h
  have c0 := h.cell (i := 0) (by omega)
  have c1 := h.cell (i := 1) (by omega)
  have c2 := h.cell (i := 2) (by omega)
  have c3 := h.cell (i := 3) (by omega)
  have f0 := h.free 0
  have f1 := h.free 1
  have f2 := h.free 2
  have f3 := h.free 3
  have HO := Lib.hid h.on
  have HN := Lib.hid (side_yes0 w p)
  have HT := Lib.hid (show (s.lose 0).ts = { s.ts with l0 := [], b0 := [], w0 := false, x0 := true } from rfl)
  clear h
  go_enter Try.func15, Try.ntmps15
  go_wp2_with fail
  refine HN.out.mono ?_
  rintro _ w1 ⟨rfl, rfl⟩
  go_wp2
  go_end0
  exact ⟨rfl, does_of hz (HT.out ▸ ((((HO.out.nil 0 0 (t' := { s.ts with l0 := [] }) (by omega) (lt11 rfl rfl rfl rfl rfl rfl rfl rfl rfl rfl rfl) (by rintro j hj hne; revert hne; revert j; refine lt4 ?_ ?_ ?_ ?_ <;> intro hne <;> first | rfl | exact absurd rfl hne) rfl).nil 1 1 (t' := { s.ts with l0 := [], b0 := [] }) (by omega) (lt11 rfl rfl rfl rfl rfl rfl rfl rfl rfl rfl rfl) (by rintro j hj hne; revert hne; revert j; refine lt4 ?_ ?_ ?_ ?_ <;> intro hne <;> first | rfl | exact absurd rfl hne) rfl).set 2 (.bool false) (t' := { s.ts with l0 := [], b0 := [], w0 := false }) (lt11 rfl rfl rfl rfl rfl rfl rfl rfl rfl rfl rfl) (lt4 rfl rfl rfl rfl)).set 3 (.bool true) (t' := { s.ts with l0 := [], b0 := [], w0 := false, x0 := true }) (lt11 rfl rfl rfl rfl rfl rfl rfl rfl rfl rfl rfl) (lt4 rfl rfl rfl rfl)))⟩
theorem read_lost0 {w : World} {F : Nat → Prop} {p : Nat} {s : St} (h : PD w F p s) (hl : s.s0.lost = true) :
    Calls Try.prog 17 #[.pointer (some ⟨p, 0, none⟩), .int .i64 0] w fun e w' => ∃ u, e = .returned (.tuple #[u, .int .i64 (s.readE 0)]) ∧ RowIn (fun b => w.heap.size ≤ b) w' u (s.readB 0) ∧ Below w.heap.size w w' := by
  have he : s.readE 0 = 8 := by unfold St.readE; rw [if_neg (by omega)]; exact if_pos hl
  have hb : s.readB 0 = [] := by unfold St.readB; rw [if_neg (by omega)]
  rw [he, hb]
  obtain ⟨hz, V, h⟩ := h
  have c3 : w.cell? ⟨p, 3, none⟩ = some (.bool s.s0.lost) := h.cell (i := 3) (by omega)
  rw [hl] at c3
  have HN := Lib.hid (side_yes0 w p)
  clear h he hb hl
  go_enter Try.func17, Try.ntmps17
  go_wp2_with fail
  refine HN.out.mono ?_
  rintro _ w1 ⟨rfl, rfl⟩
  go_wp2
  go_ret2
  exact ⟨_, rfl, RowIn.nil _ _, Below.refl _ _⟩
set_option maxHeartbeats 2000000 in
theorem read_0 {w : World} {F : Nat → Prop} {p : Nat} {s : St} (h : PD w F p s) (hu : s.upto 1000000) (hl : s.s0.lost = false) :
    Calls Try.prog 17 #[.pointer (some ⟨p, 0, none⟩), .int .i64 0] w fun e w' => ∃ u, e = .returned (.tuple #[u, .int .i64 (s.readE 0)]) ∧ RowIn (fun b => w.heap.size ≤ b) w' u (s.readB 0) ∧ Below w.heap.size w w' := by
  have hl' : ¬ s.s0.lost = true := by rw [hl]; decide
  have he : s.readE 0 = 0 := by unfold St.readE; rw [if_neg (by omega)]; exact if_neg hl'
  have hb : s.readB 0 = s.s0.view := by unfold St.readB; rw [if_pos he]; rfl
  rw [he, hb]
  obtain ⟨hz, V, h⟩ := h
  have hll : s.s0.pl = s.s0.b := if_neg hl'
  have hbl : s.s0.pb = if s.s0.wet = true then s.s0.l else [] := if_neg hl'
  have hw : s.s0.pw = (s.s0.wet && s.s0.swap) := by unfold Sd.pw; rw [hl]; rfl
  have hr0 : Built ByteR w 0 PU (V 0) s.s0.pl := h.rows 0 (by omega)
  have hr1 : Built ByteR w 0 PU (V 1) s.s0.pb := h.rows 1 (by omega)
  have c0 : w.cell? ⟨p, 0, none⟩ = some (V 0) := h.cell (i := 0) (by omega)
  have c1 : w.cell? ⟨p, 1, none⟩ = some (V 1) := h.cell (i := 1) (by omega)
  have c2 : w.cell? ⟨p, 2, none⟩ = some (.bool s.s0.pw) := h.cell (i := 2) (by omega)
  have c3 : w.cell? ⟨p, 3, none⟩ = some (.bool s.s0.lost) := h.cell (i := 3) (by omega)
  rw [hl] at c3
  obtain ⟨A0, D0, e0, -, -⟩ := hr0.len
  obtain ⟨A1, D1, e1, -, -⟩ := hr1.len
  obtain ⟨N0, hN0⟩ : ∃ n, s.s0.pl.length = n := ⟨_, rfl⟩
  obtain ⟨N1, hN1⟩ : ∃ n, s.s0.pb.length = n := ⟨_, rfl⟩
  rw [hN0] at e0
  rw [hN1] at e1
  rw [e0] at c0
  rw [e1] at c1
  have hs0 : Bytes w (.slice A0 N0 D0) s.s0.pl := e0 ▸ hr0.slice
  have hs1 : Bytes w (.slice A1 N1 D1) s.s0.pb := e1 ▸ hr1.slice
  have HB0 := Lib.hid (show s.s0.pl.length ≤ 1000000 by rw [hll]; exact hu.1.1)
  have HB1 := Lib.hid (show s.s0.pb.length ≤ 1000000 by rw [hbl]; split; exact hu.1.2; simp)
  have HO1 := Lib.hid (fun (g : Nat) (q : w.heap.size ≤ g) => built_off (g := g) hr1 e1 (fun x => by have := (hr1.own_lt g x).2; omega))
  have HS0 := Lib.hid hs0
  have HS1 := Lib.hid hs1
  have HN := Lib.hid (side_yes0 w p)
  have HV := Lib.hid (show s.s0.view = if s.s0.pw = true then s.s0.pb else s.s0.pl ++ s.s0.pb by
    rw [hll, hbl, hw]
    unfold Sd.view
    cases h1 : s.s0.wet <;> cases h2 : s.s0.swap <;> simp)
  have HW := Lib.hid (show Below w.heap.size w w from Below.refl _ _)
  clear h hl he hb hll hbl hw hr0 hr1 hs0 hs1 e0 e1 hN0 hN1 hu hl'
  rw [HV.out]
  clear HV
  obtain ⟨x, hx⟩ : ∃ x, s.s0.pw = x := ⟨_, rfl⟩
  rw [hx] at c2 ⊢
  clear hx
  cases x
  · go_enter Try.func17, Try.ntmps17
    go_wp2_with fail
    refine HN.out.mono ?_
    rintro _ w1 ⟨rfl, rfl⟩
    go_upto_region 6 with (fail)
    go_region_law (first
      | (go_simp; go_at_call 24; refine (cloneC _ _ _ (HS0.out.below (below_drewN _ _ 1)) (by have := HB0.out; omega)).mono ?_; rintro _ w2 ⟨v2, rfl, hv2, hb2⟩; have HB2 := Lib.hid ((show Below w.heap.size w w.drew from below_drewN _ _ 1).trans hb2); have HV2 := Lib.hid hv2; have d1 := below_cell HB2.out _ _ c1; have d2 := below_cell HB2.out _ _ c2; have HS2 := Lib.hid (HS1.out.below HB2.out); clear hv2 hb2)
      | (go_simp; go_at_call 22; refine (on_behind _ _ _ _ _ _ _ HS2.out (HV2.out.lower (Nat.zero_le _)) (fun g q => HO1.out g (HV2.out.own_lt g q).1) (by have := HB0.out; have := HB1.out; omega)).mono ?_; rintro _ w3 ⟨v3, rfl, hv3, ht3, hf3⟩; have HV3 := Lib.hid hv3; have HT3 := Lib.hid ht3; have HF3 := Lib.hid hf3; clear hv3 ht3 hf3))
    all_goals
      go_wp2
      go_ret2
      have hs2 := HB2.out.size
      refine ⟨v3, rfl, HV3.out.rowIn (fun b q => ?_), HB2.out.trans (HT3.out.below (fun b q => (HV2.out.own_lt b q).1) hs2)⟩
      rcases HF3.out b q with k | k
      · exact (HV2.out.own_lt b k).1
      · omega
  · go_enter Try.func17, Try.ntmps17
    go_wp2_with fail
    refine HN.out.mono ?_
    rintro _ w1 ⟨rfl, rfl⟩
    go_upto_region 6 with (fail)
    go_region_law (first
      | (go_simp; go_at_call 24; refine (cloneC _ _ _ (HS0.out.below (below_drewN _ _ 1)) (by have := HB0.out; omega)).mono ?_; rintro _ w2 ⟨v2, rfl, hv2, hb2⟩; have HB2 := Lib.hid ((show Below w.heap.size w w.drew from below_drewN _ _ 1).trans hb2); have HV2 := Lib.hid hv2; have d1 := below_cell HB2.out _ _ c1; have d2 := below_cell HB2.out _ _ c2; have HS2 := Lib.hid (HS1.out.below HB2.out); clear hv2 hb2)
      | (go_simp; go_at_call 22; refine (on_whole _ _ _ _ _ _ HS2.out (by have := HB1.out; omega)).mono ?_; rintro _ w3 ⟨v3, rfl, hv3, hb3⟩; have HV3 := Lib.hid hv3; have HT3 := Lib.hid hb3; clear hv3 hb3))
    all_goals
      go_wp2
      go_ret2
      have hs2 := HB2.out.size
      refine ⟨v3, rfl, HV3.out.rowIn (fun b q => ?_), HB2.out.trans (HT3.out.mono hs2)⟩
      have := (HV3.out.own_lt b q).1
      omega
theorem lose_1 {w : World} {F : Nat → Prop} {p : Nat} {s : St} (h : PD w F p s) : Calls Try.prog 15 #[.pointer (some ⟨p, 0, none⟩), .int .i64 1] w fun e w' => e = .returned (.tuple #[]) ∧ Does PD F p (s.lose 1) w w' := by
  obtain ⟨hz, V, h⟩ := h
  have c0 := h.cell (i := 4) (by omega)
  have c1 := h.cell (i := 5) (by omega)
  have c2 := h.cell (i := 6) (by omega)
  have c3 := h.cell (i := 7) (by omega)
  have f0 := h.free 4
  have f1 := h.free 5
  have f2 := h.free 6
  have f3 := h.free 7
  have HO := Lib.hid h.on
  have HN := Lib.hid (side_yes1 w p)
  have HT := Lib.hid (show (s.lose 1).ts = { s.ts with l1 := [], b1 := [], w1 := false, x1 := true } from rfl)
  clear h
  go_enter Try.func15, Try.ntmps15
  go_wp2_with fail
  refine HN.out.mono ?_
  rintro _ w1 ⟨rfl, rfl⟩
  go_wp2
  go_end0
  exact ⟨rfl, does_of hz (HT.out ▸ ((((HO.out.nil 2 4 (t' := { s.ts with l1 := [] }) (by omega) (lt11 rfl rfl rfl rfl rfl rfl rfl rfl rfl rfl rfl) (by rintro j hj hne; revert hne; revert j; refine lt4 ?_ ?_ ?_ ?_ <;> intro hne <;> first | rfl | exact absurd rfl hne) rfl).nil 3 5 (t' := { s.ts with l1 := [], b1 := [] }) (by omega) (lt11 rfl rfl rfl rfl rfl rfl rfl rfl rfl rfl rfl) (by rintro j hj hne; revert hne; revert j; refine lt4 ?_ ?_ ?_ ?_ <;> intro hne <;> first | rfl | exact absurd rfl hne) rfl).set 6 (.bool false) (t' := { s.ts with l1 := [], b1 := [], w1 := false }) (lt11 rfl rfl rfl rfl rfl rfl rfl rfl rfl rfl rfl) (lt4 rfl rfl rfl rfl)).set 7 (.bool true) (t' := { s.ts with l1 := [], b1 := [], w1 := false, x1 := true }) (lt11 rfl rfl rfl rfl rfl rfl rfl rfl rfl rfl rfl) (lt4 rfl rfl rfl rfl)))⟩
theorem read_lost1 {w : World} {F : Nat → Prop} {p : Nat} {s : St} (h : PD w F p s) (hl : s.s1.lost = true) :
    Calls Try.prog 17 #[.pointer (some ⟨p, 0, none⟩), .int .i64 1] w fun e w' => ∃ u, e = .returned (.tuple #[u, .int .i64 (s.readE 1)]) ∧ RowIn (fun b => w.heap.size ≤ b) w' u (s.readB 1) ∧ Below w.heap.size w w' := by
  have he : s.readE 1 = 8 := by unfold St.readE; rw [if_neg (by omega)]; exact if_pos hl
  have hb : s.readB 1 = [] := by unfold St.readB; rw [if_neg (by omega)]
  rw [he, hb]
  obtain ⟨hz, V, h⟩ := h
  have c3 : w.cell? ⟨p, 7, none⟩ = some (.bool s.s1.lost) := h.cell (i := 7) (by omega)
  rw [hl] at c3
  have HN := Lib.hid (side_yes1 w p)
  clear h he hb hl
  go_enter Try.func17, Try.ntmps17
  go_wp2_with fail
  refine HN.out.mono ?_
  rintro _ w1 ⟨rfl, rfl⟩
  go_wp2
  go_ret2
  exact ⟨_, rfl, RowIn.nil _ _, Below.refl _ _⟩
set_option maxHeartbeats 2000000 in
theorem read_1 {w : World} {F : Nat → Prop} {p : Nat} {s : St} (h : PD w F p s) (hu : s.upto 1000000) (hl : s.s1.lost = false) :
    Calls Try.prog 17 #[.pointer (some ⟨p, 0, none⟩), .int .i64 1] w fun e w' => ∃ u, e = .returned (.tuple #[u, .int .i64 (s.readE 1)]) ∧ RowIn (fun b => w.heap.size ≤ b) w' u (s.readB 1) ∧ Below w.heap.size w w' := by
  have hl' : ¬ s.s1.lost = true := by rw [hl]; decide
  have he : s.readE 1 = 0 := by unfold St.readE; rw [if_neg (by omega)]; exact if_neg hl'
  have hb : s.readB 1 = s.s1.view := by unfold St.readB; rw [if_pos he]; rfl
  rw [he, hb]
  obtain ⟨hz, V, h⟩ := h
  have hll : s.s1.pl = s.s1.b := if_neg hl'
  have hbl : s.s1.pb = if s.s1.wet = true then s.s1.l else [] := if_neg hl'
  have hw : s.s1.pw = (s.s1.wet && s.s1.swap) := by unfold Sd.pw; rw [hl]; rfl
  have hr0 : Built ByteR w 0 PU (V 2) s.s1.pl := h.rows 2 (by omega)
  have hr1 : Built ByteR w 0 PU (V 3) s.s1.pb := h.rows 3 (by omega)
  have c0 : w.cell? ⟨p, 4, none⟩ = some (V 2) := h.cell (i := 4) (by omega)
  have c1 : w.cell? ⟨p, 5, none⟩ = some (V 3) := h.cell (i := 5) (by omega)
  have c2 : w.cell? ⟨p, 6, none⟩ = some (.bool s.s1.pw) := h.cell (i := 6) (by omega)
  have c3 : w.cell? ⟨p, 7, none⟩ = some (.bool s.s1.lost) := h.cell (i := 7) (by omega)
  rw [hl] at c3
  obtain ⟨A0, D0, e0, -, -⟩ := hr0.len
  obtain ⟨A1, D1, e1, -, -⟩ := hr1.len
  obtain ⟨N0, hN0⟩ : ∃ n, s.s1.pl.length = n := ⟨_, rfl⟩
  obtain ⟨N1, hN1⟩ : ∃ n, s.s1.pb.length = n := ⟨_, rfl⟩
  rw [hN0] at e0
  rw [hN1] at e1
  rw [e0] at c0
  rw [e1] at c1
  have hs0 : Bytes w (.slice A0 N0 D0) s.s1.pl := e0 ▸ hr0.slice
  have hs1 : Bytes w (.slice A1 N1 D1) s.s1.pb := e1 ▸ hr1.slice
  have HB0 := Lib.hid (show s.s1.pl.length ≤ 1000000 by rw [hll]; exact hu.2.1)
  have HB1 := Lib.hid (show s.s1.pb.length ≤ 1000000 by rw [hbl]; split; exact hu.2.2; simp)
  have HO1 := Lib.hid (fun (g : Nat) (q : w.heap.size ≤ g) => built_off (g := g) hr1 e1 (fun x => by have := (hr1.own_lt g x).2; omega))
  have HS0 := Lib.hid hs0
  have HS1 := Lib.hid hs1
  have HN := Lib.hid (side_yes1 w p)
  have HV := Lib.hid (show s.s1.view = if s.s1.pw = true then s.s1.pb else s.s1.pl ++ s.s1.pb by
    rw [hll, hbl, hw]
    unfold Sd.view
    cases h1 : s.s1.wet <;> cases h2 : s.s1.swap <;> simp)
  have HW := Lib.hid (show Below w.heap.size w w from Below.refl _ _)
  clear h hl he hb hll hbl hw hr0 hr1 hs0 hs1 e0 e1 hN0 hN1 hu hl'
  rw [HV.out]
  clear HV
  obtain ⟨x, hx⟩ : ∃ x, s.s1.pw = x := ⟨_, rfl⟩
  rw [hx] at c2 ⊢
  clear hx
  cases x
  · go_enter Try.func17, Try.ntmps17
    go_wp2_with fail
    refine HN.out.mono ?_
    rintro _ w1 ⟨rfl, rfl⟩
    go_upto_region 6 with (fail)
    go_region_law (first
      | (go_simp; go_at_call 24; refine (cloneC _ _ _ (HS0.out.below (below_drewN _ _ 1)) (by have := HB0.out; omega)).mono ?_; rintro _ w2 ⟨v2, rfl, hv2, hb2⟩; have HB2 := Lib.hid ((show Below w.heap.size w w.drew from below_drewN _ _ 1).trans hb2); have HV2 := Lib.hid hv2; have d1 := below_cell HB2.out _ _ c1; have d2 := below_cell HB2.out _ _ c2; have HS2 := Lib.hid (HS1.out.below HB2.out); clear hv2 hb2)
      | (go_simp; go_at_call 22; refine (on_behind _ _ _ _ _ _ _ HS2.out (HV2.out.lower (Nat.zero_le _)) (fun g q => HO1.out g (HV2.out.own_lt g q).1) (by have := HB0.out; have := HB1.out; omega)).mono ?_; rintro _ w3 ⟨v3, rfl, hv3, ht3, hf3⟩; have HV3 := Lib.hid hv3; have HT3 := Lib.hid ht3; have HF3 := Lib.hid hf3; clear hv3 ht3 hf3))
    all_goals
      go_wp2
      go_ret2
      have hs2 := HB2.out.size
      refine ⟨v3, rfl, HV3.out.rowIn (fun b q => ?_), HB2.out.trans (HT3.out.below (fun b q => (HV2.out.own_lt b q).1) hs2)⟩
      rcases HF3.out b q with k | k
      · exact (HV2.out.own_lt b k).1
      · omega
  · go_enter Try.func17, Try.ntmps17
    go_wp2_with fail
    refine HN.out.mono ?_
    rintro _ w1 ⟨rfl, rfl⟩
    go_upto_region 6 with (fail)
    go_region_law (first
      | (go_simp; go_at_call 24; refine (cloneC _ _ _ (HS0.out.below (below_drewN _ _ 1)) (by have := HB0.out; omega)).mono ?_; rintro _ w2 ⟨v2, rfl, hv2, hb2⟩; have HB2 := Lib.hid ((show Below w.heap.size w w.drew from below_drewN _ _ 1).trans hb2); have HV2 := Lib.hid hv2; have d1 := below_cell HB2.out _ _ c1; have d2 := below_cell HB2.out _ _ c2; have HS2 := Lib.hid (HS1.out.below HB2.out); clear hv2 hb2)
      | (go_simp; go_at_call 22; refine (on_whole _ _ _ _ _ _ HS2.out (by have := HB1.out; omega)).mono ?_; rintro _ w3 ⟨v3, rfl, hv3, hb3⟩; have HV3 := Lib.hid hv3; have HT3 := Lib.hid hb3; clear hv3 hb3))
    all_goals
      go_wp2
      go_ret2
      have hs2 := HB2.out.size
      refine ⟨v3, rfl, HV3.out.rowIn (fun b q => ?_), HB2.out.trans (HT3.out.mono hs2)⟩
      have := (HV3.out.own_lt b q).1
      omega
end Go.Proofs.Ytndponihilfidaa.Tape
