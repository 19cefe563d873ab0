/- The program's tapes: Spoil and Crash. -/
import Derived.Test.YtndponihilfidaaPtRead
namespace Go.Proofs.Ytndponihilfidaa.Tape
set_option linter.unusedVariables false
open Go.ChangeShapes Go.WideShapes Go.ChangeAt Go.RowKit
open Go.Mem Tp
theorem spoil_no {w : World} {F : Nat → Prop} {p : Nat} {s : St} (h : PD w F p s) (i : Int) (hi : i < 0 ∨ 1 < i) (l : List Nat) (u : Value) : Calls Try.prog 16 #[.pointer (some ⟨p, 0, none⟩), .int .i64 i, u] w fun e w' => e = .returned (.tuple #[]) ∧ Does PD F p (s.spoil i l) w w' := by
  have hs : s.spoil i l = s := by unfold St.spoil St.set; rw [if_neg (by omega), if_neg (by omega)]
  rw [hs]
  have H := Lib.hid h
  have HN := Lib.hid (side_no w p i hi)
  clear h hs hi
  go_enter Try.func16, Try.ntmps16
  go_wp2_with fail
  refine HN.out.mono ?_
  rintro _ w1 ⟨rfl, rfl⟩
  go_wp2
  go_end0
  exact ⟨rfl, F, H.out, Turned.refl _ _, Grown.refl _ _⟩
/-- what a side's cells hold when a crash keeps so much -/
theorem crash_pl (x : Sd) (keep : Int) : (x.crash keep).pl = if x.pw = true then (if keep % 2 = 0 then x.pl else x.pb) else x.pl ++ x.pb.take (keptN keep x.pb.length) := by
  obtain ⟨b, l, wet, swap, lost⟩ := x
  unfold Sd.crash Sd.pl Sd.pb Sd.pw Sd.all
  cases lost
  · cases wet
    · simp
    · cases swap
      · simp only [Bool.false_eq_true, if_false, if_true, Bool.not_false, Bool.true_and, reduceCtorEq]
        unfold keptN
        have e : l.take keep.toNat = l.take (if keep < 0 then 0 else if keep ≤ l.length then keep.toNat else l.length) := by
          split
          · rw [show keep.toNat = 0 by omega]
          · split
            · rfl
            · rw [List.take_of_length_le (by omega), List.take_of_length_le (Nat.le_refl _)]
        rw [e]
      · simp
  · simp
theorem crash_pb (x : Sd) (keep : Int) : (x.crash keep).pb = [] ∧ (x.crash keep).pw = false := by
  obtain ⟨b, l, wet, swap, lost⟩ := x
  unfold Sd.crash Sd.pb Sd.pw
  cases lost <;> simp
theorem keptN_le (keep : Int) (n : Nat) : keptN keep n ≤ n := by
  unfold keptN
  split
  · omega
  · split <;> omega
theorem pl_len {x : Sd} {n : Nat} (h : x.upto n) : x.pl.length ≤ n := by
  unfold Sd.pl
  split
  · simp
  · exact h.1
theorem pb_len {x : Sd} {n : Nat} (h : x.upto n) : x.pb.length ≤ n := by
  unfold Sd.pb
  split
  · simp
  · split
    · exact h.2
    · simp
theorem upto_mono1 {x : Sd} (h : x.upto 1000000) : x.upto 2000000 := ⟨Nat.le_trans h.1 (by omega), Nat.le_trans h.2 (by omega)⟩
theorem off_take {A : Option Addr} {n m C g : Nat} (h : Off (.slice A n C) g) (hm : m ≤ n) : Off (.slice A m C) g := by
  intro a n' C' e hn
  cases e
  exact h a n C rfl (by omega)
def PCMid (w : World) (G0 : Nat → Prop) (p : Nat) (s : St) (keep : Int) (i : Nat) (wr : World) : Prop := ∃ G V x, POn w G0 wr G p V x.ts ∧ x.upto 2000000 ∧ x.fuse = s.fuse ∧
  ((i = 0 ∧ x = s) ∨ (i = 1 ∧ x = { s with s0 := s.s0.crash keep }) ∨ (i = 2 ∧ x = { s with s0 := s.s0.crash keep, s1 := s.s1.crash keep }))
theorem crash_up {s : Sd} {n : Nat} (h : s.upto n) (keep : Int) : (s.crash keep).upto (n + n) := by
  refine ⟨?_, by show ([] : List Nat).length ≤ _; simp⟩
  have := all_len s keep
  obtain ⟨h1, h2⟩ := h
  show (s.all keep).length ≤ _
  omega
theorem spoil_lost0 {w : World} {F : Nat → Prop} {p : Nat} {s : St} (h : PD w F p s) (hl : s.s0.lost = true) (l : List Nat) (u : Value) : Calls Try.prog 16 #[.pointer (some ⟨p, 0, none⟩), .int .i64 0, u] w fun e w' => e = .returned (.tuple #[]) ∧ Does PD F p (s.spoil 0 l) w w' := by
  obtain ⟨hz, V, h⟩ := h
  have hs : (s.spoil 0 l).ts = s.ts := by
    obtain ⟨⟨b0, l0, wet0, swap0, lost0⟩, ⟨b1, l1, wet1, swap1, lost1⟩, fuse, down⟩ := s
    have hl : lost0 = true := hl
    subst hl
    rfl
  have H := Lib.hid (show PD w F p (s.spoil 0 l) from ⟨hz, V, hs ▸ h⟩)
  have c3 : w.cell? ⟨p, 3, none⟩ = some (.bool s.s0.lost) := h.cell (i := 3) (by omega)
  rw [hl] at c3
  have HN := Lib.hid (side_yes0 w p)
  clear h hl hs hz
  go_enter Try.func16, Try.ntmps16
  go_wp2_with fail
  refine HN.out.mono ?_
  rintro _ w1 ⟨rfl, rfl⟩
  go_wp2
  go_end0
  exact ⟨rfl, F, H.out, Turned.refl _ _, Grown.refl _ _⟩
theorem spoil_0 {w : World} {F : Nat → Prop} {p : Nat} {s : St} (h : PD w F p s) (hl : s.s0.lost = false) (l : List Nat) (u : Value) (hu : Bytes w u l) (hll : l.length ≤ 4000000) : Calls Try.prog 16 #[.pointer (some ⟨p, 0, none⟩), .int .i64 0, u] w fun e w' => e = .returned (.tuple #[]) ∧ Does PD F p (s.spoil 0 l) w w' := by
  obtain ⟨hz, V, h⟩ := h
  have HT := Lib.hid (show (s.spoil 0 l).ts = { s.ts with l0 := l, b0 := [], w0 := false } by
    obtain ⟨⟨b0, l0, wet0, swap0, lost0⟩, ⟨b1, l1, wet1, swap1, lost1⟩, fuse, down⟩ := s
    have hl : lost0 = false := hl
    subst hl
    rfl)
  have c3 : w.cell? ⟨p, 3, none⟩ = some (.bool s.s0.lost) := h.cell (i := 3) (by omega)
  rw [hl] at c3
  have HO := Lib.hid h.on
  have HN := Lib.hid (side_yes0 w p)
  have HU := Lib.hid hu
  have HLL := Lib.hid hll
  obtain ⟨A, C, e, -, -, -⟩ := hu.shape
  obtain ⟨N, hN⟩ : ∃ N, l.length = N := ⟨_, rfl⟩
  rw [hN] at e
  subst e
  clear h hl hu hll hN
  go_enter Try.func16, Try.ntmps16
  go_wp2_with fail
  refine HN.out.mono ?_
  rintro _ w1 ⟨rfl, rfl⟩
  go_wp2_with fail
  refine (cloneC l _ _ HU.out HLL.out).mono ?_
  rintro _ w2 ⟨v2, rfl, hv2, hb2⟩
  have hp := HO.out.put (k := 0) 0 (u := v2) (t' := { s.ts with l0 := l }) (by omega) (hv2.lower (Nat.zero_le _)) (Turned.of_below _ hb2) (fresh_new hv2) (lt11 rfl rfl rfl rfl rfl rfl rfl rfl rfl rfl rfl) (by rintro j hj hne; revert hne; revert j; refine lt4 ?_ ?_ ?_ ?_ <;> intro hne <;> first | rfl | exact absurd rfl hne)
  obtain ⟨A2, D2, e2, -, -⟩ := hv2.len
  obtain ⟨N2, hN2⟩ : ∃ N, l.length = N := ⟨_, rfl⟩
  rw [hN2] at e2
  subst e2
  have k0 := hp.1.cell (i := 0) (by omega)
  have k1 := hp.1.cell (i := 1) (by omega)
  have k2 := hp.1.cell (i := 2) (by omega)
  have j0 := hp.1.frozen 0
  have j1 := hp.1.frozen 1
  have j2 := hp.1.frozen 2
  have HP := Lib.hid hp.2
  clear hp hv2 hb2 hN2
  go_wp2
  go_end0
  obtain ⟨G', hg⟩ := HP.out
  exact ⟨rfl, does_of hz (HT.out ▸ ((hg.nil 1 1 (t' := { s.ts with l0 := l, b0 := [] }) (by omega) (lt11 rfl rfl rfl rfl rfl rfl rfl rfl rfl rfl rfl) (by rintro j hj hne; revert hne; revert j; refine lt4 ?_ ?_ ?_ ?_ <;> intro hne <;> first | rfl | exact absurd rfl hne) rfl).set 2 (.bool false) (t' := { s.ts with l0 := l, b0 := [], w0 := false }) (lt11 rfl rfl rfl rfl rfl rfl rfl rfl rfl rfl rfl) (lt4 rfl rfl rfl rfl)))⟩
theorem spoil_lost1 {w : World} {F : Nat → Prop} {p : Nat} {s : St} (h : PD w F p s) (hl : s.s1.lost = true) (l : List Nat) (u : Value) : Calls Try.prog 16 #[.pointer (some ⟨p, 0, none⟩), .int .i64 1, u] w fun e w' => e = .returned (.tuple #[]) ∧ Does PD F p (s.spoil 1 l) w w' := by
  obtain ⟨hz, V, h⟩ := h
  have hs : (s.spoil 1 l).ts = s.ts := by
    obtain ⟨⟨b0, l0, wet0, swap0, lost0⟩, ⟨b1, l1, wet1, swap1, lost1⟩, fuse, down⟩ := s
    have hl : lost1 = true := hl
    subst hl
    rfl
  have H := Lib.hid (show PD w F p (s.spoil 1 l) from ⟨hz, V, hs ▸ h⟩)
  have c3 : w.cell? ⟨p, 7, none⟩ = some (.bool s.s1.lost) := h.cell (i := 7) (by omega)
  rw [hl] at c3
  have HN := Lib.hid (side_yes1 w p)
  clear h hl hs hz
  go_enter Try.func16, Try.ntmps16
  go_wp2_with fail
  refine HN.out.mono ?_
  rintro _ w1 ⟨rfl, rfl⟩
  go_wp2
  go_end0
  exact ⟨rfl, F, H.out, Turned.refl _ _, Grown.refl _ _⟩
theorem spoil_1 {w : World} {F : Nat → Prop} {p : Nat} {s : St} (h : PD w F p s) (hl : s.s1.lost = false) (l : List Nat) (u : Value) (hu : Bytes w u l) (hll : l.length ≤ 4000000) : Calls Try.prog 16 #[.pointer (some ⟨p, 0, none⟩), .int .i64 1, u] w fun e w' => e = .returned (.tuple #[]) ∧ Does PD F p (s.spoil 1 l) w w' := by
  obtain ⟨hz, V, h⟩ := h
  have HT := Lib.hid (show (s.spoil 1 l).ts = { s.ts with l1 := l, b1 := [], w1 := false } by
    obtain ⟨⟨b0, l0, wet0, swap0, lost0⟩, ⟨b1, l1, wet1, swap1, lost1⟩, fuse, down⟩ := s
    have hl : lost1 = false := hl
    subst hl
    rfl)
  have c3 : w.cell? ⟨p, 7, none⟩ = some (.bool s.s1.lost) := h.cell (i := 7) (by omega)
  rw [hl] at c3
  have HO := Lib.hid h.on
  have HN := Lib.hid (side_yes1 w p)
  have HU := Lib.hid hu
  have HLL := Lib.hid hll
  obtain ⟨A, C, e, -, -, -⟩ := hu.shape
  obtain ⟨N, hN⟩ : ∃ N, l.length = N := ⟨_, rfl⟩
  rw [hN] at e
  subst e
  clear h hl hu hll hN
  go_enter Try.func16, Try.ntmps16
  go_wp2_with fail
  refine HN.out.mono ?_
  rintro _ w1 ⟨rfl, rfl⟩
  go_wp2_with fail
  refine (cloneC l _ _ HU.out HLL.out).mono ?_
  rintro _ w2 ⟨v2, rfl, hv2, hb2⟩
  have hp := HO.out.put (k := 2) 4 (u := v2) (t' := { s.ts with l1 := l }) (by omega) (hv2.lower (Nat.zero_le _)) (Turned.of_below _ hb2) (fresh_new hv2) (lt11 rfl rfl rfl rfl rfl rfl rfl rfl rfl rfl rfl) (by rintro j hj hne; revert hne; revert j; refine lt4 ?_ ?_ ?_ ?_ <;> intro hne <;> first | rfl | exact absurd rfl hne)
  obtain ⟨A2, D2, e2, -, -⟩ := hv2.len
  obtain ⟨N2, hN2⟩ : ∃ N, l.length = N := ⟨_, rfl⟩
  rw [hN2] at e2
  subst e2
  have k0 := hp.1.cell (i := 4) (by omega)
  have k1 := hp.1.cell (i := 5) (by omega)
  have k2 := hp.1.cell (i := 6) (by omega)
  have j0 := hp.1.frozen 4
  have j1 := hp.1.frozen 5
  have j2 := hp.1.frozen 6
  have HP := Lib.hid hp.2
  clear hp hv2 hb2 hN2
  go_wp2
  go_end0
  obtain ⟨G', hg⟩ := HP.out
  exact ⟨rfl, does_of hz (HT.out ▸ ((hg.nil 3 5 (t' := { s.ts with l1 := l, b1 := [] }) (by omega) (lt11 rfl rfl rfl rfl rfl rfl rfl rfl rfl rfl rfl) (by rintro j hj hne; revert hne; revert j; refine lt4 ?_ ?_ ?_ ?_ <;> intro hne <;> first | rfl | exact absurd rfl hne) rfl).set 6 (.bool false) (t' := { s.ts with l1 := l, b1 := [], w1 := false }) (lt11 rfl rfl rfl rfl rfl rfl rfl rfl rfl rfl rfl) (lt4 rfl rfl rfl rfl)))⟩
set_option maxHeartbeats 8000000 in
theorem crashC {w : World} {F : Nat → Prop} {p : Nat} {s : St} (h : PD w F p s) (hu : s.upto 1000000) (keep : Int) (hk : I64 keep) : Calls Try.prog 13 #[.pointer (some ⟨p, 0, none⟩), .int .i64 keep] w fun e w' => e = .returned (.tuple #[]) ∧ Does PD F p (s.crash keep) w w' := by
  obtain ⟨hz, V, h⟩ := h
  obtain ⟨lk, uk⟩ := hk
  have HM0 := Lib.hid (show PCMid w F p s keep 0 w from ⟨F, V, s, h.on, upto_mono hu (by omega), rfl, .inl ⟨rfl, rfl⟩⟩)
  have HT := Lib.hid hu
  clear h hu
  go_enter Try.func13, Try.ntmps13
  go_wp2
  go_loopg [8] 2 (fun k c wr => ∃ i : Nat, i + k = 2 ∧ c = .int .i64 i ∧ PCMid w F p s keep i wr)
  case atStart => exact ⟨0, by omega, rfl, HM0.out⟩
  case round =>
    obtain ⟨i, hik, rfl, hmid⟩ := hrel
    rcases (by omega : i = 0 ∨ i = 1 ∨ i = 2) with rfl | rfl | rfl
    · obtain ⟨G1, V, x, hon, hsu, hxf, hs⟩ := hmid
      have HS := Lib.hid (show x = s by rcases hs with q | q | q; exact q.2; omega; omega)
      have HXF := Lib.hid hxf
      have HUP := Lib.hid (show x.s0.upto 1000000 from by rw [HS.out]; exact HT.out.1)
      have hr0 : Built ByteR wr 0 PU (V 0) x.s0.pl := hon.1.rows 0 (by omega)
      have hr1 : Built ByteR wr 0 PU (V 1) x.s0.pb := hon.1.rows 1 (by omega)
      have c0 : wr.cell? ⟨p, 0, none⟩ = some (V 0) := hon.1.cell (i := 0) (by omega)
      have c1 : wr.cell? ⟨p, 1, none⟩ = some (V 1) := hon.1.cell (i := 1) (by omega)
      have c2 : wr.cell? ⟨p, 2, none⟩ = some (.bool x.s0.pw) := hon.1.cell (i := 2) (by omega)
      obtain ⟨A0, D0, e0, -, -⟩ := hr0.len
      obtain ⟨A1, D1, e1, hd1, hd1'⟩ := hr1.len
      obtain ⟨N0, hN0⟩ : ∃ n, x.s0.pl.length = n := ⟨_, rfl⟩
      obtain ⟨N1, hN1⟩ : ∃ n, x.s0.pb.length = n := ⟨_, rfl⟩
      rw [hN0] at e0
      rw [hN1] at e1 hd1
      have hs1 : Bytes wr (.slice A1 N1 D1) x.s0.pb := e1 ▸ hr1.slice
      have hn1 : A1 = none → D1 = 0 := by obtain ⟨A', C', e', _, _, q⟩ := hs1.shape; cases e'; exact q
      have HN1 := Lib.hid hN1
      have HR0 := Lib.hid (show Built ByteR wr 0 PU (.slice A0 N0 D0) x.s0.pl from e0 ▸ hr0)
      have HS1 := Lib.hid hs1
      have HL0 := Lib.hid (pl_len HUP.out)
      have HL1 := Lib.hid (pb_len HUP.out)
      have HOFF := Lib.hid (fun (g : Nat) (q : (Value.slice A0 N0 D0).ownBlock = some g) => built_off (g := g) hr1 e1 (fun y => hon.1.apart 0 1 g (by omega) (by omega) (by omega) (by rw [e0]; exact q) y))
      have HE0 := Lib.hid e0
      have HO := Lib.hid hon
      have HCP := Lib.hid (crash_pl x.s0 keep)
      have HPUT := Lib.hid (fun (w2 w3 : World) (v3 : Value) (L : List Nat) (hb2 : Below wr.heap.size wr w2) (hv3 : Built ByteR w3 0 PU v3 L) (ht3 : Turned (fun b => (Value.slice A0 N0 D0).ownBlock = some b) w2 w3) (hf3 : ∀ b, v3.ownBlock = some b → (Value.slice A0 N0 D0).ownBlock = some b ∨ w2.heap.size ≤ b) =>
        (hon.below hb2).put (k := 0) 0 (u := v3) (t' := { x.ts with l0 := L }) (by omega) hv3 (by rw [e0]; exact ht3) (by unfold Fresh; rw [e0]; exact hf3) (lt11 rfl rfl rfl rfl rfl rfl rfl rfl rfl rfl rfl) (by rintro j hj hne; revert hne; revert j; refine lt4 ?_ ?_ ?_ ?_ <;> intro hne <;> first | rfl | exact absurd rfl hne))
      rw [e0] at c0
      rw [e1] at c1
      obtain ⟨y, hy⟩ : ∃ y, x.s0.pw = y := ⟨_, rfl⟩
      rw [hy] at c2 HCP
      clear hs hon e0 e1 hN0 hN1 hr0 hr1 hs1 hxf hsu hy
      cases y
      · have HKE := Lib.hid (fun (w : World) => kept_app w A1 N1 D1 hd1 hd1' hn1 keep lk uk)
        obtain ⟨M, hM⟩ : ∃ M, keptN keep N1 = M := ⟨_, rfl⟩
        have hM1 : M ≤ N1 := hM ▸ keptN_le keep N1
        rw [hM] at HKE
        have HM1 := Lib.hid hM1
        have HMM := Lib.hid hM
        clear hd1 hd1' hn1 hM hM1
        go_upto_region 5 with (fail)
        go_region_law (first
          | (go_simp; go_at_call 21; refine (HKE.out _).mono ?_; rintro _ w2 ⟨rfl, hb2⟩; have HB2 := Lib.hid ((show Below wr.heap.size wr wr.drew from below_drewN _ _ 1).trans hb2); have d0 := below_cell HB2.out _ _ c0; have HR2 := Lib.hid (HR0.out.below HB2.out); have HS2 := Lib.hid ((HS1.out.below HB2.out).take (j := M) (by rw [HN1.out]; exact HM1.out)); clear hb2)
          | (go_simp; go_at_call 22; refine (on_behind _ _ _ _ _ _ _ HS2.out HR2.out (fun g q => (off_take (HOFF.out g q) HM1.out)) (by have := HL0.out; have := HL1.out; rw [List.length_take]; omega)).mono ?_; rintro _ w3 ⟨v3, rfl, hv3, ht3, hf3⟩; have hp := HPUT.out _ _ _ _ HB2.out hv3 ht3 hf3; have HLEN := Lib.hid hv3.len; obtain ⟨A3, D3, e3, -, -⟩ := hv3.len; have k0 := hp.1.cell (i := 0) (by omega); have k1 := hp.1.cell (i := 1) (by omega); have k2 := hp.1.cell (i := 2) (by omega); have j0 := hp.1.frozen 0; have j1 := hp.1.frozen 1; have j2 := hp.1.frozen 2; have HP := Lib.hid hp.2; obtain ⟨N3, hN3⟩ : ∃ N, (List.length (x.s0.pl ++ x.s0.pb.take M)) = N := ⟨_, rfl⟩; rw [hN3] at e3; subst e3; clear hp hv3 ht3 hf3 HLEN hN3))
        all_goals
          clear k0 k1 k2 j0 j1 j2
          go_wp2_with fail
          go_roundg (1 - 0)
          case measure => omega
          case rel =>
            obtain ⟨G', hg⟩ := HP.out
            have hx := (hg.nil 1 1 (t' := { x.ts with l0 := x.s0.pl ++ x.s0.pb.take M, b0 := [] }) (by omega) (lt11 rfl rfl rfl rfl rfl rfl rfl rfl rfl rfl rfl) (by rintro j hj hne; revert hne; revert j; refine lt4 ?_ ?_ ?_ ?_ <;> intro hne <;> first | rfl | exact absurd rfl hne) rfl).set 2 (.bool false) (t' := { x.ts with l0 := x.s0.pl ++ x.s0.pb.take M, b0 := [], w0 := false }) (lt11 rfl rfl rfl rfl rfl rfl rfl rfl rfl rfl rfl) (lt4 rfl rfl rfl rfl)
            have et : ({ x with s0 := x.s0.crash keep } : St).ts = { x.ts with l0 := x.s0.pl ++ x.s0.pb.take M, b0 := [], w0 := false } := by
              have e1 := HCP.out
              rw [if_neg (by decide), HN1.out, HMM.out] at e1
              unfold St.ts
              simp only [e1, (crash_pb x.s0 keep).1, (crash_pb x.s0 keep).2]
              rfl
            rw [← et] at hx
            exact ⟨0 + 1, by omega, by go_num, G', _, _, hx, by rw [HS.out]; exact ⟨crash_up HT.out.1 keep, upto_mono1 HT.out.2⟩, HXF.out, .inr (.inl ⟨rfl, by rw [HS.out]⟩)⟩
      · have HN1' := Lib.hid hn1
        clear hd1 hd1' hn1
        by_cases hev : keep % 2 = 0
        · have HKE := Lib.hid (fun (w : World) => kept_even w A1 N1 D1 keep lk uk hev)
          have HEV := Lib.hid hev
          clear hev
          go_upto_region 5 with (fail)
          go_region_law (first
            | (go_simp; go_at_call 21; refine (HKE.out _).mono ?_; rintro _ w2 ⟨rfl, hb2⟩; have HB2 := Lib.hid ((show Below wr.heap.size wr wr.drew from below_drewN _ _ 1).trans hb2); have d0 := below_cell HB2.out _ _ c0; have HR2 := Lib.hid (HR0.out.below HB2.out); clear hb2)
            | (go_simp; go_at_call 22; refine (on_behind _ _ _ _ _ _ [] (RowIn.nil (fun _ => True) _).1 HR2.out (fun g q a n C e => by cases e) (by have := HL0.out; simp; omega)).mono ?_; rintro _ w3 ⟨v3, rfl, hv3, ht3, hf3⟩; rw [List.append_nil] at hv3; have hp := HPUT.out _ _ _ _ HB2.out hv3 ht3 hf3; obtain ⟨A3, D3, e3, -, -⟩ := hv3.len; have k0 := hp.1.cell (i := 0) (by omega); have k1 := hp.1.cell (i := 1) (by omega); have k2 := hp.1.cell (i := 2) (by omega); have j0 := hp.1.frozen 0; have j1 := hp.1.frozen 1; have j2 := hp.1.frozen 2; have HP := Lib.hid hp.2; obtain ⟨N3, hN3⟩ : ∃ N, (List.length (x.s0.pl)) = N := ⟨_, rfl⟩; rw [hN3] at e3; subst e3; clear hp hv3 ht3 hf3 hN3))
          all_goals
            clear k0 k1 k2 j0 j1 j2
            go_wp2_with fail
            go_roundg (1 - 0)
            case measure => omega
            case rel =>
              obtain ⟨G', hg⟩ := HP.out
              have hx := (hg.nil 1 1 (t' := { x.ts with l0 := x.s0.pl, b0 := [] }) (by omega) (lt11 rfl rfl rfl rfl rfl rfl rfl rfl rfl rfl rfl) (by rintro j hj hne; revert hne; revert j; refine lt4 ?_ ?_ ?_ ?_ <;> intro hne <;> first | rfl | exact absurd rfl hne) rfl).set 2 (.bool false) (t' := { x.ts with l0 := x.s0.pl, b0 := [], w0 := false }) (lt11 rfl rfl rfl rfl rfl rfl rfl rfl rfl rfl rfl) (lt4 rfl rfl rfl rfl)
              have et : ({ x with s0 := x.s0.crash keep } : St).ts = { x.ts with l0 := x.s0.pl, b0 := [], w0 := false } := by
                have e1 := HCP.out
                simp only [if_true, if_pos HEV.out] at e1
                unfold St.ts
                simp only [e1, (crash_pb x.s0 keep).1, (crash_pb x.s0 keep).2]
                rfl
              rw [← et] at hx
              exact ⟨0 + 1, by omega, by go_num, G', _, _, hx, by rw [HS.out]; exact ⟨crash_up HT.out.1 keep, upto_mono1 HT.out.2⟩, HXF.out, .inr (.inl ⟨rfl, by rw [HS.out]⟩)⟩
        · have HKE := Lib.hid (fun (w : World) => kept_odd w A1 N1 D1 keep lk uk hev)
          have HEV := Lib.hid hev
          clear hev
          go_upto_region 5 with (fail)
          go_region_law (first
            | (go_simp; go_at_call 21; refine (HKE.out _).mono ?_; rintro _ w2 ⟨rfl, hb2⟩; have HB2 := Lib.hid ((show Below wr.heap.size wr wr.drew from below_drewN _ _ 1).trans hb2); have d0 := below_cell HB2.out _ _ c0; have HS2 := Lib.hid (HS1.out.below HB2.out); clear hb2)
            | (go_simp; go_at_call 22; refine (on_whole _ _ _ _ _ _ HS2.out (by have := HL1.out; omega)).mono ?_; rintro _ w3 ⟨v3, rfl, hv3', hb3⟩; have hf3 : ∀ b, v3.ownBlock = some b → (Value.slice A0 N0 D0).ownBlock = some b ∨ w2.heap.size ≤ b := (fun b q => .inr (hv3'.own_lt b q).1); have hv3 := hv3'.lower (Nat.zero_le _); have ht3 := Turned.of_below (fun b => (Value.slice A0 N0 D0).ownBlock = some b) hb3; clear hv3' hb3; have hp := HPUT.out _ _ _ _ HB2.out hv3 ht3 hf3; obtain ⟨A3, D3, e3, -, -⟩ := hv3.len; have k0 := hp.1.cell (i := 0) (by omega); have k1 := hp.1.cell (i := 1) (by omega); have k2 := hp.1.cell (i := 2) (by omega); have j0 := hp.1.frozen 0; have j1 := hp.1.frozen 1; have j2 := hp.1.frozen 2; have HP := Lib.hid hp.2; obtain ⟨N3, hN3⟩ : ∃ N, (List.length (x.s0.pb)) = N := ⟨_, rfl⟩; rw [hN3] at e3; subst e3; clear hp hv3 ht3 hf3 hN3))
          all_goals
            clear k0 k1 k2 j0 j1 j2
            go_wp2_with fail
            go_roundg (1 - 0)
            case measure => omega
            case rel =>
              obtain ⟨G', hg⟩ := HP.out
              have hx := (hg.nil 1 1 (t' := { x.ts with l0 := x.s0.pb, b0 := [] }) (by omega) (lt11 rfl rfl rfl rfl rfl rfl rfl rfl rfl rfl rfl) (by rintro j hj hne; revert hne; revert j; refine lt4 ?_ ?_ ?_ ?_ <;> intro hne <;> first | rfl | exact absurd rfl hne) rfl).set 2 (.bool false) (t' := { x.ts with l0 := x.s0.pb, b0 := [], w0 := false }) (lt11 rfl rfl rfl rfl rfl rfl rfl rfl rfl rfl rfl) (lt4 rfl rfl rfl rfl)
              have et : ({ x with s0 := x.s0.crash keep } : St).ts = { x.ts with l0 := x.s0.pb, b0 := [], w0 := false } := by
                have e1 := HCP.out
                simp only [if_true, if_neg HEV.out] at e1
                unfold St.ts
                simp only [e1, (crash_pb x.s0 keep).1, (crash_pb x.s0 keep).2]
                rfl
              rw [← et] at hx
              exact ⟨0 + 1, by omega, by go_num, G', _, _, hx, by rw [HS.out]; exact ⟨crash_up HT.out.1 keep, upto_mono1 HT.out.2⟩, HXF.out, .inr (.inl ⟨rfl, by rw [HS.out]⟩)⟩
    · obtain ⟨G1, V, x, hon, hsu, hxf, hs⟩ := hmid
      have HS := Lib.hid (show x = { s with s0 := s.s0.crash keep } by rcases hs with q | q | q; omega; exact q.2; omega)
      have HXF := Lib.hid hxf
      have HUP := Lib.hid (show x.s1.upto 1000000 from by rw [HS.out]; exact HT.out.2)
      have hr0 : Built ByteR wr 0 PU (V 2) x.s1.pl := hon.1.rows 2 (by omega)
      have hr1 : Built ByteR wr 0 PU (V 3) x.s1.pb := hon.1.rows 3 (by omega)
      have c0 : wr.cell? ⟨p, 4, none⟩ = some (V 2) := hon.1.cell (i := 4) (by omega)
      have c1 : wr.cell? ⟨p, 5, none⟩ = some (V 3) := hon.1.cell (i := 5) (by omega)
      have c2 : wr.cell? ⟨p, 6, none⟩ = some (.bool x.s1.pw) := hon.1.cell (i := 6) (by omega)
      obtain ⟨A0, D0, e0, -, -⟩ := hr0.len
      obtain ⟨A1, D1, e1, hd1, hd1'⟩ := hr1.len
      obtain ⟨N0, hN0⟩ : ∃ n, x.s1.pl.length = n := ⟨_, rfl⟩
      obtain ⟨N1, hN1⟩ : ∃ n, x.s1.pb.length = n := ⟨_, rfl⟩
      rw [hN0] at e0
      rw [hN1] at e1 hd1
      have hs1 : Bytes wr (.slice A1 N1 D1) x.s1.pb := e1 ▸ hr1.slice
      have hn1 : A1 = none → D1 = 0 := by obtain ⟨A', C', e', _, _, q⟩ := hs1.shape; cases e'; exact q
      have HN1 := Lib.hid hN1
      have HR0 := Lib.hid (show Built ByteR wr 0 PU (.slice A0 N0 D0) x.s1.pl from e0 ▸ hr0)
      have HS1 := Lib.hid hs1
      have HL0 := Lib.hid (pl_len HUP.out)
      have HL1 := Lib.hid (pb_len HUP.out)
      have HOFF := Lib.hid (fun (g : Nat) (q : (Value.slice A0 N0 D0).ownBlock = some g) => built_off (g := g) hr1 e1 (fun y => hon.1.apart 2 3 g (by omega) (by omega) (by omega) (by rw [e0]; exact q) y))
      have HE0 := Lib.hid e0
      have HO := Lib.hid hon
      have HCP := Lib.hid (crash_pl x.s1 keep)
      have HPUT := Lib.hid (fun (w2 w3 : World) (v3 : Value) (L : List Nat) (hb2 : Below wr.heap.size wr w2) (hv3 : Built ByteR w3 0 PU v3 L) (ht3 : Turned (fun b => (Value.slice A0 N0 D0).ownBlock = some b) w2 w3) (hf3 : ∀ b, v3.ownBlock = some b → (Value.slice A0 N0 D0).ownBlock = some b ∨ w2.heap.size ≤ b) =>
        (hon.below hb2).put (k := 2) 4 (u := v3) (t' := { x.ts with l1 := L }) (by omega) hv3 (by rw [e0]; exact ht3) (by unfold Fresh; rw [e0]; exact hf3) (lt11 rfl rfl rfl rfl rfl rfl rfl rfl rfl rfl rfl) (by rintro j hj hne; revert hne; revert j; refine lt4 ?_ ?_ ?_ ?_ <;> intro hne <;> first | rfl | exact absurd rfl hne))
      rw [e0] at c0
      rw [e1] at c1
      obtain ⟨y, hy⟩ : ∃ y, x.s1.pw = y := ⟨_, rfl⟩
      rw [hy] at c2 HCP
      clear hs hon e0 e1 hN0 hN1 hr0 hr1 hs1 hxf hsu hy
      cases y
      · have HKE := Lib.hid (fun (w : World) => kept_app w A1 N1 D1 hd1 hd1' hn1 keep lk uk)
        obtain ⟨M, hM⟩ : ∃ M, keptN keep N1 = M := ⟨_, rfl⟩
        have hM1 : M ≤ N1 := hM ▸ keptN_le keep N1
        rw [hM] at HKE
        have HM1 := Lib.hid hM1
        have HMM := Lib.hid hM
        clear hd1 hd1' hn1 hM hM1
        go_upto_region 5 with (fail)
        go_region_law (first
          | (go_simp; go_at_call 21; refine (HKE.out _).mono ?_; rintro _ w2 ⟨rfl, hb2⟩; have HB2 := Lib.hid ((show Below wr.heap.size wr wr.drew from below_drewN _ _ 1).trans hb2); have d0 := below_cell HB2.out _ _ c0; have HR2 := Lib.hid (HR0.out.below HB2.out); have HS2 := Lib.hid ((HS1.out.below HB2.out).take (j := M) (by rw [HN1.out]; exact HM1.out)); clear hb2)
          | (go_simp; go_at_call 22; refine (on_behind _ _ _ _ _ _ _ HS2.out HR2.out (fun g q => (off_take (HOFF.out g q) HM1.out)) (by have := HL0.out; have := HL1.out; rw [List.length_take]; omega)).mono ?_; rintro _ w3 ⟨v3, rfl, hv3, ht3, hf3⟩; have hp := HPUT.out _ _ _ _ HB2.out hv3 ht3 hf3; have HLEN := Lib.hid hv3.len; obtain ⟨A3, D3, e3, -, -⟩ := hv3.len; have k0 := hp.1.cell (i := 4) (by omega); have k1 := hp.1.cell (i := 5) (by omega); have k2 := hp.1.cell (i := 6) (by omega); have j0 := hp.1.frozen 4; have j1 := hp.1.frozen 5; have j2 := hp.1.frozen 6; have HP := Lib.hid hp.2; obtain ⟨N3, hN3⟩ : ∃ N, (List.length (x.s1.pl ++ x.s1.pb.take M)) = N := ⟨_, rfl⟩; rw [hN3] at e3; subst e3; clear hp hv3 ht3 hf3 HLEN hN3))
        all_goals
          clear k0 k1 k2 j0 j1 j2
          go_wp2_with fail
          go_roundg (1 - 1)
          case measure => omega
          case rel =>
            obtain ⟨G', hg⟩ := HP.out
            have hx := (hg.nil 3 5 (t' := { x.ts with l1 := x.s1.pl ++ x.s1.pb.take M, b1 := [] }) (by omega) (lt11 rfl rfl rfl rfl rfl rfl rfl rfl rfl rfl rfl) (by rintro j hj hne; revert hne; revert j; refine lt4 ?_ ?_ ?_ ?_ <;> intro hne <;> first | rfl | exact absurd rfl hne) rfl).set 6 (.bool false) (t' := { x.ts with l1 := x.s1.pl ++ x.s1.pb.take M, b1 := [], w1 := false }) (lt11 rfl rfl rfl rfl rfl rfl rfl rfl rfl rfl rfl) (lt4 rfl rfl rfl rfl)
            have et : ({ x with s1 := x.s1.crash keep } : St).ts = { x.ts with l1 := x.s1.pl ++ x.s1.pb.take M, b1 := [], w1 := false } := by
              have e1 := HCP.out
              rw [if_neg (by decide), HN1.out, HMM.out] at e1
              unfold St.ts
              simp only [e1, (crash_pb x.s1 keep).1, (crash_pb x.s1 keep).2]
              rfl
            rw [← et] at hx
            exact ⟨1 + 1, by omega, by go_num, G', _, _, hx, by rw [HS.out]; exact ⟨crash_up HT.out.1 keep, crash_up HT.out.2 keep⟩, HXF.out, .inr (.inr ⟨rfl, by rw [HS.out]⟩)⟩
      · have HN1' := Lib.hid hn1
        clear hd1 hd1' hn1
        by_cases hev : keep % 2 = 0
        · have HKE := Lib.hid (fun (w : World) => kept_even w A1 N1 D1 keep lk uk hev)
          have HEV := Lib.hid hev
          clear hev
          go_upto_region 5 with (fail)
          go_region_law (first
            | (go_simp; go_at_call 21; refine (HKE.out _).mono ?_; rintro _ w2 ⟨rfl, hb2⟩; have HB2 := Lib.hid ((show Below wr.heap.size wr wr.drew from below_drewN _ _ 1).trans hb2); have d0 := below_cell HB2.out _ _ c0; have HR2 := Lib.hid (HR0.out.below HB2.out); clear hb2)
            | (go_simp; go_at_call 22; refine (on_behind _ _ _ _ _ _ [] (RowIn.nil (fun _ => True) _).1 HR2.out (fun g q a n C e => by cases e) (by have := HL0.out; simp; omega)).mono ?_; rintro _ w3 ⟨v3, rfl, hv3, ht3, hf3⟩; rw [List.append_nil] at hv3; have hp := HPUT.out _ _ _ _ HB2.out hv3 ht3 hf3; obtain ⟨A3, D3, e3, -, -⟩ := hv3.len; have k0 := hp.1.cell (i := 4) (by omega); have k1 := hp.1.cell (i := 5) (by omega); have k2 := hp.1.cell (i := 6) (by omega); have j0 := hp.1.frozen 4; have j1 := hp.1.frozen 5; have j2 := hp.1.frozen 6; have HP := Lib.hid hp.2; obtain ⟨N3, hN3⟩ : ∃ N, (List.length (x.s1.pl)) = N := ⟨_, rfl⟩; rw [hN3] at e3; subst e3; clear hp hv3 ht3 hf3 hN3))
          all_goals
            clear k0 k1 k2 j0 j1 j2
            go_wp2_with fail
            go_roundg (1 - 1)
            case measure => omega
            case rel =>
              obtain ⟨G', hg⟩ := HP.out
              have hx := (hg.nil 3 5 (t' := { x.ts with l1 := x.s1.pl, b1 := [] }) (by omega) (lt11 rfl rfl rfl rfl rfl rfl rfl rfl rfl rfl rfl) (by rintro j hj hne; revert hne; revert j; refine lt4 ?_ ?_ ?_ ?_ <;> intro hne <;> first | rfl | exact absurd rfl hne) rfl).set 6 (.bool false) (t' := { x.ts with l1 := x.s1.pl, b1 := [], w1 := false }) (lt11 rfl rfl rfl rfl rfl rfl rfl rfl rfl rfl rfl) (lt4 rfl rfl rfl rfl)
              have et : ({ x with s1 := x.s1.crash keep } : St).ts = { x.ts with l1 := x.s1.pl, b1 := [], w1 := false } := by
                have e1 := HCP.out
                simp only [if_true, if_pos HEV.out] at e1
                unfold St.ts
                simp only [e1, (crash_pb x.s1 keep).1, (crash_pb x.s1 keep).2]
                rfl
              rw [← et] at hx
              exact ⟨1 + 1, by omega, by go_num, G', _, _, hx, by rw [HS.out]; exact ⟨crash_up HT.out.1 keep, crash_up HT.out.2 keep⟩, HXF.out, .inr (.inr ⟨rfl, by rw [HS.out]⟩)⟩
        · have HKE := Lib.hid (fun (w : World) => kept_odd w A1 N1 D1 keep lk uk hev)
          have HEV := Lib.hid hev
          clear hev
          go_upto_region 5 with (fail)
          go_region_law (first
            | (go_simp; go_at_call 21; refine (HKE.out _).mono ?_; rintro _ w2 ⟨rfl, hb2⟩; have HB2 := Lib.hid ((show Below wr.heap.size wr wr.drew from below_drewN _ _ 1).trans hb2); have d0 := below_cell HB2.out _ _ c0; have HS2 := Lib.hid (HS1.out.below HB2.out); clear hb2)
            | (go_simp; go_at_call 22; refine (on_whole _ _ _ _ _ _ HS2.out (by have := HL1.out; omega)).mono ?_; rintro _ w3 ⟨v3, rfl, hv3', hb3⟩; have hf3 : ∀ b, v3.ownBlock = some b → (Value.slice A0 N0 D0).ownBlock = some b ∨ w2.heap.size ≤ b := (fun b q => .inr (hv3'.own_lt b q).1); have hv3 := hv3'.lower (Nat.zero_le _); have ht3 := Turned.of_below (fun b => (Value.slice A0 N0 D0).ownBlock = some b) hb3; clear hv3' hb3; have hp := HPUT.out _ _ _ _ HB2.out hv3 ht3 hf3; obtain ⟨A3, D3, e3, -, -⟩ := hv3.len; have k0 := hp.1.cell (i := 4) (by omega); have k1 := hp.1.cell (i := 5) (by omega); have k2 := hp.1.cell (i := 6) (by omega); have j0 := hp.1.frozen 4; have j1 := hp.1.frozen 5; have j2 := hp.1.frozen 6; have HP := Lib.hid hp.2; obtain ⟨N3, hN3⟩ : ∃ N, (List.length (x.s1.pb)) = N := ⟨_, rfl⟩; rw [hN3] at e3; subst e3; clear hp hv3 ht3 hf3 hN3))
          all_goals
            clear k0 k1 k2 j0 j1 j2
            go_wp2_with fail
            go_roundg (1 - 1)
            case measure => omega
            case rel =>
              obtain ⟨G', hg⟩ := HP.out
              have hx := (hg.nil 3 5 (t' := { x.ts with l1 := x.s1.pb, b1 := [] }) (by omega) (lt11 rfl rfl rfl rfl rfl rfl rfl rfl rfl rfl rfl) (by rintro j hj hne; revert hne; revert j; refine lt4 ?_ ?_ ?_ ?_ <;> intro hne <;> first | rfl | exact absurd rfl hne) rfl).set 6 (.bool false) (t' := { x.ts with l1 := x.s1.pb, b1 := [], w1 := false }) (lt11 rfl rfl rfl rfl rfl rfl rfl rfl rfl rfl rfl) (lt4 rfl rfl rfl rfl)
              have et : ({ x with s1 := x.s1.crash keep } : St).ts = { x.ts with l1 := x.s1.pb, b1 := [], w1 := false } := by
                have e1 := HCP.out
                simp only [if_true, if_neg HEV.out] at e1
                unfold St.ts
                simp only [e1, (crash_pb x.s1 keep).1, (crash_pb x.s1 keep).2]
                rfl
              rw [← et] at hx
              exact ⟨1 + 1, by omega, by go_num, G', _, _, hx, by rw [HS.out]; exact ⟨crash_up HT.out.1 keep, crash_up HT.out.2 keep⟩, HXF.out, .inr (.inr ⟨rfl, by rw [HS.out]⟩)⟩
    · obtain ⟨G1, V, x, hon, hsu, hxf, hs⟩ := hmid
      have HS := Lib.hid (show x = { s with s0 := s.s0.crash keep, s1 := s.s1.crash keep } by rcases hs with q | q | q; omega; omega; exact q.2)
      have k8 := hon.1.cell (i := 8) (by omega)
      have k9 := hon.1.cell (i := 9) (by omega)
      have k10 := hon.1.cell (i := 10) (by omega)
      have j8 := hon.1.free 8
      have j9 := hon.1.free 9
      have j10 := hon.1.free 10
      have HO := Lib.hid hon
      clear hs hon hxf hsu
      go_wp2
      go_end0
      have hx := ((HO.out.set 8 (.bool false) (t' := { x.ts with f := false }) (lt11 rfl rfl rfl rfl rfl rfl rfl rfl rfl rfl rfl) (lt4 rfl rfl rfl rfl)).set 9 (.int .i64 0) (t' := { x.ts with f := false, n := 0 }) (lt11 rfl rfl rfl rfl rfl rfl rfl rfl rfl rfl rfl) (lt4 rfl rfl rfl rfl)).set 10 (.bool false) (t' := { x.ts with f := false, n := 0, d := false }) (lt11 rfl rfl rfl rfl rfl rfl rfl rfl rfl rfl rfl) (lt4 rfl rfl rfl rfl)
      have et : (s.crash keep).ts = { x.ts with f := false, n := 0, d := false } := by rw [HS.out]; rfl
      exact ⟨rfl, does_of (by show (-1 : Int) ≤ _; omega) (et ▸ hx)⟩
end Go.Proofs.Ytndponihilfidaa.Tape
