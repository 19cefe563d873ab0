/- The program's write to its tapes. -/
import Derived.Test.YtndponihilfidaaPtRead
import Derived.Test.YtndponihilfidaaRefWrite
namespace Go.Proofs.Ytndponihilfidaa.Tape
set_option linter.unusedVariables false
open Go.ChangeShapes Go.WideShapes Go.ChangeAt Go.RowKit
open Go.Mem Tp
theorem box_kept {F : Nat → Prop} {w1 wr : World} (ht : Turned F w1 wr) {B o : Nat} (hB : B < w1.heap.size) (hn : ¬ F B) {c : Value} (hc : w1.cell? ⟨B, o, none⟩ = some c) : wr.cell? ⟨B, o, none⟩ = some c := (World.cell?_of_block (w := w1) (a := ⟨B, o, none⟩) (ht.block B hB hn)).trans hc
theorem off_arg {F : Nat → Prop} {w : World} {A : Option Addr} {n C : Nat} {l : List Nat} (h : RowIn (fun b => ¬ F b) w (.slice A n C) l) {g : Nat} (hg : F g ∨ w.heap.size ≤ g) : Off (.slice A n C) g := by
  intro a n' C' e hn q
  have h2 := h.2 a n' C' e hn
  have h3 := h.1
  rw [e] at h3
  obtain ⟨A', m, C'', e1, e2, _, _, _, h6⟩ := h3
  cases e1
  obtain ⟨b, o, c, k1, k2, k3⟩ := h6 0 (by omega)
  cases k1
  have := World.block_lt_of_cell? _ _ k2
  simp only at *
  subst q
  rcases hg with k | k
  · exact h2 k
  · omega
theorem pt_does {w w1 w' : World} {F G' : Nat → Prop} {p : Nat} {V : Nat → Value} {s : St} (hb : Below w.heap.size w w1) (hz : s.fuse ≤ 9223372036854775807) (h : POn w1 F w' G' p V s.ts) : Does PD F p s w w' :=
  ⟨G', ⟨hz, V, h.1⟩, (Turned.of_below F hb).trans h.2.1 (Grown.refl _ _), fun b q => (h.2.2 b q).imp id (fun k => Nat.le_trans hb.size k)⟩
def PMid (w1 : World) (G0 : Nat → Prop) (p : Nat) (t : St) (l : List Nat) (sw : Bool) (i : Nat) (wr : World) : Prop := ∃ G V s, POn w1 G0 wr G p V s.ts ∧ s.down = false ∧ s.upto 2000000 ∧ s.fuse ≤ 9223372036854775807 ∧
  ((i = 0 ∧ s = t) ∨ (i = 1 ∧ goes t.s0 t.fuse = false ∧ s = t.stepN 0 l sw) ∨ (i = 2 ∧ goes t.s0 t.fuse = false ∧ goes (t.stepN 0 l sw).s1 (t.stepN 0 l sw).fuse = false ∧ s = (t.stepN 0 l sw).stepN 1 l sw))
theorem PMid.mk1 {w : World} {G0 : Nat → Prop} {p : Nat} {t s s' : St} {l : List Nat} {sw : Bool} {wr : World} {G : Nat → Prop} {V : Nat → Value} (hx : POn w G0 wr G p V s'.ts) (e : s.stepN 0 l sw = s') (HS : s = t) (hg : goes s.s0 s.fuse = false) (hd : s'.down = false) (ht : t.upto 1000000) (hl : l.length ≤ 1000) (hz : s'.fuse ≤ 9223372036854775807) : PMid w G0 p t l sw 1 wr := by
  subst HS
  exact ⟨G, V, s', hx, hd, e ▸ upto_mono (step_upto0 ht hl sw 0) (by omega), hz, .inr (.inl ⟨rfl, hg, e.symm⟩)⟩
theorem PMid.mk2 {w : World} {G0 : Nat → Prop} {p : Nat} {t s s' : St} {l : List Nat} {sw : Bool} {wr : World} {G : Nat → Prop} {V : Nat → Value} (hx : POn w G0 wr G p V s'.ts) (e : s.stepN 1 l sw = s') (HS : goes t.s0 t.fuse = false ∧ s = t.stepN 0 l sw) (hg : goes s.s1 s.fuse = false) (hd : s'.down = false) (ht : t.upto 1000000) (hl : l.length ≤ 1000) (hz : s'.fuse ≤ 9223372036854775807) : PMid w G0 p t l sw 2 wr := by
  obtain ⟨h0, HS⟩ := HS
  subst HS
  exact ⟨G, V, s', hx, hd, e ▸ step_upto1 (step_upto0 ht hl sw 0) hl sw 1, hz, .inr (.inr ⟨rfl, h0, hg, e.symm⟩)⟩
theorem pl_up {x : Sd} {n : Nat} (h : x.upto n) : x.pl.length ≤ n := by
  unfold Sd.pl
  split
  · simp
  · exact h.1
theorem ts_fuse (s : St) (f : Int) (h : s.fuse = f) (hf : 0 < f) : ({ s with fuse := f - 1 } : St).ts = { s.ts with n := f - 1 } := by
  unfold St.ts
  simp only [h, decide_eq_true (show 0 ≤ f - 1 by omega), decide_eq_true (show 0 ≤ f by omega), if_pos (show 0 ≤ f - 1 by omega)]
theorem on_ts {w1 w' : World} {F G' : Nat → Prop} {p : Nat} {V : Nat → Value} {S : St} {T : Ts} (e : S.ts = T) (h : POn w1 F w' G' p V T) : POn w1 F w' G' p V S.ts := by rw [e]; exact h
def PPost (w : World) (F : Nat → Prop) (p : Nat) (s : St) (l : List Nat) (sw : Bool) (e : Ending) (w' : World) : Prop := e = .returned (.int .i64 s.writeE) ∧ Does PD F p (s.write l sw) w w'
theorem ts_out_0 (s : St) (h : s.s0.lost = false) (l : List Nat) (sw : Bool) : ({ s with s0 := ⟨s.s0.b, l, true, sw, s.s0.lost⟩, down := true } : St).ts = { s.ts with d := true, b0 := l, w0 := sw } := by
  obtain ⟨⟨b0, l0, wet0, swap0, lost0⟩, ⟨b1, l1, wet1, swap1, lost1⟩, fuse, down⟩ := s
  have h : lost0 = false := h
  subst h
  rfl
theorem ts_put_0 (s : St) (h : s.s0.lost = false) (x : List Nat) : ({ s with s0 := { s.s0 with b := x } } : St).ts = { s.ts with l0 := x } ∧ s.s0.pl = s.s0.b := by
  obtain ⟨⟨b0, l0, wet0, swap0, lost0⟩, ⟨b1, l1, wet1, swap1, lost1⟩, fuse, down⟩ := s
  have h : lost0 = false := h
  subst h
  exact ⟨rfl, rfl⟩
theorem ts_pos_0 (s : St) (h : s.s0.lost = false) (z : Int) (hz : s.fuse = z) (hp : 0 < z) (x : List Nat) : ({ ({ s with fuse := s.fuse - 1 } : St) with s0 := { ({ s with fuse := s.fuse - 1 } : St).s0 with b := x } } : St).ts = { ({ s.ts with n := z - 1 } : Ts) with l0 := x } := by
  subst hz
  rw [(ts_put_0 ({ s with fuse := s.fuse - 1 } : St) h x).1, ts_fuse s s.fuse rfl hp]
theorem ts_out_1 (s : St) (h : s.s1.lost = false) (l : List Nat) (sw : Bool) : ({ s with s1 := ⟨s.s1.b, l, true, sw, s.s1.lost⟩, down := true } : St).ts = { s.ts with d := true, b1 := l, w1 := sw } := by
  obtain ⟨⟨b0, l0, wet0, swap0, lost0⟩, ⟨b1, l1, wet1, swap1, lost1⟩, fuse, down⟩ := s
  have h : lost1 = false := h
  subst h
  rfl
theorem ts_put_1 (s : St) (h : s.s1.lost = false) (x : List Nat) : ({ s with s1 := { s.s1 with b := x } } : St).ts = { s.ts with l1 := x } ∧ s.s1.pl = s.s1.b := by
  obtain ⟨⟨b0, l0, wet0, swap0, lost0⟩, ⟨b1, l1, wet1, swap1, lost1⟩, fuse, down⟩ := s
  have h : lost1 = false := h
  subst h
  exact ⟨rfl, rfl⟩
theorem ts_pos_1 (s : St) (h : s.s1.lost = false) (z : Int) (hz : s.fuse = z) (hp : 0 < z) (x : List Nat) : ({ ({ s with fuse := s.fuse - 1 } : St) with s1 := { ({ s with fuse := s.fuse - 1 } : St).s1 with b := x } } : St).ts = { ({ s.ts with n := z - 1 } : Ts) with l1 := x } := by
  subst hz
  rw [(ts_put_1 ({ s with fuse := s.fuse - 1 } : St) h x).1, ts_fuse s s.fuse rfl hp]
set_option maxHeartbeats 1000000 in
theorem pwrite_down {w : World} {F : Nat → Prop} {p : Nat} {t : St} (h : PD w F p t) (ht : t.upto 1000000) (l : List Nat) (u : Value) (hu : RowIn (fun b => ¬ F b) w u l) (hl : l.length ≤ 1000) (sw : Bool) (hd : t.down = true) :
    Calls Try.prog 20 #[.pointer (some ⟨p, 0, none⟩), .agg #[u, .bool sw]] w (PPost w F p t l sw) := by
  obtain ⟨A0, C0', rfl, -, -, -⟩ := hu.1.shape
  obtain ⟨hz, V, h⟩ := h
  have hx : Below w.heap.size w (w.alloc (.cells #[.slice A0 l.length C0', .bool sw] 49)) := (Below.refl _ _).alloc (Nat.le_refl _) _
  have HWK := Lib.hid (worksC (h.below hx))
  have HW := Lib.hid (write_down hd l sw)
  have HE := Lib.hid (show worksE t.ts = 9 by exact if_pos hd)
  rw [HE.out] at HWK
  have HD := Lib.hid (show Does PD F p t w (w.alloc (.cells #[.slice A0 l.length C0', .bool sw] 49)) from pt_does (w1 := w) (Below.refl _ _) hz ((h.on).below hx))
  obtain ⟨N0, hN0⟩ : ∃ n, l.length = n := ⟨_, rfl⟩
  rw [hN0] at HWK HD ⊢
  clear h ht hu hl hx hN0 hz hd
  go_enter Try.func20, Try.ntmps20
  go_wp2_with fail
  refine HWK.out.mono ?_
  rintro _ w2 ⟨rfl, rfl⟩
  go_wp2
  go_ret
  exact ⟨by rw [HW.out.2]; rfl, by rw [HW.out.1]; exact HD.out⟩
set_option maxHeartbeats 1000000 in
theorem pwrite_lost {w : World} {F : Nat → Prop} {p : Nat} {t : St} (h : PD w F p t) (ht : t.upto 1000000) (l : List Nat) (u : Value) (hu : RowIn (fun b => ¬ F b) w u l) (hl : l.length ≤ 1000) (sw : Bool) (hd : t.down = false) (hb : t.s0.lost = true ∧ t.s1.lost = true) :
    Calls Try.prog 20 #[.pointer (some ⟨p, 0, none⟩), .agg #[u, .bool sw]] w (PPost w F p t l sw) := by
  obtain ⟨A0, C0', rfl, -, -, -⟩ := hu.1.shape
  obtain ⟨hz, V, h⟩ := h
  have hx : Below w.heap.size w (w.alloc (.cells #[.slice A0 l.length C0', .bool sw] 49)) := (Below.refl _ _).alloc (Nat.le_refl _) _
  have HWK := Lib.hid (worksC (h.below hx))
  have HW := Lib.hid (write_lost hd hb l sw)
  have HE := Lib.hid (show worksE t.ts = 8 by exact (if_neg (by show ¬ t.down = true; rw [hd]; decide)).trans (if_pos hb))
  rw [HE.out] at HWK
  have HD := Lib.hid (show Does PD F p t w (w.alloc (.cells #[.slice A0 l.length C0', .bool sw] 49)) from pt_does (w1 := w) (Below.refl _ _) hz ((h.on).below hx))
  obtain ⟨N0, hN0⟩ : ∃ n, l.length = n := ⟨_, rfl⟩
  rw [hN0] at HWK HD ⊢
  clear h ht hu hl hx hN0 hz hd hb
  go_enter Try.func20, Try.ntmps20
  go_wp2_with fail
  refine HWK.out.mono ?_
  rintro _ w2 ⟨rfl, rfl⟩
  go_wp2
  go_ret
  exact ⟨by rw [HW.out.2]; rfl, by rw [HW.out.1]; exact HD.out⟩
set_option maxHeartbeats 8000000 in
theorem pwrite_go {w : World} {F : Nat → Prop} {p : Nat} {t : St} (h : PD w F p t) (ht : t.upto 1000000) (l : List Nat) (u : Value) (hu : RowIn (fun b => ¬ F b) w u l) (hl : l.length ≤ 1000) (sw : Bool) (hd : t.down = false) (hb : ¬ (t.s0.lost = true ∧ t.s1.lost = true)) :
    Calls Try.prog 20 #[.pointer (some ⟨p, 0, none⟩), .agg #[u, .bool sw]] w (PPost w F p t l sw) := by
  obtain ⟨A0, C0', rfl, -, -, -⟩ := hu.1.shape
  obtain ⟨hz, V, h⟩ := h
  obtain ⟨w1, hw1⟩ : ∃ w1, w1 = w.alloc (.cells #[.slice A0 l.length C0', .bool sw] 49) := ⟨_, rfl⟩
  have hx : Below w.heap.size w w1 := by rw [hw1]; exact (Below.refl _ _).alloc (Nat.le_refl _) _
  have HX := Lib.hid hx
  have HF := Lib.hid (show ¬ F w.heap.size from fun q => by have := h.lt _ q; omega)
  have HB := Lib.hid (show w.heap.size < w1.heap.size by rw [hw1]; simp)
  have HC0 := Lib.hid (show w1.cell? ⟨w.heap.size, 0, none⟩ = some (.slice A0 l.length C0') by rw [hw1]; exact cell_of_row _ _ _ _ _ _ (heap_alloc_new w _))
  have HC1 := Lib.hid (show w1.cell? ⟨w.heap.size, 1, none⟩ = some (.bool sw) by rw [hw1]; exact cell_of_row _ _ _ _ _ _ (heap_alloc_new w _))
  have HWK := Lib.hid (worksC (h.below hx))
  have HE := Lib.hid (show worksE t.ts = 0 from (if_neg (by show ¬ t.down = true; rw [hd]; decide)).trans (if_neg hb))
  rw [HE.out] at HWK
  have HM0 := Lib.hid (show PMid w1 F p t l sw 0 w1 from ⟨F, V, t, (h.below hx).on, hd, upto_mono ht (by omega), hz, .inl ⟨rfl, rfl⟩⟩)
  have HD := Lib.hid hd
  have HBB := Lib.hid hb
  have HT := Lib.hid ht
  have HLL := Lib.hid hl
  have HU := Lib.hid (fun w' (q : Turned F w1 w') => hu.turned ((Turned.of_below F hx).trans q (Grown.refl _ _)))
  have HOF := Lib.hid (fun (g : Nat) (q : F g ∨ w.heap.size ≤ g) => off_arg hu q)
  obtain ⟨N0, hN0⟩ : ∃ n, l.length = n := ⟨_, rfl⟩
  rw [hN0] at HU HC0 HOF hw1 ⊢
  obtain ⟨B, hB⟩ : ∃ B, w.heap.size = B := ⟨_, rfl⟩
  have HW1 := Lib.hid hw1
  have HBE := Lib.hid hB
  rw [hB] at HF HB HC0 HC1
  clear h hd hb ht hl hu hz hx hN0 hw1 hB
  go_enter Try.func20, Try.ntmps20
  go_wp2_with fail
  rw [← HW1.out, HBE.out]
  refine HWK.out.mono ?_
  rintro _ w2 ⟨rfl, hw2⟩
  subst hw2
  go_upto_region 4 with (fail)
  go_wp2_with fail
  go_loopg [13] 2 (fun k c wr => ∃ i : Nat, i + k = 2 ∧ c = .int .i64 i ∧ PMid w1 F p t l sw i wr)
  case atStart => exact ⟨0, by omega, rfl, HM0.out⟩
  case round =>
    obtain ⟨i, hik, rfl, hmid⟩ := hrel
    rcases (by omega : i = 0 ∨ i = 1 ∨ i = 2) with rfl | rfl | rfl
    · obtain ⟨G1, V1, s, hon, hsd, hsu, hsz, hs⟩ := hmid
      have HS := Lib.hid (show s = t by rcases hs with q | q | q; exact q.2; omega; omega)
      clear hs
      have d3 : wr.cell? ⟨p, 3, none⟩ = some (.bool s.s0.lost) := hon.1.cell (i := 3) (by omega)
      have HO := Lib.hid hon
      have HSD := Lib.hid hsd
      have HSU := Lib.hid hsu
      have HSZ := Lib.hid hsz
      clear hon hsd hsu hsz
      by_cases hlo : s.s0.lost = true
      · have HQ := Lib.hid (stepN_lost0 hlo HSD.out l sw)
        rw [hlo] at d3
        clear hlo
        go_wp2_with fail
        go_roundg (1 - 0)
        case measure => omega
        case rel => exact ⟨0 + 1, by omega, by go_num, PMid.mk1 HO.out (by rw [HQ.out.1]) HS.out HQ.out.2 HSD.out HT.out HLL.out HSZ.out⟩
      have hlo' : s.s0.lost = false := by simpa using hlo
      rw [hlo'] at d3
      have HL0 := Lib.hid hlo'
      clear hlo hlo'
      by_cases hf : s.fuse = 0
      · have HQ := Lib.hid (stepN_goes0 HL0.out hf l sw)
        have HN := Lib.hid (spend_out HO.out.1 (by show decide (0 ≤ s.fuse) = true; rw [hf]; rfl) (by show (if 0 ≤ s.fuse then s.fuse else 0) = 0; rw [hf]; rfl))
        have HFZ := Lib.hid hf
        clear hf
        go_wp2_with fail
        refine HN.out.mono ?_
        rintro _ wz ⟨rfl, hwz⟩
        have hoz : POn w1 F wz G1 p V1 { s.ts with d := true } := hwz ▸ HO.out.set 10 (.bool true) (t' := { s.ts with d := true }) (lt11 rfl rfl rfl rfl rfl rfl rfl rfl rfl rfl rfl) (lt4 rfl rfl rfl rfl)
        have z0 := box_kept hoz.2.1 HB.out HF.out HC0.out
        have z1 := box_kept hoz.2.1 HB.out HF.out HC1.out
        have HUZ := Lib.hid ((HU.out _ hoz.2.1).below (below_drewN _ _ 1))
        have HB1 := Lib.hid (show B < wz.heap.size from Nat.lt_of_lt_of_le HB.out hoz.2.1.size)
        have HO1 := Lib.hid (hoz.below (below_drewN _ _ 1))
        clear hwz hoz
        go_upto_region 10 with (fail)
        go_region_law (go_simp; go_at_call 24; refine (cloneC l _ _ HUZ.out (by have := HLL.out; omega)).mono ?_; rintro _ w3 ⟨v3, rfl, hv3, hb3⟩; have hp := HO1.out.put (k := 1) 1 (u := v3) (t' := { s.ts with d := true, b0 := l }) (by omega) (hv3.lower (Nat.zero_le _)) (Turned.of_below _ hb3) (fresh_new hv3) (lt11 rfl rfl rfl rfl rfl rfl rfl rfl rfl rfl rfl) (by rintro j hj hne; revert hne; revert j; refine lt4 ?_ ?_ ?_ ?_ <;> intro hne <;> first | rfl | exact absurd rfl hne); obtain ⟨A3, D3, e3, -, -⟩ := hv3.len; have y1 : w3.cell? ⟨B, 1, none⟩ = some (.bool sw) := below_cell ((show Below wz.heap.size wz wz.drew from below_drewN _ _ 1).trans hb3) _ _ z1; have k1 := hp.1.cell (i := 1) (by omega); have k2 := hp.1.cell (i := 2) (by omega); have j1 := hp.1.frozen 1; have j2 := hp.1.frozen 2; have HP := Lib.hid hp.2; obtain ⟨N3, hN3⟩ : ∃ N, l.length = N := ⟨_, rfl⟩; rw [hN3] at e3; subst e3; clear hp hv3 hb3 hN3)
        all_goals
          clear k1 k2 j1 j2 y1 z0 z1
          go_wp2_with fail
          go_ret
          obtain ⟨G', hg⟩ := HP.out
          have hx := hg.set 2 (.bool sw) (t' := { s.ts with d := true, b0 := l, w0 := sw }) (lt11 rfl rfl rfl rfl rfl rfl rfl rfl rfl rfl rfl) (lt4 rfl rfl rfl rfl)
          rw [← ts_out_0 s HL0.out l sw] at hx
          have hw := write_first HD.out HBB.out (HS.out ▸ HQ.out.2) l sw
          exact ⟨by rw [hw.2]; rfl, by rw [hw.1, ← HS.out, HQ.out.1]; exact pt_does HX.out (by rw [HFZ.out]; decide) hx⟩
      · rcases (by omega : 0 < s.fuse ∨ s.fuse < 0) with hp | hp
        · obtain ⟨z, hz⟩ : ∃ z, s.fuse = z := ⟨_, rfl⟩
          have HN := Lib.hid (spend_one HO.out.1 (by show decide (0 ≤ s.fuse) = true; exact decide_eq_true (by omega)) z (by show (if 0 ≤ s.fuse then s.fuse else 0) = z; rw [if_pos (by omega)]; exact hz) (by omega) (by have := HSZ.out; omega))
          have HZZ := Lib.hid (show z - 1 ≤ 9223372036854775807 by have := HSZ.out; omega)
          have HTF := Lib.hid (ts_fuse s z hz (by omega))
          have HPP := Lib.hid hp
          have HZ := Lib.hid hz
          clear hf hp hz
          go_wp2_with fail
          refine HN.out.mono ?_
          rintro _ wz ⟨rfl, hwz⟩
          have HO1 := Lib.hid (show POn w1 F wz G1 p V1 { s.ts with n := z - 1 } from hwz ▸ HO.out.set 9 (.int .i64 (z - 1)) (t' := { s.ts with n := z - 1 }) (lt11 rfl rfl rfl rfl rfl rfl rfl rfl rfl rfl rfl) (lt4 rfl rfl rfl rfl))
          clear hwz
          have hr0 : Built ByteR wz 0 PU (V1 0) s.s0.pl := HO1.out.1.rows 0 (by omega)
          obtain ⟨AB, DB, eB, -, -⟩ := hr0.len
          obtain ⟨NB, hNB⟩ : ∃ n, s.s0.pl.length = n := ⟨_, rfl⟩
          rw [hNB] at eB
          have c0 : wz.cell? ⟨p, 0, none⟩ = some (V1 0) := HO1.out.1.cell (i := 0) (by omega)
          have HOV := Lib.hid (fun (g : Nat) (q : (Value.slice AB NB DB).ownBlock = some g) => HOF.out g (by
            have k := HO1.out.1.ins 0 g (by omega) (by rw [eB]; exact q)
            rcases HO1.out.2.2 g k.1 with k | k
            · exact .inl k
            · exact .inr (Nat.le_trans HX.out.size k)))
          have HR0 := Lib.hid (show Built ByteR wz.drew 0 PU (.slice AB NB DB) s.s0.pl from eB ▸ hr0.below (below_drewN _ _ 1))
          have HEB := Lib.hid eB
          rw [eB] at c0
          have z0 := box_kept HO1.out.2.1 HB.out HF.out HC0.out
          have z1 := box_kept HO1.out.2.1 HB.out HF.out HC1.out
          have HUZ := Lib.hid ((HU.out _ HO1.out.2.1).below (below_drewN _ _ 1))
          have HPLB := Lib.hid (pl_up HSU.out.1)
          have HPUT := Lib.hid (fun (w3 : World) (v3 : Value) (L : List Nat) (hv3 : Built ByteR w3 0 PU v3 L) (ht3 : Turned (fun b => (Value.slice AB NB DB).ownBlock = some b) wz.drew w3) (hf3 : ∀ b, v3.ownBlock = some b → (Value.slice AB NB DB).ownBlock = some b ∨ wz.heap.size ≤ b) =>
            (HO1.out.below (below_drewN _ _ 1)).put (k := 0) 0 (u := v3) (t' := { ({ s.ts with n := z - 1 } : Ts) with l0 := L }) (by omega) hv3 (by rw [HEB.out]; exact ht3) (by unfold Fresh; rw [HEB.out]; exact hf3) (lt11 rfl rfl rfl rfl rfl rfl rfl rfl rfl rfl rfl) (by rintro j hj hne; revert hne; revert j; refine lt4 ?_ ?_ ?_ ?_ <;> intro hne <;> first | rfl | exact absurd rfl hne))
          clear hr0 eB hNB
          cases sw
          · have HQ := Lib.hid (put0_pos_app HL0.out HSD.out HPP.out l)
            go_upto_region 12 with (fail)
            go_region_law (go_simp; go_at_call 22; refine (on_behind _ _ _ _ _ _ l HUZ.out HR0.out (fun g q => HOV.out g q) (by have := HPLB.out; have := HLL.out; omega)).mono ?_; rintro _ w3 ⟨v3, rfl, hv3, ht3, hf3⟩; have hp := HPUT.out _ _ _ hv3 ht3 hf3; obtain ⟨A3, D3, e3, -, -⟩ := hv3.len; have k0 := hp.1.cell (i := 0) (by omega); have j0 := hp.1.frozen 0; have HP := Lib.hid hp.2; obtain ⟨N3, hN3⟩ : ∃ N, (List.length (s.s0.pl ++ l)) = N := ⟨_, rfl⟩; rw [hN3] at e3; subst e3; clear hp hv3 ht3 hf3 hN3)
            all_goals
              clear k0 j0 c0 z0 z1
              go_wp2_with fail
              obtain ⟨G', hg⟩ := HP.out
              go_roundg (1 - 0)
              case measure => omega
              case rel => exact ⟨0 + 1, by omega, by go_num, PMid.mk1 (on_ts (ts_pos_0 s HL0.out z HZ.out (by have := HPP.out; have := HZ.out; omega) (s.s0.b ++ l)) ((ts_put_0 s HL0.out []).2 ▸ hg)) HQ.out.1 HS.out HQ.out.2 HSD.out HT.out HLL.out (by show s.fuse - 1 ≤ _; have := HSZ.out; omega)⟩
          · have HQ := Lib.hid (put0_pos_rep HL0.out HSD.out HPP.out l)
            go_upto_region 12 with (fail)
            go_region_law (go_simp; go_at_call 22; refine (on_whole _ _ _ _ _ l HUZ.out (by have := HLL.out; omega)).mono ?_; rintro _ w3 ⟨v3, rfl, hv3', hb3⟩; have hf3 : ∀ b, v3.ownBlock = some b → (Value.slice AB NB DB).ownBlock = some b ∨ wz.heap.size ≤ b := (fun b q => .inr (hv3'.own_lt b q).1); have hv3 := hv3'.lower (Nat.zero_le _); have ht3 := Turned.of_below (fun b => (Value.slice AB NB DB).ownBlock = some b) hb3; clear hv3' hb3; have hp := HPUT.out _ _ _ hv3 ht3 hf3; obtain ⟨A3, D3, e3, -, -⟩ := hv3.len; have k0 := hp.1.cell (i := 0) (by omega); have j0 := hp.1.frozen 0; have HP := Lib.hid hp.2; obtain ⟨N3, hN3⟩ : ∃ N, (List.length (l)) = N := ⟨_, rfl⟩; rw [hN3] at e3; subst e3; clear hp hv3 ht3 hf3 hN3)
            all_goals
              clear k0 j0 c0 z0 z1
              go_wp2_with fail
              obtain ⟨G', hg⟩ := HP.out
              go_roundg (1 - 0)
              case measure => omega
              case rel => exact ⟨0 + 1, by omega, by go_num, PMid.mk1 (on_ts (ts_pos_0 s HL0.out z HZ.out (by have := HPP.out; have := HZ.out; omega) l) hg) HQ.out.1 HS.out HQ.out.2 HSD.out HT.out HLL.out (by show s.fuse - 1 ≤ _; have := HSZ.out; omega)⟩
        · have HN := Lib.hid (spend_free HO.out.1 (by show decide (0 ≤ s.fuse) = false; exact decide_eq_false (by omega)))
          have HPP := Lib.hid hp
          clear hf hp
          go_wp2_with fail
          refine HN.out.mono ?_
          rintro _ wz ⟨rfl, hwz⟩
          subst hwz
          have HO1 := Lib.hid HO.out
          have hr0 : Built ByteR wr 0 PU (V1 0) s.s0.pl := HO1.out.1.rows 0 (by omega)
          obtain ⟨AB, DB, eB, -, -⟩ := hr0.len
          obtain ⟨NB, hNB⟩ : ∃ n, s.s0.pl.length = n := ⟨_, rfl⟩
          rw [hNB] at eB
          have c0 : wr.cell? ⟨p, 0, none⟩ = some (V1 0) := HO1.out.1.cell (i := 0) (by omega)
          have HOV := Lib.hid (fun (g : Nat) (q : (Value.slice AB NB DB).ownBlock = some g) => HOF.out g (by
            have k := HO1.out.1.ins 0 g (by omega) (by rw [eB]; exact q)
            rcases HO1.out.2.2 g k.1 with k | k
            · exact .inl k
            · exact .inr (Nat.le_trans HX.out.size k)))
          have HR0 := Lib.hid (show Built ByteR wr.drew 0 PU (.slice AB NB DB) s.s0.pl from eB ▸ hr0.below (below_drewN _ _ 1))
          have HEB := Lib.hid eB
          rw [eB] at c0
          have z0 := box_kept HO1.out.2.1 HB.out HF.out HC0.out
          have z1 := box_kept HO1.out.2.1 HB.out HF.out HC1.out
          have HUZ := Lib.hid ((HU.out _ HO1.out.2.1).below (below_drewN _ _ 1))
          have HPLB := Lib.hid (pl_up HSU.out.1)
          have HPUT := Lib.hid (fun (w3 : World) (v3 : Value) (L : List Nat) (hv3 : Built ByteR w3 0 PU v3 L) (ht3 : Turned (fun b => (Value.slice AB NB DB).ownBlock = some b) wr.drew w3) (hf3 : ∀ b, v3.ownBlock = some b → (Value.slice AB NB DB).ownBlock = some b ∨ wr.heap.size ≤ b) =>
            (HO1.out.below (below_drewN _ _ 1)).put (k := 0) 0 (u := v3) (t' := { s.ts with l0 := L }) (by omega) hv3 (by rw [HEB.out]; exact ht3) (by unfold Fresh; rw [HEB.out]; exact hf3) (lt11 rfl rfl rfl rfl rfl rfl rfl rfl rfl rfl rfl) (by rintro j hj hne; revert hne; revert j; refine lt4 ?_ ?_ ?_ ?_ <;> intro hne <;> first | rfl | exact absurd rfl hne))
          clear hr0 eB hNB
          cases sw
          · have HQ := Lib.hid (put0_neg_app HL0.out HSD.out HPP.out l)
            go_upto_region 12 with (fail)
            go_region_law (go_simp; go_at_call 22; refine (on_behind _ _ _ _ _ _ l HUZ.out HR0.out (fun g q => HOV.out g q) (by have := HPLB.out; have := HLL.out; omega)).mono ?_; rintro _ w3 ⟨v3, rfl, hv3, ht3, hf3⟩; have hp := HPUT.out _ _ _ hv3 ht3 hf3; obtain ⟨A3, D3, e3, -, -⟩ := hv3.len; have k0 := hp.1.cell (i := 0) (by omega); have j0 := hp.1.frozen 0; have HP := Lib.hid hp.2; obtain ⟨N3, hN3⟩ : ∃ N, (List.length (s.s0.pl ++ l)) = N := ⟨_, rfl⟩; rw [hN3] at e3; subst e3; clear hp hv3 ht3 hf3 hN3)
            all_goals
              clear k0 j0 c0 z0 z1
              go_wp2_with fail
              obtain ⟨G', hg⟩ := HP.out
              go_roundg (1 - 0)
              case measure => omega
              case rel => exact ⟨0 + 1, by omega, by go_num, PMid.mk1 (on_ts ((ts_put_0 s HL0.out (s.s0.b ++ l)).1) ((ts_put_0 s HL0.out []).2 ▸ hg)) HQ.out.1 HS.out HQ.out.2 HSD.out HT.out HLL.out (HSZ.out)⟩
          · have HQ := Lib.hid (put0_neg_rep HL0.out HSD.out HPP.out l)
            go_upto_region 12 with (fail)
            go_region_law (go_simp; go_at_call 22; refine (on_whole _ _ _ _ _ l HUZ.out (by have := HLL.out; omega)).mono ?_; rintro _ w3 ⟨v3, rfl, hv3', hb3⟩; have hf3 : ∀ b, v3.ownBlock = some b → (Value.slice AB NB DB).ownBlock = some b ∨ wr.heap.size ≤ b := (fun b q => .inr (hv3'.own_lt b q).1); have hv3 := hv3'.lower (Nat.zero_le _); have ht3 := Turned.of_below (fun b => (Value.slice AB NB DB).ownBlock = some b) hb3; clear hv3' hb3; have hp := HPUT.out _ _ _ hv3 ht3 hf3; obtain ⟨A3, D3, e3, -, -⟩ := hv3.len; have k0 := hp.1.cell (i := 0) (by omega); have j0 := hp.1.frozen 0; have HP := Lib.hid hp.2; obtain ⟨N3, hN3⟩ : ∃ N, (List.length (l)) = N := ⟨_, rfl⟩; rw [hN3] at e3; subst e3; clear hp hv3 ht3 hf3 hN3)
            all_goals
              clear k0 j0 c0 z0 z1
              go_wp2_with fail
              obtain ⟨G', hg⟩ := HP.out
              go_roundg (1 - 0)
              case measure => omega
              case rel => exact ⟨0 + 1, by omega, by go_num, PMid.mk1 (on_ts ((ts_put_0 s HL0.out l).1) hg) HQ.out.1 HS.out HQ.out.2 HSD.out HT.out HLL.out (HSZ.out)⟩
    · obtain ⟨G1, V1, s, hon, hsd, hsu, hsz, hs⟩ := hmid
      have HS := Lib.hid (show goes t.s0 t.fuse = false ∧ s = t.stepN 0 l sw by rcases hs with q | q | q; omega; exact q.2; omega)
      clear hs
      have d3 : wr.cell? ⟨p, 7, none⟩ = some (.bool s.s1.lost) := hon.1.cell (i := 7) (by omega)
      have HO := Lib.hid hon
      have HSD := Lib.hid hsd
      have HSU := Lib.hid hsu
      have HSZ := Lib.hid hsz
      clear hon hsd hsu hsz
      by_cases hlo : s.s1.lost = true
      · have HQ := Lib.hid (stepN_lost1 hlo HSD.out l sw)
        rw [hlo] at d3
        clear hlo
        go_wp2_with fail
        go_roundg (1 - 1)
        case measure => omega
        case rel => exact ⟨1 + 1, by omega, by go_num, PMid.mk2 HO.out (by rw [HQ.out.1]) HS.out HQ.out.2 HSD.out HT.out HLL.out HSZ.out⟩
      have hlo' : s.s1.lost = false := by simpa using hlo
      rw [hlo'] at d3
      have HL0 := Lib.hid hlo'
      clear hlo hlo'
      by_cases hf : s.fuse = 0
      · have HQ := Lib.hid (stepN_goes1 HL0.out hf l sw)
        have HN := Lib.hid (spend_out HO.out.1 (by show decide (0 ≤ s.fuse) = true; rw [hf]; rfl) (by show (if 0 ≤ s.fuse then s.fuse else 0) = 0; rw [hf]; rfl))
        have HFZ := Lib.hid hf
        clear hf
        go_wp2_with fail
        refine HN.out.mono ?_
        rintro _ wz ⟨rfl, hwz⟩
        have hoz : POn w1 F wz G1 p V1 { s.ts with d := true } := hwz ▸ HO.out.set 10 (.bool true) (t' := { s.ts with d := true }) (lt11 rfl rfl rfl rfl rfl rfl rfl rfl rfl rfl rfl) (lt4 rfl rfl rfl rfl)
        have z0 := box_kept hoz.2.1 HB.out HF.out HC0.out
        have z1 := box_kept hoz.2.1 HB.out HF.out HC1.out
        have HUZ := Lib.hid ((HU.out _ hoz.2.1).below (below_drewN _ _ 1))
        have HB1 := Lib.hid (show B < wz.heap.size from Nat.lt_of_lt_of_le HB.out hoz.2.1.size)
        have HO1 := Lib.hid (hoz.below (below_drewN _ _ 1))
        clear hwz hoz
        go_upto_region 10 with (fail)
        go_region_law (go_simp; go_at_call 24; refine (cloneC l _ _ HUZ.out (by have := HLL.out; omega)).mono ?_; rintro _ w3 ⟨v3, rfl, hv3, hb3⟩; have hp := HO1.out.put (k := 3) 5 (u := v3) (t' := { s.ts with d := true, b1 := l }) (by omega) (hv3.lower (Nat.zero_le _)) (Turned.of_below _ hb3) (fresh_new hv3) (lt11 rfl rfl rfl rfl rfl rfl rfl rfl rfl rfl rfl) (by rintro j hj hne; revert hne; revert j; refine lt4 ?_ ?_ ?_ ?_ <;> intro hne <;> first | rfl | exact absurd rfl hne); obtain ⟨A3, D3, e3, -, -⟩ := hv3.len; have y1 : w3.cell? ⟨B, 1, none⟩ = some (.bool sw) := below_cell ((show Below wz.heap.size wz wz.drew from below_drewN _ _ 1).trans hb3) _ _ z1; have k1 := hp.1.cell (i := 5) (by omega); have k2 := hp.1.cell (i := 6) (by omega); have j1 := hp.1.frozen 5; have j2 := hp.1.frozen 6; have HP := Lib.hid hp.2; obtain ⟨N3, hN3⟩ : ∃ N, l.length = N := ⟨_, rfl⟩; rw [hN3] at e3; subst e3; clear hp hv3 hb3 hN3)
        all_goals
          clear k1 k2 j1 j2 y1 z0 z1
          go_wp2_with fail
          go_ret
          obtain ⟨G', hg⟩ := HP.out
          have hx := hg.set 6 (.bool sw) (t' := { s.ts with d := true, b1 := l, w1 := sw }) (lt11 rfl rfl rfl rfl rfl rfl rfl rfl rfl rfl rfl) (lt4 rfl rfl rfl rfl)
          rw [← ts_out_1 s HL0.out l sw] at hx
          have hw := write_both HD.out HBB.out HS.out.1 l sw
          have hq := HQ.out.2
          rw [HS.out.2] at hq
          rw [if_pos hq] at hw
          exact ⟨by rw [hw.2]; rfl, by rw [hw.1, ← HS.out.2, HQ.out.1]; exact pt_does HX.out (by rw [HFZ.out]; decide) hx⟩
      · rcases (by omega : 0 < s.fuse ∨ s.fuse < 0) with hp | hp
        · obtain ⟨z, hz⟩ : ∃ z, s.fuse = z := ⟨_, rfl⟩
          have HN := Lib.hid (spend_one HO.out.1 (by show decide (0 ≤ s.fuse) = true; exact decide_eq_true (by omega)) z (by show (if 0 ≤ s.fuse then s.fuse else 0) = z; rw [if_pos (by omega)]; exact hz) (by omega) (by have := HSZ.out; omega))
          have HZZ := Lib.hid (show z - 1 ≤ 9223372036854775807 by have := HSZ.out; omega)
          have HTF := Lib.hid (ts_fuse s z hz (by omega))
          have HPP := Lib.hid hp
          have HZ := Lib.hid hz
          clear hf hp hz
          go_wp2_with fail
          refine HN.out.mono ?_
          rintro _ wz ⟨rfl, hwz⟩
          have HO1 := Lib.hid (show POn w1 F wz G1 p V1 { s.ts with n := z - 1 } from hwz ▸ HO.out.set 9 (.int .i64 (z - 1)) (t' := { s.ts with n := z - 1 }) (lt11 rfl rfl rfl rfl rfl rfl rfl rfl rfl rfl rfl) (lt4 rfl rfl rfl rfl))
          clear hwz
          have hr0 : Built ByteR wz 0 PU (V1 2) s.s1.pl := HO1.out.1.rows 2 (by omega)
          obtain ⟨AB, DB, eB, -, -⟩ := hr0.len
          obtain ⟨NB, hNB⟩ : ∃ n, s.s1.pl.length = n := ⟨_, rfl⟩
          rw [hNB] at eB
          have c0 : wz.cell? ⟨p, 4, none⟩ = some (V1 2) := HO1.out.1.cell (i := 4) (by omega)
          have HOV := Lib.hid (fun (g : Nat) (q : (Value.slice AB NB DB).ownBlock = some g) => HOF.out g (by
            have k := HO1.out.1.ins 2 g (by omega) (by rw [eB]; exact q)
            rcases HO1.out.2.2 g k.1 with k | k
            · exact .inl k
            · exact .inr (Nat.le_trans HX.out.size k)))
          have HR0 := Lib.hid (show Built ByteR wz.drew 0 PU (.slice AB NB DB) s.s1.pl from eB ▸ hr0.below (below_drewN _ _ 1))
          have HEB := Lib.hid eB
          rw [eB] at c0
          have z0 := box_kept HO1.out.2.1 HB.out HF.out HC0.out
          have z1 := box_kept HO1.out.2.1 HB.out HF.out HC1.out
          have HUZ := Lib.hid ((HU.out _ HO1.out.2.1).below (below_drewN _ _ 1))
          have HPLB := Lib.hid (pl_up HSU.out.2)
          have HPUT := Lib.hid (fun (w3 : World) (v3 : Value) (L : List Nat) (hv3 : Built ByteR w3 0 PU v3 L) (ht3 : Turned (fun b => (Value.slice AB NB DB).ownBlock = some b) wz.drew w3) (hf3 : ∀ b, v3.ownBlock = some b → (Value.slice AB NB DB).ownBlock = some b ∨ wz.heap.size ≤ b) =>
            (HO1.out.below (below_drewN _ _ 1)).put (k := 2) 4 (u := v3) (t' := { ({ s.ts with n := z - 1 } : Ts) with l1 := L }) (by omega) hv3 (by rw [HEB.out]; exact ht3) (by unfold Fresh; rw [HEB.out]; exact hf3) (lt11 rfl rfl rfl rfl rfl rfl rfl rfl rfl rfl rfl) (by rintro j hj hne; revert hne; revert j; refine lt4 ?_ ?_ ?_ ?_ <;> intro hne <;> first | rfl | exact absurd rfl hne))
          clear hr0 eB hNB
          cases sw
          · have HQ := Lib.hid (put1_pos_app HL0.out HSD.out HPP.out l)
            go_upto_region 12 with (fail)
            go_region_law (go_simp; go_at_call 22; refine (on_behind _ _ _ _ _ _ l HUZ.out HR0.out (fun g q => HOV.out g q) (by have := HPLB.out; have := HLL.out; omega)).mono ?_; rintro _ w3 ⟨v3, rfl, hv3, ht3, hf3⟩; have hp := HPUT.out _ _ _ hv3 ht3 hf3; obtain ⟨A3, D3, e3, -, -⟩ := hv3.len; have k0 := hp.1.cell (i := 4) (by omega); have j0 := hp.1.frozen 4; have HP := Lib.hid hp.2; obtain ⟨N3, hN3⟩ : ∃ N, (List.length (s.s1.pl ++ l)) = N := ⟨_, rfl⟩; rw [hN3] at e3; subst e3; clear hp hv3 ht3 hf3 hN3)
            all_goals
              clear k0 j0 c0 z0 z1
              go_wp2_with fail
              obtain ⟨G', hg⟩ := HP.out
              go_roundg (1 - 1)
              case measure => omega
              case rel => exact ⟨1 + 1, by omega, by go_num, PMid.mk2 (on_ts (ts_pos_1 s HL0.out z HZ.out (by have := HPP.out; have := HZ.out; omega) (s.s1.b ++ l)) ((ts_put_1 s HL0.out []).2 ▸ hg)) HQ.out.1 HS.out HQ.out.2 HSD.out HT.out HLL.out (by show s.fuse - 1 ≤ _; have := HSZ.out; omega)⟩
          · have HQ := Lib.hid (put1_pos_rep HL0.out HSD.out HPP.out l)
            go_upto_region 12 with (fail)
            go_region_law (go_simp; go_at_call 22; refine (on_whole _ _ _ _ _ l HUZ.out (by have := HLL.out; omega)).mono ?_; rintro _ w3 ⟨v3, rfl, hv3', hb3⟩; have hf3 : ∀ b, v3.ownBlock = some b → (Value.slice AB NB DB).ownBlock = some b ∨ wz.heap.size ≤ b := (fun b q => .inr (hv3'.own_lt b q).1); have hv3 := hv3'.lower (Nat.zero_le _); have ht3 := Turned.of_below (fun b => (Value.slice AB NB DB).ownBlock = some b) hb3; clear hv3' hb3; have hp := HPUT.out _ _ _ hv3 ht3 hf3; obtain ⟨A3, D3, e3, -, -⟩ := hv3.len; have k0 := hp.1.cell (i := 4) (by omega); have j0 := hp.1.frozen 4; have HP := Lib.hid hp.2; obtain ⟨N3, hN3⟩ : ∃ N, (List.length (l)) = N := ⟨_, rfl⟩; rw [hN3] at e3; subst e3; clear hp hv3 ht3 hf3 hN3)
            all_goals
              clear k0 j0 c0 z0 z1
              go_wp2_with fail
              obtain ⟨G', hg⟩ := HP.out
              go_roundg (1 - 1)
              case measure => omega
              case rel => exact ⟨1 + 1, by omega, by go_num, PMid.mk2 (on_ts (ts_pos_1 s HL0.out z HZ.out (by have := HPP.out; have := HZ.out; omega) l) hg) HQ.out.1 HS.out HQ.out.2 HSD.out HT.out HLL.out (by show s.fuse - 1 ≤ _; have := HSZ.out; omega)⟩
        · have HN := Lib.hid (spend_free HO.out.1 (by show decide (0 ≤ s.fuse) = false; exact decide_eq_false (by omega)))
          have HPP := Lib.hid hp
          clear hf hp
          go_wp2_with fail
          refine HN.out.mono ?_
          rintro _ wz ⟨rfl, hwz⟩
          subst hwz
          have HO1 := Lib.hid HO.out
          have hr0 : Built ByteR wr 0 PU (V1 2) s.s1.pl := HO1.out.1.rows 2 (by omega)
          obtain ⟨AB, DB, eB, -, -⟩ := hr0.len
          obtain ⟨NB, hNB⟩ : ∃ n, s.s1.pl.length = n := ⟨_, rfl⟩
          rw [hNB] at eB
          have c0 : wr.cell? ⟨p, 4, none⟩ = some (V1 2) := HO1.out.1.cell (i := 4) (by omega)
          have HOV := Lib.hid (fun (g : Nat) (q : (Value.slice AB NB DB).ownBlock = some g) => HOF.out g (by
            have k := HO1.out.1.ins 2 g (by omega) (by rw [eB]; exact q)
            rcases HO1.out.2.2 g k.1 with k | k
            · exact .inl k
            · exact .inr (Nat.le_trans HX.out.size k)))
          have HR0 := Lib.hid (show Built ByteR wr.drew 0 PU (.slice AB NB DB) s.s1.pl from eB ▸ hr0.below (below_drewN _ _ 1))
          have HEB := Lib.hid eB
          rw [eB] at c0
          have z0 := box_kept HO1.out.2.1 HB.out HF.out HC0.out
          have z1 := box_kept HO1.out.2.1 HB.out HF.out HC1.out
          have HUZ := Lib.hid ((HU.out _ HO1.out.2.1).below (below_drewN _ _ 1))
          have HPLB := Lib.hid (pl_up HSU.out.2)
          have HPUT := Lib.hid (fun (w3 : World) (v3 : Value) (L : List Nat) (hv3 : Built ByteR w3 0 PU v3 L) (ht3 : Turned (fun b => (Value.slice AB NB DB).ownBlock = some b) wr.drew w3) (hf3 : ∀ b, v3.ownBlock = some b → (Value.slice AB NB DB).ownBlock = some b ∨ wr.heap.size ≤ b) =>
            (HO1.out.below (below_drewN _ _ 1)).put (k := 2) 4 (u := v3) (t' := { s.ts with l1 := L }) (by omega) hv3 (by rw [HEB.out]; exact ht3) (by unfold Fresh; rw [HEB.out]; exact hf3) (lt11 rfl rfl rfl rfl rfl rfl rfl rfl rfl rfl rfl) (by rintro j hj hne; revert hne; revert j; refine lt4 ?_ ?_ ?_ ?_ <;> intro hne <;> first | rfl | exact absurd rfl hne))
          clear hr0 eB hNB
          cases sw
          · have HQ := Lib.hid (put1_neg_app HL0.out HSD.out HPP.out l)
            go_upto_region 12 with (fail)
            go_region_law (go_simp; go_at_call 22; refine (on_behind _ _ _ _ _ _ l HUZ.out HR0.out (fun g q => HOV.out g q) (by have := HPLB.out; have := HLL.out; omega)).mono ?_; rintro _ w3 ⟨v3, rfl, hv3, ht3, hf3⟩; have hp := HPUT.out _ _ _ hv3 ht3 hf3; obtain ⟨A3, D3, e3, -, -⟩ := hv3.len; have k0 := hp.1.cell (i := 4) (by omega); have j0 := hp.1.frozen 4; have HP := Lib.hid hp.2; obtain ⟨N3, hN3⟩ : ∃ N, (List.length (s.s1.pl ++ l)) = N := ⟨_, rfl⟩; rw [hN3] at e3; subst e3; clear hp hv3 ht3 hf3 hN3)
            all_goals
              clear k0 j0 c0 z0 z1
              go_wp2_with fail
              obtain ⟨G', hg⟩ := HP.out
              go_roundg (1 - 1)
              case measure => omega
              case rel => exact ⟨1 + 1, by omega, by go_num, PMid.mk2 (on_ts ((ts_put_1 s HL0.out (s.s1.b ++ l)).1) ((ts_put_1 s HL0.out []).2 ▸ hg)) HQ.out.1 HS.out HQ.out.2 HSD.out HT.out HLL.out (HSZ.out)⟩
          · have HQ := Lib.hid (put1_neg_rep HL0.out HSD.out HPP.out l)
            go_upto_region 12 with (fail)
            go_region_law (go_simp; go_at_call 22; refine (on_whole _ _ _ _ _ l HUZ.out (by have := HLL.out; omega)).mono ?_; rintro _ w3 ⟨v3, rfl, hv3', hb3⟩; have hf3 : ∀ b, v3.ownBlock = some b → (Value.slice AB NB DB).ownBlock = some b ∨ wr.heap.size ≤ b := (fun b q => .inr (hv3'.own_lt b q).1); have hv3 := hv3'.lower (Nat.zero_le _); have ht3 := Turned.of_below (fun b => (Value.slice AB NB DB).ownBlock = some b) hb3; clear hv3' hb3; have hp := HPUT.out _ _ _ hv3 ht3 hf3; obtain ⟨A3, D3, e3, -, -⟩ := hv3.len; have k0 := hp.1.cell (i := 4) (by omega); have j0 := hp.1.frozen 4; have HP := Lib.hid hp.2; obtain ⟨N3, hN3⟩ : ∃ N, (List.length (l)) = N := ⟨_, rfl⟩; rw [hN3] at e3; subst e3; clear hp hv3 ht3 hf3 hN3)
            all_goals
              clear k0 j0 c0 z0 z1
              go_wp2_with fail
              obtain ⟨G', hg⟩ := HP.out
              go_roundg (1 - 1)
              case measure => omega
              case rel => exact ⟨1 + 1, by omega, by go_num, PMid.mk2 (on_ts ((ts_put_1 s HL0.out l).1) hg) HQ.out.1 HS.out HQ.out.2 HSD.out HT.out HLL.out (HSZ.out)⟩
    · obtain ⟨G1, V1, s, hon, hsd, hsu, hsz, hs⟩ := hmid
      have HS := Lib.hid (show goes t.s0 t.fuse = false ∧ goes (t.stepN 0 l sw).s1 (t.stepN 0 l sw).fuse = false ∧ s = (t.stepN 0 l sw).stepN 1 l sw by rcases hs with q | q | q; omega; omega; exact q.2)
      have HO := Lib.hid hon
      have HSZ := Lib.hid hsz
      clear hs hon hsz
      go_wp2
      go_ret
      have hw := write_both HD.out HBB.out HS.out.1 l sw
      exact ⟨by rw [hw.2, HS.out.2.1]; rfl, by rw [hw.1, ← HS.out.2.2]; exact pt_does HX.out HSZ.out HO.out⟩
end Go.Proofs.Ytndponihilfidaa.Tape
