/- .. the drive's calls: Read, Lasts, Write, Flush, Crash. -/
import Derived.Test.YthlonnbafekjbaaDcProg2
namespace Go.Proofs.Ythlonnbafekjbaa.Drive
set_option linter.unusedVariables false
open Go.ChangeShapes Go.WideShapes Go.ChangeAt Go.RowKit
open Go.Mem Drv
theorem PDc.turned {w w' : World} {F G : Nat → Prop} {p : Nat} {s : St} (h : PDc w F p s) (ht : Turned G w w') (hd : ∀ b, G b → ¬ F b) : PDc w' F p s := by
  obtain ⟨hok, R, S, N, L, W, X, h⟩ := h
  exact ⟨hok, R, S, N, L, W, X, h.turned ht hd⟩
theorem PDc.lt {w : World} {F : Nat → Prop} {p : Nat} {s : St} (h : PDc w F p s) : ∀ b, F b → b < w.heap.size := by
  obtain ⟨hok, R, S, N, L, W, X, h⟩ := h
  exact h.lt
set_option maxHeartbeats 1000000 in
theorem readC {w : World} {F : Nat → Prop} {p : Nat} {s : St} (h : PDc w F p s) (i : Int) (l0 : -9223372036854775808 ≤ i) (u0 : i ≤ 9223372036854775807) : Calls Try.prog 21 #[.pointer (some ⟨p, 0, none⟩), .int .i64 i] w fun e w' =>
    ∃ u, e = .returned (.tuple #[u, .int .i64 (s.check i)]) ∧ RowIn (fun b => w.heap.size ≤ b) w' u (if s.check i = 0 then s.get i.toNat else []) ∧ Below w.heap.size w w' := by
  have H := Lib.hid h
  by_cases hc : s.check i = 0
  · obtain ⟨hlo, q, rfl, hq⟩ := check_zero hc
    obtain ⟨hok, R, S, N, L, W, X, h⟩ := h
    obtain ⟨c0, c1, c2⟩ := h.cells
    obtain ⟨A, hS, hA⟩ := h.shape
    obtain ⟨bs, rfl⟩ := hA (by omega)
    have hsl := hok.sm
    have cv := (h.slot hS hq).1
    have HR := Lib.hid (h.now q hq).1
    have HLN := Lib.hid (show (s.cell q).now.length ≤ 200000 by have := (cell_sm hok q).1; omega)
    rw [hS] at c0
    rw [hlo] at c2
    have HCE := Lib.hid (cellYes c0 c2 hq hsl)
    have HC := Lib.hid hc
    obtain ⟨Av, nv, Cv, hvv⟩ : ∃ A n C, N q = .slice A n C := by
      obtain ⟨A, C, e, _⟩ := HR.out.shape
      exact ⟨A, _, C, e⟩
    rw [hvv] at cv HR
    have HLS := Lib.hid (show (s.cell q).now = s.get q from rfl)
    clear h hc hS hA hvv c1 c2 c0 hlo
    go_enter Try.func21, Try.ntmps21
    go_wp2_with fail
    refine HCE.out.mono ?_
    rintro _ w1 ⟨rfl, rfl⟩
    go_wp2_with fail
    refine (cloneC _ _ w HR.out HLN.out).mono ?_
    rintro _ w2 ⟨u2, rfl, hu2, hb2⟩
    have HU := Lib.hid hu2
    have HB := Lib.hid hb2
    clear hu2 hb2 cv
    go_wp2_with fail
    go_ret2
    exact ⟨_, rfl, HLS.out ▸ HU.out.rowIn (fun b hb => (HU.out.own_lt b hb).1), HB.out⟩
  · have HN := Lib.hid (cellNo h i l0 u0 hc)
    obtain ⟨c, hce⟩ : ∃ c, s.check i = c := ⟨_, rfl⟩
    have HCE := Lib.hid hce
    rw [hce] at hc HN ⊢
    simp only [if_neg hc]
    have ht : (c != 0) = true := by rw [bne_iff_ne]; exact hc
    clear h hc hce
    go_enter Try.func21, Try.ntmps21
    go_wp2_with fail
    refine HN.out.mono ?_
    rintro _ w1 ⟨rfl, rfl⟩
    go_wp2_with fail
    go_ret2
    exact ⟨.slice none 0 0, rfl, RowIn.nil _ _, Below.refl _ _⟩
set_option maxHeartbeats 1000000 in
theorem lastsC {w : World} {F : Nat → Prop} {p : Nat} {s : St} (h : PDc w F p s) (i : Int) (l0 : -9223372036854775808 ≤ i) (u0 : i ≤ 9223372036854775807) : Calls Try.prog 22 #[.pointer (some ⟨p, 0, none⟩), .int .i64 i] w fun e w' =>
    ∃ u, e = .returned (.tuple #[u, .int .i64 (s.check i)]) ∧ RowIn (fun b => w.heap.size ≤ b) w' u (if s.check i = 0 then s.slots.getD i.toNat [] else []) ∧ Below w.heap.size w w' := by
  have H := Lib.hid h
  by_cases hc : s.check i = 0
  · obtain ⟨hlo, q, rfl, hq⟩ := check_zero hc
    obtain ⟨hok, R, S, N, L, W, X, h⟩ := h
    obtain ⟨c0, c1, c2⟩ := h.cells
    obtain ⟨A, hS, hA⟩ := h.shape
    obtain ⟨bs, rfl⟩ := hA (by omega)
    have hsl := hok.sm
    have cv := (h.slot hS hq).2.1
    have HR := Lib.hid (h.lasts q hq).1
    have HLN := Lib.hid (show (s.cell q).lasts.length ≤ 200000 by have := (cell_sm hok q).2.1; omega)
    rw [hS] at c0
    rw [hlo] at c2
    have HCE := Lib.hid (cellYes c0 c2 hq hsl)
    have HC := Lib.hid hc
    obtain ⟨Av, nv, Cv, hvv⟩ : ∃ A n C, L q = .slice A n C := by
      obtain ⟨A, C, e, _⟩ := HR.out.shape
      exact ⟨A, _, C, e⟩
    rw [hvv] at cv HR
    have HLS := Lib.hid (show (s.cell q).lasts = s.slots[q] by show s.slots.getD q [] = _; rw [List.getD_eq_getElem?_getD, List.getElem?_eq_getElem hq]; rfl)
    clear h hc hS hA hvv c1 c2 c0 hlo
    go_enter Try.func22, Try.ntmps22
    go_wp2_with fail
    refine HCE.out.mono ?_
    rintro _ w1 ⟨rfl, rfl⟩
    go_wp2_with fail
    refine (cloneC _ _ w HR.out HLN.out).mono ?_
    rintro _ w2 ⟨u2, rfl, hu2, hb2⟩
    have HU := Lib.hid hu2
    have HB := Lib.hid hb2
    clear hu2 hb2 cv
    go_wp2_with fail
    go_ret2
    exact ⟨_, rfl, HLS.out ▸ HU.out.rowIn (fun b hb => (HU.out.own_lt b hb).1), HB.out⟩
  · have HN := Lib.hid (cellNo h i l0 u0 hc)
    obtain ⟨c, hce⟩ : ∃ c, s.check i = c := ⟨_, rfl⟩
    have HCE := Lib.hid hce
    rw [hce] at hc HN ⊢
    simp only [if_neg hc]
    have ht : (c != 0) = true := by rw [bne_iff_ne]; exact hc
    clear h hc hce
    go_enter Try.func22, Try.ntmps22
    go_wp2_with fail
    refine HN.out.mono ?_
    rintro _ w1 ⟨rfl, rfl⟩
    go_wp2_with fail
    go_ret2
    exact ⟨.slice none 0 0, rfl, RowIn.nil _ _, Below.refl _ _⟩
/-- the state behind a write, from the cell's -/
theorem put_PDc {w w' : World} {F F' R : Nat → Prop} {p bs n q : Nat} {s : St} {N L W : Nat → Value} {X : Nat → Nat → Value} {l : List Nat} (hok : s.ok) (hn : s.slots.length = n) (hE : s.put (q : Nat) l = { s with loose := s.loose ++ [(q, l)] })
    (h : CAt w' p F' R (.slice (some ⟨bs, 0, none⟩) n n) N L W X n (upd s.cell q ((s.cell q).put s.loose.length l)) s.loose.length s.lost) :
    PDc (w'.setCell ⟨p, 1, none⟩ (.int .i64 ((s.loose.length + 1 : Nat) : Int))) F' p (s.put (q : Nat) l) := by
  refine ⟨put_ok hok _ _, R, .slice (some ⟨bs, 0, none⟩) n n, N, L, W, X, ?_⟩
  rw [hE]
  have hz : (s.loose ++ [(q, l)]).length = s.loose.length + 1 := by simp
  show CAt _ p F' R _ N L W X s.slots.length _ (s.loose ++ [(q, l)]).length s.lost
  rw [hz, hn]
  refine (h.setCnt _).congr fun i hi => ?_
  rw [cell_push]
  unfold upd
  by_cases e : i = q
  · rw [if_pos e, if_pos e, e]
  · rw [if_neg e, if_neg e]
set_option maxHeartbeats 4000000 in
theorem writeC {w : World} {F : Nat → Prop} {p : Nat} {s : St} (h : PDc w F p s) (hsm : s.loose.length ≤ 100000) (i : Int) (l0 : -9223372036854775808 ≤ i) (u0 : i ≤ 9223372036854775807) (l : List Nat) (v : Value) (hl : Bytes w v l) :
    Calls Try.prog 11 #[.pointer (some ⟨p, 0, none⟩), .int .i64 i, v] w fun e w' => e = .returned (.int .i64 (s.putE i l.length)) ∧ Does PDc F p (s.put i l) w w' := by
  have H := Lib.hid h
  by_cases hc : s.check i = 0
  · obtain ⟨hlo, q, rfl, hq⟩ := check_zero hc
    obtain ⟨hok, R, S, N, L, W, X, h⟩ := h
    obtain ⟨c0, c1, c2⟩ := h.cells
    obtain ⟨A0, hS, hA⟩ := h.shape
    obtain ⟨bs, rfl⟩ := hA (by omega)
    have hsl := hok.sm
    rw [hS] at c0
    rw [hlo] at c2
    have hce := cellYes c0 c2 hq hsl
    obtain ⟨A, C, rfl, h1, h2, h3⟩ := hl.shape
    by_cases hn : 64 < l.length
    · have HE := Lib.hid (put_long hc hn)
      have HS := Lib.hid (put_same (s := s) (i := (q : Nat)) (l := l) (by rw [put_long hc hn]; omega))
      obtain ⟨N, hN⟩ : ∃ N, l.length = N := ⟨_, rfl⟩
      rw [hN] at hn h1 HE ⊢
      have hn' : (64 : Int) < (N : Int) := by omega
      have HCE := Lib.hid hce
      clear h hc hl hN c0 c1 c2 hS hA hlo hce
      go_enter Try.func11, Try.ntmps11
      go_wp2_with fail
      refine HCE.out.mono ?_
      rintro _ w1 ⟨rfl, rfl⟩
      go_wp2_with fail
      go_ret
      exact ⟨by rw [HE.out]; rfl, F, by rw [HS.out]; exact H.out, Turned.refl _ _, Grown.refl _ _⟩
    · have HE := Lib.hid (put_yes hc hn)
      have HS := Lib.hid (show s.put (q : Nat) l = { s with loose := s.loose ++ [(q, l)] } by unfold St.put; rw [if_pos (put_yes hc hn)]; rfl)
      obtain ⟨n, hnn⟩ : ∃ n, s.slots.length = n := ⟨_, rfl⟩
      rw [hnn] at hS hq hsl h
      have HCE := Lib.hid hce
      subst hS
      have HAT := Lib.hid h
      have hplt : p < w.heap.size := h.lt p h.fp
      have f1 := h.free 1
      have HLO := Lib.hid (show (s.cell q).loose.length ≤ 100000 from Nat.le_trans (cell_sm hok q).2.2.1 hsm)
      obtain ⟨m, hm⟩ : ∃ m, s.loose.length = m := ⟨_, rfl⟩
      have HPP := Lib.hid (fun (w' : World) (F' : Nat → Prop) (R' : Nat → Prop) (N L W : Nat → Value) (X : Nat → Nat → Value) => put_PDc (w := w) (w' := w') (F := F) (F' := F') (R := R') (p := p) (bs := bs) (n := n) (q := q) (N := N) (L := L) (W := W) (X := X) (l := l) hok hnn HS.out)
      rw [hm] at c1 hsm HAT HPP
      obtain ⟨M, hM⟩ : ∃ M, l.length = M := ⟨_, rfl⟩
      have HV := Lib.hid hl
      rw [hM] at h1 hn HV HE ⊢
      have HM := Lib.hid hM
      have hn' : ¬ (64 : Int) < (M : Int) := by omega
      have HT := Lib.hid (show Bytes w.drew (.slice A M C) l from HV.out.below (below_drewN _ _ 1))
      have HDR := Lib.hid (show Below w.heap.size w w.drew from below_drewN _ _ 1)
      clear h hc hlo hm hM hl c0 c2 hok hnn hA H hce
      go_enter Try.func11, Try.ntmps11
      go_wp2_with fail
      refine HCE.out.mono ?_
      rintro _ w1 ⟨rfl, rfl⟩
      go_upto_region 6 with (fail)
      go_region_law (first
        | (go_simp; go_at_call 28; refine (cloneC l _ _ HT.out (by rw [HM.out]; omega)).mono ?_; rintro _ w1 ⟨v1, rfl, hbu1, hb1⟩; have HBW1 := Lib.hid (HDR.out.trans hb1); have HBU := Lib.hid hbu1; have HAD := Lib.hid (HAT.out.admit HBW1.out hbu1); obtain ⟨A1, C1, e1, hl1, hl1'⟩ := hbu1.len; rw [HM.out] at e1; subst e1; have d1 := HAD.out.1.cells.2.1; clear hbu1 hb1)
        | (go_simp; go_at_call 27; refine (putC HAD.out.1 hq hsl hsm HAD.out.2 HLO.out).mono ?_; rintro _ w2 ⟨rfl, hcd⟩; have HCD := Lib.hid hcd; have k1 : w2.cell? ⟨p, 1, none⟩ = some (.int .i64 (m : Nat)) := (by obtain ⟨F', N, L, W, X, z, _⟩ := hcd; exact z.cells.2.1); have k2 : w2.frozen? ⟨p, 1, none⟩ = false := (by obtain ⟨F', N, L, W, X, z, _⟩ := hcd; exact z.free 1); clear hcd))
      all_goals
        go_wp2_with fail
        go_ret
        obtain ⟨F', N', L', W', X', z, ht', hg'⟩ := HCD.out
        have hfp := (HAT.out).fp
        refine ⟨by rw [HE.out]; rfl, F', HPP.out _ _ _ _ _ _ _ z, ?_, fun b hb => ?_⟩
        · have hg0 : Grown F (fun b => F b ∨ Value.ownBlock (.slice A1 M C1) = some b) w := fun b hb => hb.imp id (fun q => (HBU.out.own_lt b q).1)
          have k3 := (Turned.of_below F HBW1.out).trans ht' hg0
          exact k3.trans (Turned.set _ (z.fp)) (fun b hb => ((hg'.trans (Grown.refl _ _) (Nat.le_refl _)) b hb).elim (fun q => (hg0 b q)) (fun q => .inr (Nat.le_trans HBW1.out.size q)))
        · rcases hg' b hb with q | q
          · exact q.imp id (fun q => (HBU.out.own_lt b q).1)
          · exact .inr (Nat.le_trans HBW1.out.size q)
  · have HE := Lib.hid (put_no (n := l.length) hc)
    have HS := Lib.hid (put_same (s := s) (i := i) (l := l) (by rw [put_no hc]; exact hc))
    have HN := Lib.hid (cellNo h i l0 u0 hc)
    obtain ⟨c, hce⟩ : ∃ c, s.check i = c := ⟨_, rfl⟩
    rw [hce] at hc HE HN
    have ht : (c != 0) = true := by rw [bne_iff_ne]; exact hc
    clear h hc hl hce
    go_enter Try.func11, Try.ntmps11
    go_wp2_with fail
    refine HN.out.mono ?_
    rintro _ w1 ⟨rfl, rfl⟩
    go_wp2_with fail
    go_ret
    exact ⟨by rw [HE.out]; rfl, F, by rw [HS.out]; exact H.out, Turned.refl _ _, Grown.refl _ _⟩
end Go.Proofs.Ythlonnbafekjbaa.Drive
