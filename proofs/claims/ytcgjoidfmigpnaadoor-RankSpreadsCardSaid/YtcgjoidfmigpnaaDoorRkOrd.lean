/- The document's order of drives, as a walk. -/
import Derived.Test.YtcgjoidfmigpnaaDoorRkRef
import Derived.Test.YtcgjoidfmigpnaaDoorRows
import Derived.Deep.RegionHeld3
import Derived.Deep.QuietTactic
import Derived.BigQuiet
import Derived.RegionTactic
import Derived.BigRegion
import Derived.IntWalk
namespace Go.Proofs.YtcgjoidfmigpnaaDoor.Rk
set_option linter.unusedVariables false
open Go.ChangeShapes Go.WideShapes Go.ChangeAt Go.RowKit
open Go.Mem Sha Hash
theorem infoInt : (Tryd.prog.info? 3).map (fun i => (i.zero, i.size, i.bytes)) = some (some (.int .i64 0), 1, 8) := by kernel_rfl
theorem below_nxt {B : Nat} {w w1 w2 : World} (h : Below B w w1) (k : Below w1.heap.size w1 w2) (hB : B ≤ w.heap.size) : Below B w w2 := h.trans (k.mono (Nat.le_trans hB h.size))
/-- the loop within: one drive on its way -/
def InAt (s : Int) (l : List Int) (i j : Nat) (W : World) (g : Nat) (wi : World) : Prop := ∃ m, InMid s l i j m ∧ RowZ wi g m ∧ Below W.heap.size W wi
def OutAt (s : Int) (l : List Int) (k : Nat) (W : World) (g : Nat) (wr : World) : Prop := ∃ m, OutMid s l k m ∧ RowZ wr g m ∧ Below W.heap.size W wr
def Ordered (W : World) (s : Int) (l : List Int) (e : Ending) (w' : World) : Prop := ∃ u, e = .returned u ∧ Ints w' u (ord s l) ∧ Below W.heap.size W w'
theorem in_swap {s : Int} {l m : List Int} {k j1 J g : Nat} {a b : Int} {W wx : World} (h : InMid s l k j1 ((m.set j1 b).set J a)) (hr : RowZ wx g m) (hb : Below W.heap.size W wx) (hg : W.heap.size ≤ g) (hne : ¬ j1 = J) :
    (∀ n, InAt s l k j1 W g (((wx.setCell ⟨g, j1, none⟩ (.int .i64 b)).setCell ⟨g, J, none⟩ (.int .i64 a)).drewN n)) ∧ ∀ n, InAt s l k j1 W g (((wx.setCell ⟨g, J, none⟩ (.int .i64 a)).setCell ⟨g, j1, none⟩ (.int .i64 b)).drewN n) := by
  have hc : (m.set J a).set j1 b = (m.set j1 b).set J a := List.set_comm _ _ (fun e => hne e.symm)
  refine ⟨fun n => ⟨_, h, ((hr.set j1 b).set J a).keep rfl, ((hb.setCell hg _).setCell hg _).trans (below_drewN _ _ n)⟩, fun n => ⟨_, h, ?_, ((hb.setCell hg _).setCell hg _).trans (below_drewN _ _ n)⟩⟩
  rw [← hc]
  exact ((hr.set J a).set j1 b).keep rfl
set_option maxHeartbeats 4000000 in
theorem refOrder (W : World) (s : Int) (v : Value) (l : List Int) (hI : Ints W v l) (hs : I64 s) (hl : l.length ≤ 100) :
    Calls Tryd.prog 11 #[.int .i64 s, v] W (Ordered W s l) := by
  have HWT := Lib.hid (fun (x : Int) (w : World) => (show Calls Tryd.prog 14 #[.int .i64 s, .int .i64 x] w fun e w' => e = .returned (.int .u64 (wt s x : Nat)) ∧ Below w.heap.size w w' from refWeightC s x w))
  obtain ⟨A, C, rfl, g1, g2, -⟩ := hI.shape
  have hal : Below W.heap.size W (W.alloc (.cells #[] 3)) := (Below.refl _ _).alloc (Nat.le_refl _) _
  have h64 := ints_i64 hI
  obtain ⟨v1, w1, hrun, hbu, _, hb1⟩ := run_append_list (P := Tryd.prog) intR_world intR_one (W.alloc (.cells #[] 3)) W.heap.size 22 22 3 (.int .i64 0) 8 Tryd.underlying22 infoInt rfl _ [] (built_none W (Nat.le_refl _)) _ _ _ l (hI.below hal) (by simp; omega) (by simp)
  rw [List.nil_append] at hbu
  have hbw : Below W.heap.size W w1 := hal.trans hb1
  have HBW := Lib.hid hbw
  have H64 := Lib.hid h64
  have hgo : ∀ (ops : Array Oper) (rest : List Oper) (o : Oper) (a : Act) (Q : Exit → Act → World → Prop), True := fun _ _ _ _ _ => trivial
  rcases Nat.eq_zero_or_pos l.length with h0 | h0
  · have e0 : l = [] := List.length_eq_zero_iff.1 h0
    subst e0
    have HI1 := Lib.hid (show Ints w1 v1 [] from hbu.slice)
    obtain ⟨A1, C1, e1, -, -⟩ := hbu.len
    subst e1
    clear hI h64 hbu hbw hgo hb1 hal h0
    go_enter Tryd.func11, Tryd.ntmps11
    go_wp2_with (refine Lib.wpList_append_run _ rfl (.tmp 10) (.tmp 11) 22 22 rfl _ _ rfl rfl _ _ hrun ?_; clear hrun)
    refine wp_loop_rounds 1 ?_
    rw [rounds_succ]
    go_wp2
    go_ret
    exact ⟨_, rfl, HI1.out, HBW.out⟩
  · obtain ⟨g, C1, rfl, k1, k2, hg, hrow⟩ := built_rowZ hbu h0
    have HST := Lib.hid (show OutAt s l 0 W g w1 from ⟨l, OutMid.start, hrow, hbw⟩)
    obtain ⟨L, hL⟩ : ∃ L, l.length = L := ⟨_, rfl⟩
    have HL := Lib.hid hL
    rw [hL] at h0 hl g1 k1 hrun ⊢
    clear hI h64 hbu hbw hgo hb1 hal hrow hL
    go_enter Tryd.func11, Tryd.ntmps11
    go_wp2_with (refine Lib.wpList_append_run _ rfl (.tmp 10) (.tmp 11) 22 22 rfl _ _ rfl rfl _ _ hrun ?_; clear hrun)
    go_loopw [6] (fun c wr => ∃ k : Nat, k ≤ L ∧ c = .int .i64 k ∧ OutAt s l k W g wr) (fun c _ => L - (intOf c).toNat)
    case atStart => exact ⟨0, Nat.zero_le _, rfl, HST.out⟩
    case round =>
      obtain ⟨k, hk, rfl, hout⟩ := hrel
      by_cases hlt : k < L
      · obtain ⟨m, hm, hro, hbl⟩ := hout
        have HIN := Lib.hid (show InAt s l k k W g wr from ⟨m, InMid.start hm (by rw [HL.out]; exact hlt), hro, hbl⟩)
        have q1 : (k : Int) < (L : Int) := by omega
        clear hm hro hbl
        obtain ⟨wo, hwo⟩ : ∃ wo : World, wo = wr := ⟨_, rfl⟩
        subst hwo
        go_wp2
        go_loopw [7] (fun c wr => ∃ j : Nat, j ≤ k ∧ c = .int .i64 j ∧ InAt s l k j W g wr) (fun c _ => (intOf c).toNat)
        case atStart => exact ⟨k, Nat.le_refl _, rfl, HIN.out⟩
        case round =>
          obtain ⟨J, hj, rfl, m, hm, hro, hbl⟩ := hrel
          have hkl : k < l.length := by rw [HL.out]; exact hlt
          rcases Nat.eq_zero_or_pos J with hJ | hJ
          · subst hJ
            have HOUT := Lib.hid (show OutAt s l (k + 1) W g wr from ⟨m, hm.rest hkl (.inl rfl), hro, hbl⟩)
            clear hm hro hbl
            go_wp2
            go_roundw
            case rel => exact ⟨k + 1, by omega, by go_num, HOUT.out⟩
            case measure => simp [intOf]; omega
          · obtain ⟨j1, hJe⟩ : ∃ j1, J = j1 + 1 := ⟨J - 1, by omega⟩
            have hml : m.length = L := by rw [hm.len hkl]; exact HL.out
            have hmp : 0 < m.length := by omega
            obtain ⟨a, ha⟩ : ∃ a, m.getD j1 0 = a := ⟨_, rfl⟩
            obtain ⟨b, hb⟩ : ∃ b, m.getD J 0 = b := ⟨_, rfl⟩
            have ca := hro.cell j1 (by omega)
            have cb := hro.cell J (by omega)
            rw [ha] at ca
            rw [hb] at cb
            have hd0 : Below wr.heap.size wr wr.drew := below_drewN _ wr 1
            have ca0 := below_cell hd0 _ _ ca
            have cb0 := below_cell hd0 _ _ cb
            have hwj : IntKind.i64.wrap ((J : Int) - 1) = (j1 : Int) := by rw [IntWalk.i64_in _ (by omega)]; omega
            have q2 : (J : Int) < (L : Int) := by omega
            have q3 : (j1 : Int) < (L : Int) := by omega
            have q4 : j1 < L := by omega
            have q6 : (0 : Int) ≤ (j1 : Int) := by omega
            have q7 : (0 : Int) ≤ (J : Int) := by omega
            have q5 : J < L := by omega
            obtain ⟨wA, hwA⟩ : ∃ wA, wt s a = wA := ⟨_, rfl⟩
            obtain ⟨wB, hwB⟩ : ∃ wB, wt s b = wB := ⟨_, rfl⟩
            have HWA := Lib.hid (fun w => by have := HWT.out a w; rw [hwA] at this; exact this)
            have HWB := Lib.hid (fun w => by have := HWT.out b w; rw [hwB] at this; exact this)
            have HNEAR := Lib.hid (show near s a b ↔ wB < wA ∨ (wA = wB ∧ a ≤ b) by rw [← hwA, ← hwB]; exact Iff.rfl)
            have HRO := Lib.hid hro
            have HBL := Lib.hid hbl
            have HGO := Lib.hid (show near s a b → ∀ w', Below wr.heap.size wr w' → OutAt s l (k + 1) W g w' from fun hn w' hw => ⟨m, hm.rest hkl (.inr (by rw [show J - 1 = j1 by omega, ha, hb]; exact hn)), hro.below hmp hw, hbl.trans (hw.mono hbl.size)⟩)
            have HSW := Lib.hid (show ¬ near s a b → InMid s l k j1 ((m.set j1 b).set J a) from fun hn => by
              subst hJe
              rw [← ha, ← hb] at hn ⊢
              exact hm.step hkl hn)
            have HMP := Lib.hid hmp
            have HJE := Lib.hid hJe
            have i1 : J ≤ j1 + 1 := by omega
            have i2 : j1 + 1 ≤ J := by omega
            have HML := Lib.hid hml
            have HG := Lib.hid hg
            clear hm hro hbl ha hb hwA hwB ca cb hmp hJe hml q4 q5
            rcases (show wB < wA ∨ (wA = wB ∧ a ≤ b) ∨ (wA = wB ∧ b < a) ∨ wA < wB by omega) with d1 | ⟨d1, d2⟩ | ⟨d1, d2⟩ | d1
            · have e1 : decide (wB < wA) = true := by simpa using d1
              have HGO := Lib.hid (HGO.out (HNEAR.out.2 (.inl d1)))
              clear d1
              go_wp2
              go_region_held3 (fun w' => Below wr.heap.size wr w' ∧ w'.cell? ⟨g, j1, none⟩ = some (.int .i64 a) ∧ w'.cell? ⟨g, J, none⟩ = some (.int .i64 b))
                (first | exact ⟨hd2, ca2, cb2⟩ | exact ⟨hd1, ca1, cb1⟩ | exact ⟨hd0, ca0, cb0⟩)
                (first
                  | (go_at_call 14; (with_reducible refine (HWA.out _).mono ?_); rintro _ wa1 ⟨rfl, hx1⟩; first | (have hd2 := below_nxt hd1 hx1 (Nat.le_refl _); have ca2 := below_cell hx1 _ _ ca1; have cb2 := below_cell hx1 _ _ cb1; clear hx1) | (have hd1 := below_nxt hd0 hx1 (Nat.le_refl _); have ca1 := below_cell hx1 _ _ ca0; have cb1 := below_cell hx1 _ _ cb0; clear hx1))
                  | (go_at_call 14; (with_reducible refine (HWB.out _).mono ?_); rintro _ wa1 ⟨rfl, hx1⟩; first | (have hd2 := below_nxt hd1 hx1 (Nat.le_refl _); have ca2 := below_cell hx1 _ _ ca1; have cb2 := below_cell hx1 _ _ cb1; clear hx1) | (have hd1 := below_nxt hd0 hx1 (Nat.le_refl _); have ca1 := below_cell hx1 _ _ ca0; have cb1 := below_cell hx1 _ _ cb0; clear hx1)))
              all_goals
                have HBE := Lib.hid hd2
                clear hd0 hd1 hd2 ca0 ca1 cb0 cb1
                go_wp2
                go_quiet (fail)
                have HOUT := Lib.hid (fun n => HGO.out _ (below_nxt HBE.out (below_drewN _ _ n) (Nat.le_refl _)))
                clear ca2 cb2
                go_wp2
                go_roundw
                case rel => exact ⟨k + 1, by omega, by go_num, HOUT.out _⟩
                case measure => simp [intOf]; omega
            · subst d1
              have e1 : decide (wA < wA) = false := by simp
              have e2 : ((wA : Int) == (wA : Int)) = true := by simp
              have e3 : decide (a ≤ b) = true := by simpa using d2
              have HGO := Lib.hid (HGO.out (HNEAR.out.2 (.inr ⟨rfl, d2⟩)))
              go_wp2
              go_region_held3 (fun w' => Below wr.heap.size wr w' ∧ w'.cell? ⟨g, j1, none⟩ = some (.int .i64 a) ∧ w'.cell? ⟨g, J, none⟩ = some (.int .i64 b))
                (first | exact ⟨hd2, ca2, cb2⟩ | exact ⟨hd1, ca1, cb1⟩ | exact ⟨hd0, ca0, cb0⟩)
                (first
                  | (go_at_call 14; (with_reducible refine (HWA.out _).mono ?_); rintro _ wa1 ⟨rfl, hx1⟩; first | (have hd2 := below_nxt hd1 hx1 (Nat.le_refl _); have ca2 := below_cell hx1 _ _ ca1; have cb2 := below_cell hx1 _ _ cb1; clear hx1) | (have hd1 := below_nxt hd0 hx1 (Nat.le_refl _); have ca1 := below_cell hx1 _ _ ca0; have cb1 := below_cell hx1 _ _ cb0; clear hx1))
                  | (go_at_call 14; (with_reducible refine (HWB.out _).mono ?_); rintro _ wa1 ⟨rfl, hx1⟩; first | (have hd2 := below_nxt hd1 hx1 (Nat.le_refl _); have ca2 := below_cell hx1 _ _ ca1; have cb2 := below_cell hx1 _ _ cb1; clear hx1) | (have hd1 := below_nxt hd0 hx1 (Nat.le_refl _); have ca1 := below_cell hx1 _ _ ca0; have cb1 := below_cell hx1 _ _ cb0; clear hx1)))
              all_goals
                have HBE := Lib.hid hd2
                clear hd0 hd1 hd2 ca0 ca1 cb0 cb1
                go_wp2
                go_quiet (fail)
                have HOUT := Lib.hid (fun n => HGO.out _ (below_nxt HBE.out (below_drewN _ _ n) (Nat.le_refl _)))
                clear ca2 cb2
                go_wp2
                go_roundw
                case rel => exact ⟨k + 1, by omega, by go_num, HOUT.out _⟩
                case measure => simp [intOf]; omega
            · subst d1
              have e1 : decide (wA < wA) = false := by simp
              have e2 : ((wA : Int) == (wA : Int)) = true := by simp
              have e3 : decide (a ≤ b) = false := by simpa using d2
              have HSW := Lib.hid (HSW.out (fun h => by have := HNEAR.out.1 h; omega))
              go_wp2
              go_region_held3 (fun w' => Below wr.heap.size wr w' ∧ w'.cell? ⟨g, j1, none⟩ = some (.int .i64 a) ∧ w'.cell? ⟨g, J, none⟩ = some (.int .i64 b))
                (first | exact ⟨hd2, ca2, cb2⟩ | exact ⟨hd1, ca1, cb1⟩ | exact ⟨hd0, ca0, cb0⟩)
                (first
                  | (go_at_call 14; (with_reducible refine (HWA.out _).mono ?_); rintro _ wa1 ⟨rfl, hx1⟩; first | (have hd2 := below_nxt hd1 hx1 (Nat.le_refl _); have ca2 := below_cell hx1 _ _ ca1; have cb2 := below_cell hx1 _ _ cb1; clear hx1) | (have hd1 := below_nxt hd0 hx1 (Nat.le_refl _); have ca1 := below_cell hx1 _ _ ca0; have cb1 := below_cell hx1 _ _ cb0; clear hx1))
                  | (go_at_call 14; (with_reducible refine (HWB.out _).mono ?_); rintro _ wa1 ⟨rfl, hx1⟩; first | (have hd2 := below_nxt hd1 hx1 (Nat.le_refl _); have ca2 := below_cell hx1 _ _ ca1; have cb2 := below_cell hx1 _ _ cb1; clear hx1) | (have hd1 := below_nxt hd0 hx1 (Nat.le_refl _); have ca1 := below_cell hx1 _ _ ca0; have cb1 := below_cell hx1 _ _ cb0; clear hx1)))
              all_goals
                have HBE := Lib.hid hd2
                clear hd0 hd1 hd2 ca0 ca1 cb0 cb1
                go_wp2
                go_quiet (fail)
                rename_i nq
                go_wp2
                obtain ⟨wx, hwx⟩ : ∃ wx : World, wa1.drewN nq = wx := ⟨_, rfl⟩
                rw [hwx]
                have hbx : Below wr.heap.size wr wx := by rw [← hwx]; exact below_nxt HBE.out (below_drewN _ _ nq) (Nat.le_refl _)
                have hrx := HRO.out.below HMP.out hbx
                have cax : wx.cell? ⟨g, j1, none⟩ = some (.int .i64 a) := by rw [← hwx]; exact ca2
                have cbx : wx.cell? ⟨g, J, none⟩ = some (.int .i64 b) := by rw [← hwx]; exact cb2
                have fax := hrx.free j1 (by have := HML.out; omega)
                have fbx := hrx.free J (by have := HML.out; omega)
                have hne : ¬ j1 = J := by omega
                have HS := Lib.hid (in_swap (j1 := j1) (J := J) HSW.out hrx (HBL.out.trans (hbx.mono HBL.out.size)) HG.out hne)
                clear hwx hbx hrx ca2 cb2 hne
                go_region
                all_goals
                  go_wp2
                  go_roundw
                  case rel => exact ⟨j1, by omega, congrArg (Value.int .i64) (by omega), by first | exact HS.out.1 1 | exact HS.out.2 1 | exact HS.out.1 0 | exact HS.out.2 0⟩
                  case measure => simp [intOf]; omega
            · have e1 : decide (wB < wA) = false := by simp; omega
              have e2 : ((wA : Int) == (wB : Int)) = false := by simp; omega
              have HSW := Lib.hid (HSW.out (fun h => by have := HNEAR.out.1 h; omega))
              go_wp2
              go_region_held3 (fun w' => Below wr.heap.size wr w' ∧ w'.cell? ⟨g, j1, none⟩ = some (.int .i64 a) ∧ w'.cell? ⟨g, J, none⟩ = some (.int .i64 b))
                (first | exact ⟨hd2, ca2, cb2⟩ | exact ⟨hd1, ca1, cb1⟩ | exact ⟨hd0, ca0, cb0⟩)
                (first
                  | (go_at_call 14; (with_reducible refine (HWA.out _).mono ?_); rintro _ wa1 ⟨rfl, hx1⟩; first | (have hd2 := below_nxt hd1 hx1 (Nat.le_refl _); have ca2 := below_cell hx1 _ _ ca1; have cb2 := below_cell hx1 _ _ cb1; clear hx1) | (have hd1 := below_nxt hd0 hx1 (Nat.le_refl _); have ca1 := below_cell hx1 _ _ ca0; have cb1 := below_cell hx1 _ _ cb0; clear hx1))
                  | (go_at_call 14; (with_reducible refine (HWB.out _).mono ?_); rintro _ wa1 ⟨rfl, hx1⟩; first | (have hd2 := below_nxt hd1 hx1 (Nat.le_refl _); have ca2 := below_cell hx1 _ _ ca1; have cb2 := below_cell hx1 _ _ cb1; clear hx1) | (have hd1 := below_nxt hd0 hx1 (Nat.le_refl _); have ca1 := below_cell hx1 _ _ ca0; have cb1 := below_cell hx1 _ _ cb0; clear hx1)))
              all_goals
                have HBE := Lib.hid hd2
                clear hd0 hd1 hd2 ca0 ca1 cb0 cb1
                go_wp2
                go_quiet (fail)
                rename_i nq
                go_wp2
                obtain ⟨wx, hwx⟩ : ∃ wx : World, wa1.drewN nq = wx := ⟨_, rfl⟩
                rw [hwx]
                have hbx : Below wr.heap.size wr wx := by rw [← hwx]; exact below_nxt HBE.out (below_drewN _ _ nq) (Nat.le_refl _)
                have hrx := HRO.out.below HMP.out hbx
                have cax : wx.cell? ⟨g, j1, none⟩ = some (.int .i64 a) := by rw [← hwx]; exact ca2
                have cbx : wx.cell? ⟨g, J, none⟩ = some (.int .i64 b) := by rw [← hwx]; exact cb2
                have fax := hrx.free j1 (by have := HML.out; omega)
                have fbx := hrx.free J (by have := HML.out; omega)
                have hne : ¬ j1 = J := by omega
                have HS := Lib.hid (in_swap (j1 := j1) (J := J) HSW.out hrx (HBL.out.trans (hbx.mono HBL.out.size)) HG.out hne)
                clear hwx hbx hrx ca2 cb2 hne
                go_region
                all_goals
                  go_wp2
                  go_roundw
                  case rel => exact ⟨j1, by omega, congrArg (Value.int .i64) (by omega), by first | exact HS.out.1 1 | exact HS.out.2 1 | exact HS.out.1 0 | exact HS.out.2 0⟩
                  case measure => simp [intOf]; omega
      · obtain rfl : k = L := by omega
        obtain ⟨m, hm, hro, hbl⟩ := hout
        have hml : m.length = k := by rw [← HL.out]; exact hm.1
        have hme := hm.done (Nat.le_of_eq HL.out)
        have HF := Lib.hid (show Ints wr (.slice (some ⟨g, 0, none⟩) k C1) (ord s l) by
          have := hro.ints (C := C1) (fun x hx => H64.out x (by rw [hme] at hx; exact ord_mem.1 hx)) (by omega) k2
          rw [hml, hme] at this
          exact this)
        have HB2 := Lib.hid hbl
        clear hm hro hbl hml hme
        go_wp2
        go_ret
        exact ⟨_, rfl, HF.out, HB2.out⟩
end Go.Proofs.YtcgjoidfmigpnaaDoor.Rk
