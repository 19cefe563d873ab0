/- PlanWrong, as a walk. -/
import Derived.Test.YtegbgnjmkohcfaaDoorPlLaw
import Derived.Deep.RegionHeld3
namespace Go.Proofs.YtegbgnjmkohcfaaDoor.Pl
set_option linter.unusedVariables false
open Go.ChangeShapes Go.WideShapes Go.ChangeAt Go.RowKit
open Go.Mem RecM Tbl Rk Rec
/-- the first i stripes are held against their targets -/
def WtAt (x : List Int) (n : Int) (st : List Int) (ts : List Nat) (i : Nat) (W : World) (v : Value) (wr : World) : Prop := Built IntR wr W.heap.size 3 v (wrong x n (stps st ts i)) ∧ Below W.heap.size W wr
theorem wt_next {x : List Int} {n : Int} {st : List Int} {ts : List Nat} {i : Nat} : wrong x n (stps st ts (i + 1)) = wrong x n (stps st ts i) ++ (if off x n (stp st i (ts.getD i 0)) = true then [sid i] else []) := by
  rw [stps_succ, wrong_snoc]
  rfl
theorem off_is (x : List Int) (n : Int) (st : List Int) (i t : Nat) : off x n (stp st i t) = (tgtOk x n && !eqB (tgt (sid i) x n) (locs st i t)) := by
  rw [eqB_dec]
  rfl
set_option maxRecDepth 100000 in
set_option maxHeartbeats 8000000 in
theorem PlanWrongC (st : List Int) (ts : List Nat) (n : Int) (n0 : -9223372036854775808 ≤ n) (n1 : n ≤ 9223372036854775807) (v u : Value) (W : World) (hT : Hash.Tabs W) (hI : Ints W v st) (hB : Bytes W u ts) :
    Calls Tryd.prog 3 #[v, u, .int .i64 n] W fun e w' => e = .returned (.bool true) ∧ Below W.heap.size W w' := by
  obtain ⟨A, C, rfl, g1, g2, -⟩ := hI.shape
  obtain ⟨A1, C1, rfl, k1, k2, -⟩ := SliceOf.shape hB
  have HT := Lib.hid hT
  have HI := Lib.hid hI
  have HBY := Lib.hid hB
  obtain ⟨m, hm⟩ : ∃ m, st.length = m := ⟨_, rfl⟩
  obtain ⟨N, hN⟩ : ∃ N, ts.length = N := ⟨_, rfl⟩
  have HM := Lib.hid hm
  have HN := Lib.hid hN
  rw [hm] at g1 HI ⊢
  rw [hN] at k1 HBY ⊢
  clear hT hI hB hm hN
  by_cases b1 : 12 < m
  · have d1 : decide ((12 : Int) < (m : Int)) = true := by simp; omega
    have d2 : (12 : Int) < (m : Int) := by omega
    clear b1
    go_enter Tryd.func3, Tryd.ntmps3
    go_wp2_with fail
    refine (answersP _ HT.out).mono ?_
    rintro _ w1 ⟨rfl, hb⟩
    have HB := Lib.hid hb
    clear hb
    go_wp2
    go_ret
    exact ⟨rfl, HB.out⟩
  have d1 : decide ((12 : Int) < (m : Int)) = false := by simp; omega
  have d2 : ¬ (12 : Int) < (m : Int) := by omega
  by_cases b2 : 20 < N
  · have d3 : decide ((20 : Int) < (N : Int)) = true := by simp; omega
    have d4 : (20 : Int) < (N : Int) := by omega
    clear b1 b2
    go_enter Tryd.func3, Tryd.ntmps3
    go_wp2_with fail
    refine (answersP _ HT.out).mono ?_
    rintro _ w1 ⟨rfl, hb⟩
    have HB := Lib.hid hb
    clear hb
    go_wp2
    go_ret
    exact ⟨rfl, HB.out⟩
  have d3 : decide ((20 : Int) < (N : Int)) = false := by simp; omega
  have d4 : ¬ (20 : Int) < (N : Int) := by omega
  have hthere := thereC W st ts _ _ HI.out HBY.out (by rw [HM.out]; omega) (by rw [HN.out]; omega)
  have HTH := Lib.hid hthere
  have HN20 := Lib.hid (show ts.length ≤ 20 by rw [HN.out]; omega)
  have HM12 := Lib.hid (show st.length ≤ 12 by rw [HM.out]; omega)
  clear b1 b2 hthere
  go_enter Tryd.func3, Tryd.ntmps3
  go_wp2_with fail
  refine HTH.out.mono ?_
  rintro _ w1 ⟨F, p, V, k, x, ep, rfl, hp, hf, hv, hvn, hb, hc⟩
  have hk20 : k ≤ 20 := by
    have := HN20.out
    rcases hc with ⟨_, e1, _⟩ | ⟨_, e1, _⟩ <;> omega
  have HX12 := Lib.hid (show x.length ≤ 100 from Nat.le_trans (pd_ok hp).drv.2 (by decide))
  obtain ⟨Av, Cv, rfl, v1, v2, -⟩ := hv.shape
  rw [ids_len] at hv v1 ⊢
  have HP := Lib.hid hp
  have HV := Lib.hid hv
  have HB := Lib.hid hb
  have HOK := Lib.hid (pd_ok hp)
  clear hp hf hv hvn hb hc HTH
  go_wp2
  go_loopw [9, 10] (fun V c wr => ∃ i : Nat, i ≤ k ∧ c = .int .i64 i ∧ WtAt x n st ts i w1 V wr) (fun _ c _ => k - (intOf c).toNat)
  case atStart => exact ⟨0, Nat.zero_le _, rfl, Built.start _ _ _, Below.refl _ _⟩
  case round =>
    obtain ⟨i, hi, rfl, hbu, hbl⟩ := hrel
    have HBU := Lib.hid hbu
    have HBL := Lib.hid hbl
    have HWL := Lib.hid (show (wrong x n (stps st ts i)).length ≤ 1000 from Nat.le_trans (wrong_len _ _ _) (by rw [stps_len]; omega))
    by_cases hlt : i < k
    · obtain ⟨b, o, rfl, c0, -⟩ := (HV.out.below hbl).at (i := i) (by rw [ids_len]; exact hlt)
      rw [ids_get] at c0
      have q1 : (0 : Int) ≤ (i : Int) := by omega
      have q2 : (i : Int) < (k : Int) := by omega
      have HSI := Lib.hid (stripe_at HOK.out hlt)
      have HNX := Lib.hid (wt_next (x := x) (n := n) (st := st) (ts := ts) (i := i))
      obtain ⟨t, ht⟩ : ∃ t, ts.getD i 0 = t := ⟨_, rfl⟩
      rw [ht] at HSI HNX
      have HI64 := Lib.hid (show I64 (sid i) from sid_i64 (by omega))
      obtain ⟨z, hz⟩ : ∃ z, sid i = z := ⟨_, rfl⟩
      have HZ := Lib.hid hz
      rw [hz] at c0 HSI HI64 HNX
      obtain ⟨Lw, hLw⟩ : ∃ Lw, (wrong x n (stps st ts i)).length = Lw := ⟨_, rfl⟩
      have HLW := Lib.hid hLw
      obtain ⟨Aw, Cw, e1, hl1, hl2⟩ := hbu.len
      rw [hLw] at e1 hl1 HWL
      subst e1
      clear hbu hbl ht hz hLw
      go_wp2_with fail
      refine (stripeP (pd_below HP.out HBL.out) z HI64.out).mono ?_
      rintro _ w2 ⟨V2, rfl, hV2, hb2⟩
      rw [HSI.out] at hV2 ⊢
      obtain ⟨A3, C3, rfl, hl3, -, -, -⟩ := (show StpIs w2 V2 (stp st i t) from hV2)
      rw [show (stp st i t).locs = locs st i t from rfl, (locs_ok HM12.out i t).1] at hl3
      rw [show (stp st i t).locs = locs st i t from rfl, show (stp st i t).id = sid i from rfl, HZ.out, show (stp st i t).ep = 1 from rfl, (locs_ok HM12.out i t).1]
      have hal : Below w2.heap.size w2 (w2.alloc (.cells #[.int .i64 z, .int .i64 1, .slice A3 3 C3] TStp)) := (Below.refl _ _).alloc (Nat.le_refl _) _
      have hrow : (w2.alloc (.cells #[.int .i64 z, .int .i64 1, .slice A3 3 C3] TStp)).rowIs w2.heap.size TStp 3 (fun j => #[Value.int .i64 z, .int .i64 1, .slice A3 3 C3].getD j undef) := row_of w2 _ _
      obtain ⟨wb, hwb⟩ : ∃ wb, w2.alloc (.cells #[.int .i64 z, .int .i64 1, .slice A3 3 C3] TStp) = wb := ⟨_, rfl⟩
      rw [hwb] at hal hrow
      obtain ⟨B, hB⟩ : ∃ B, w2.heap.size = B := ⟨_, rfl⟩
      rw [hB] at hrow
      have hbr : Below wr.heap.size wr wb := hb2.trans (hal.mono hb2.size)
      have HWB := Lib.hid hwb
      have HBB := Lib.hid hB
      have HBR := Lib.hid hbr
      have HL3 := Lib.hid (hl3.below hal)
      have ca0 := below_cell (below_drewN _ wb 1) _ _ (below_cell hbr _ _ c0)
      have HR2 := Lib.hid (hrow.cell (i := 2) (by omega))
      have hd0 : Below wb.heap.size wb wb.drew := below_drewN _ wb 1
      have HPB := Lib.hid (pd_below HP.out (HBL.out.trans (hbr.mono HBL.out.size)))
      have HSTS := Lib.hid (fun (w' : World) (hx : Below wb.heap.size wb w') => statesP (pd_below HPB.out hx))
      have HTG := Lib.hid (fun (w' : World) (us : Value) (hu : Ints w' us x) => refTargets w' z us x n hu HI64.out ⟨n0, n1⟩ HX12.out)
      clear hV2 hl3 hb2 hal hrow hwb hB hbr
      go_upto_region 9 with fail
      rw [HWB.out, HBB.out]
      clear c0
      go_region_held3 (fun w' => Below wb.heap.size wb w' ∧ w'.cell? ⟨b, o + i, none⟩ = some (.int .i64 z))
        (first | exact ⟨hd2, ca2⟩ | exact ⟨hd1, ca1⟩ | exact ⟨hd0, ca0⟩)
        (first
          | (go_at_call 9; (with_reducible refine (HSTS.out _ hd0).mono ?_); rintro _ wa1 ⟨us, rfl, hus, hx1⟩; have hus1 : Ints wa1 us x := hus; obtain ⟨As, Cs, rfl, -, -, -⟩ := hus1.shape; have hd1 := Rk.below_nxt hd0 hx1 (Nat.le_refl _); have ca1 := below_cell hx1 _ _ ca0; clear hx1 hus)
          | (go_at_call 8; (with_reducible refine (HTG.out _ _ hus1).mono ?_); rintro _ wa2 ⟨u4, rfl, hu4, hx2, -⟩; have hd2 := Rk.below_nxt hd1 hx2 (Nat.le_refl _); have ca2 := below_cell hx2 _ _ ca1; obtain ⟨A4, C4, rfl, -, -, -⟩ := hu4.shape; clear hx2))
      all_goals
        obtain ⟨ok, hok⟩ : ∃ ok, tgtOk x n = ok := ⟨_, rfl⟩
        have HOKT := Lib.hid hok
        obtain ⟨m4, hm4⟩ : ∃ m4, (tgt z x n).length = m4 := ⟨_, rfl⟩
        have HM4 := Lib.hid hm4
        have HU4 := Lib.hid hu4
        rw [hm4] at HU4 ⊢
        rw [hok]
        have r2 := below_cell hd2 _ _ HR2.out
        have HL4 := Lib.hid (HL3.out.below hd2)
        have hbw : Below wr.heap.size wr wa2 := HBR.out.trans (hd2.mono HBR.out.size)
        have HBW := Lib.hid hbw
        have HBA := Lib.hid (HBL.out.trans (hbw.mono HBL.out.size))
        clear hd0 hd1 hd2 ca0 ca1 hu4 hus1 hm4 hok hbw
        go_wp2_with fail
        refine (targetYes (pd_below HP.out HBA.out) (HT.out.below (HB.out.trans (HBA.out.mono HB.out.size))) z n HI64.out ⟨n0, n1⟩ HSI.out).mono ?_
        rintro _ w5 ⟨u5, rfl, hu5, hb5⟩
        have hu5' : Ints w5 u5 (tgt z x n) := hu5
        rw [show tgtOk (tabOf st ts k x ep).states n = ok from HOKT.out]
        obtain ⟨A5, C5, rfl, -, -, -⟩ := hu5'.shape
        rw [HM4.out] at hu5' ⊢
        have HU5 := Lib.hid hu5'
        have c5 := below_cell hb5 _ _ ca2
        have r5 := below_cell hb5 _ _ r2
        have HU45 := Lib.hid (HU4.out.below hb5)
        have HL5 := Lib.hid (HL4.out.below hb5)
        have HBW5 := Lib.hid (HBW.out.trans (hb5.mono HBW.out.size))
        clear hu5 hu5' hb5 ca2 r2
        have hq : (ok != ok) = false := by cases ok <;> rfl
        go_wp2_with fail
        refine (intsC _ _ _ _ _ HU5.out HU45.out).mono ?_
        rintro _ w6 ⟨rfl, j6, hj6⟩
        rw [eqB_yes rfl]
        have hb6 : Below w5.heap.size w5 w6 := by rw [hj6]; exact below_drewN _ w5 j6
        have c6 := below_cell hb6 _ _ c5
        have r6 := below_cell hb6 _ _ r5
        have HU6 := Lib.hid (HU45.out.below hb6)
        have HL6 := Lib.hid (HL5.out.below hb6)
        have HBW6 := Lib.hid (HBW5.out.trans (hb6.mono HBW5.out.size))
        clear hj6 hb6 c5 r5 hq
        cases ok
        · have HX := Lib.hid (show WtAt x n st ts (i + 1) w1 (.slice Aw Lw Cw) w6 from ⟨by rw [HNX.out, if_neg (by rw [off_is, HOKT.out]; simp), List.append_nil]; exact HBU.out.below HBW6.out, HBL.out.trans (HBW6.out.mono HBL.out.size)⟩)
          go_wp2
          go_roundw
          case rel => exact ⟨i + 1, by omega, by go_num, HX.out⟩
          case measure => simp [intOf]; omega
        · go_wp2_with fail
          refine (intsC _ _ _ _ _ HU6.out HL6.out).mono ?_
          rintro _ w7 ⟨rfl, j7, hj7⟩
          have hb7 : Below w6.heap.size w6 w7 := by rw [hj7]; exact below_drewN _ w6 j7
          have c7 := below_cell hb7 _ _ c6
          have HBW7 := Lib.hid (HBW6.out.trans (hb7.mono HBW6.out.size))
          have HBU7 := Lib.hid (HBU.out.below HBW7.out)
          have HBL7 := Lib.hid (HBL.out.trans (HBW7.out.mono HBL.out.size))
          clear hj7 hb7 c6 r6
          cases hq : eqB (tgt z x n) (locs st i t)
          · have HNX2 := Lib.hid (show wrong x n (stps st ts (i + 1)) = wrong x n (stps st ts i) ++ [z] by rw [HNX.out, if_pos (by rw [off_is, HOKT.out, HZ.out, hq]; rfl)])
            clear hq
            go_wp2_with (at_builtin; refine wpList_append_built (R := IntR) _ rfl (.tmp 87) (.tmp 92) 22 rfl w1.heap.size 3 (.int .i64 0) 8 Tryd.underlying22 Rk.infoInt rfl _ _ rfl HBU7.out _ z _ rfl rfl rfl (fun _ _ => ⟨rfl, HI64.out⟩) (by rw [HLW.out]; have := HWL.out; omega) HBL7.out.size ?_; intro v' w' hbu' hg' hb'; have HX := Lib.hid (show WtAt x n st ts (i + 1) w1 v' w' from ⟨by rw [HNX2.out]; exact hbu', HBL7.out.trans hb'⟩); obtain ⟨A8, C8, e8, _⟩ := hbu'.len; obtain ⟨L8, hL8⟩ : ∃ L8, (wrong x n (stps st ts i) ++ [z]).length = L8 := ⟨_, rfl⟩; rw [hL8] at e8; subst e8; clear hbu' hg' hb' hL8)
            go_roundw
            case rel => exact ⟨i + 1, by omega, by go_num, HX.out⟩
            case measure => simp [intOf]; omega
          · have HX := Lib.hid (show WtAt x n st ts (i + 1) w1 (.slice Aw Lw Cw) w7 from ⟨by rw [HNX.out, if_neg (by rw [off_is, HOKT.out, HZ.out, hq]; simp), List.append_nil]; exact HBU7.out, HBL7.out⟩)
            clear hq
            go_wp2
            go_roundw
            case rel => exact ⟨i + 1, by omega, by go_num, HX.out⟩
            case measure => simp [intOf]; omega
    · obtain rfl : i = k := by omega
      have HIN := Lib.hid (show Ints wr _ (wrong x n (stps st ts i)) from hbu.slice)
      obtain ⟨Aw, Cw, e1, -, -⟩ := hbu.len
      obtain ⟨Lw, hLw⟩ : ∃ Lw, (wrong x n (stps st ts i)).length = Lw := ⟨_, rfl⟩
      rw [hLw] at e1
      subst e1
      have HB5 := Lib.hid (HB.out.trans (hbl.mono HB.out.size))
      have HP5 := Lib.hid (pd_below HP.out hbl)
      have HRW := Lib.hid (rowS_of HOK.out)
      clear hbu hbl hLw HBU HBL HWL
      go_wp2_with fail
      refine (targetNo HP5.out 5 n (by unfold I64; decide) (stripe_five _ _ _ _ _)).mono ?_
      rintro _ w5 ⟨rfl, hb5⟩
      have HIN5 := Lib.hid (HIN.out.below hb5)
      have HB6 := Lib.hid (HB5.out.trans (hb5.mono HB5.out.size))
      have HP6 := Lib.hid (pd_below HP5.out hb5)
      clear hb5
      go_wp2_with fail
      refine (answersP _ (HT.out.below HB6.out)).mono ?_
      rintro _ w6 ⟨rfl, hb6⟩
      have HIN6 := Lib.hid (HIN5.out.below hb6)
      have HB7 := Lib.hid (HB6.out.trans (hb6.mono HB6.out.size))
      have HP7 := Lib.hid (pd_below HP6.out hb6)
      clear hb6
      go_wp2_with fail
      refine (wrongC HP7.out (by unfold Few; show (objs st ts i).length ≤ 1000; rw [objs_len]; omega) (by rw [HRW.out, stps_len]; omega) (HT.out.below HB7.out) n ⟨n0, n1⟩).mono ?_
      rintro _ w7 ⟨u7, rfl, hu7, hb7, -⟩
      rw [HRW.out] at hu7
      have hu7' : Ints w7 u7 (wrong x n (stps st ts i)) := hu7
      have HIN7 := Lib.hid (HIN6.out.below hb7)
      have HB8 := Lib.hid (HB7.out.trans (hb7.mono HB7.out.size))
      obtain ⟨A7, C7, rfl, -, -, -⟩ := hu7'.shape
      obtain ⟨L7, hL7⟩ : ∃ L7, (wrong x n (stps st ts i)).length = L7 := ⟨_, rfl⟩
      rw [hL7] at hu7' ⊢
      have HU7 := Lib.hid hu7'
      clear hu7 hu7' hb7 hL7
      go_wp2_with fail
      refine (intsC _ _ _ _ _ HU7.out HIN7.out).mono ?_
      rintro _ w8 ⟨rfl, j8, hj8⟩
      rw [eqB_yes rfl]
      have hb8 : Below w7.heap.size w7 w8 := by rw [hj8]; exact below_drewN _ w7 j8
      have HB9 := Lib.hid (HB8.out.trans (hb8.mono HB8.out.size))
      clear hj8 hb8
      go_wp2
      go_ret
      exact ⟨rfl, HB9.out⟩
end Go.Proofs.YtegbgnjmkohcfaaDoor.Pl
