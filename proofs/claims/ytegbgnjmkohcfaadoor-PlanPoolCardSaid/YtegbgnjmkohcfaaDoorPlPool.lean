/- PlanPool, as a walk. -/
import Derived.Test.YtegbgnjmkohcfaaDoorPlWrong
namespace Go.Proofs.YtegbgnjmkohcfaaDoor.Pl
set_option linter.unusedVariables false
open Go.ChangeShapes Go.WideShapes Go.ChangeAt Go.RowKit
open Go.Mem RecM Tbl Rk Rec
/-- one of the first j is z -/
def hasB (l : List Int) (z : Int) (j : Nat) : Bool := (l.take j).any fun y => y == z
theorem hasB_nil (l : List Int) (z : Int) : hasB l z 0 = false := rfl
theorem hasB_next {l : List Int} {z : Int} {j : Nat} (h : j < l.length) : hasB l z (j + 1) = (hasB l z j || (l[j] == z)) := by
  unfold hasB
  rw [List.take_succ_eq_append_getElem h, List.any_append]
  simp
theorem hasB_all {l : List Int} {z : Int} : hasB l z l.length = decide (z ∈ l) := by
  unfold hasB
  rw [List.take_of_length_le (Nat.le_refl _)]
  by_cases h : z ∈ l
  · rw [decide_eq_true h, List.any_eq_true]
    exact ⟨z, h, by simp⟩
  · rw [decide_eq_false h]
    refine Bool.eq_false_iff.2 fun q => h ?_
    obtain ⟨y, hy, e⟩ := List.any_eq_true.1 q
    have : y = z := by simpa using e
    rw [← this]
    exact hy
theorem has_off {x : List Int} {n : Int} {st : List Int} {ts : List Nat} {k i : Nat} (hi : i < k) : hasB (wrong x n (stps st ts k)) (sid i) (wrong x n (stps st ts k)).length = off x n (stp st i (ts.getD i 0)) := by
  rw [hasB_all]
  cases h : off x n (stp st i (ts.getD i 0))
  · exact decide_eq_false fun q => by rw [(wrong_mem hi).1 q] at h; cases h
  · exact decide_eq_true ((wrong_mem hi).2 h)
set_option maxRecDepth 100000 in
set_option maxHeartbeats 16000000 in
theorem PlanPoolC (st other : List Int) (ts : List Nat) (v vo u : Value) (W : World) (hT : Hash.Tabs W) (hI : Ints W v st) (hO : Ints W vo other) (hB : Bytes W u ts) :
    Calls Tryd.prog 4 #[v, vo, u] W fun e w' => e = .returned (.bool true) ∧ Below W.heap.size W w' := by
  obtain ⟨A, C, rfl, g1, g2, -⟩ := hI.shape
  obtain ⟨A0, C0, rfl, h1, h2, -⟩ := hO.shape
  obtain ⟨A1, C1, rfl, k1, k2, -⟩ := SliceOf.shape hB
  have HT := Lib.hid hT
  have HI := Lib.hid hI
  have HO := Lib.hid hO
  have HBY := Lib.hid hB
  obtain ⟨m, hm⟩ : ∃ m, st.length = m := ⟨_, rfl⟩
  obtain ⟨mo, hmo⟩ : ∃ mo, other.length = mo := ⟨_, rfl⟩
  obtain ⟨N, hN⟩ : ∃ N, ts.length = N := ⟨_, rfl⟩
  have HM := Lib.hid hm
  have HMO := Lib.hid hmo
  have HN := Lib.hid hN
  rw [hm] at g1 HI ⊢
  rw [hmo] at h1 HO ⊢
  rw [hN] at k1 HBY ⊢
  clear hT hI hO hB hm hmo hN
  by_cases b1 : 12 < m
  · have d1 : decide ((12 : Int) < (m : Int)) = true := by simp; omega
    have d2 : (12 : Int) < (m : Int) := by omega
    clear b1
    go_enter Tryd.func4, Tryd.ntmps4
    go_wp2_with fail
    refine (answersP _ HT.out).mono ?_
    rintro _ w1 ⟨rfl, hb⟩
    have HB := Lib.hid hb
    clear hb
    go_wp2
    go_ret
    exact ⟨rfl, HB.out⟩
  have e1 : decide ((12 : Int) < (m : Int)) = false := by simp; omega
  have f1 : ¬ (12 : Int) < (m : Int) := by omega
  by_cases b2 : 12 < mo
  · have d1 : decide ((12 : Int) < (mo : Int)) = true := by simp; omega
    have d2 : (12 : Int) < (mo : Int) := by omega
    clear b1 b2
    go_enter Tryd.func4, Tryd.ntmps4
    go_wp2_with fail
    refine (answersP _ HT.out).mono ?_
    rintro _ w1 ⟨rfl, hb⟩
    have HB := Lib.hid hb
    clear hb
    go_wp2
    go_ret
    exact ⟨rfl, HB.out⟩
  have e2 : decide ((12 : Int) < (mo : Int)) = false := by simp; omega
  have f2 : ¬ (12 : Int) < (mo : Int) := by omega
  by_cases b3 : mo < m
  · have d1 : decide ((mo : Int) < (m : Int)) = true := by simp; omega
    have d2 : (mo : Int) < (m : Int) := by omega
    clear b1 b2 b3
    go_enter Tryd.func4, Tryd.ntmps4
    go_wp2_with fail
    refine (answersP _ HT.out).mono ?_
    rintro _ w1 ⟨rfl, hb⟩
    have HB := Lib.hid hb
    clear hb
    go_wp2
    go_ret
    exact ⟨rfl, HB.out⟩
  have e3 : decide ((mo : Int) < (m : Int)) = false := by simp; omega
  have f3 : ¬ (mo : Int) < (m : Int) := by omega
  by_cases b4 : 10 < N
  · have d1 : decide ((10 : Int) < (N : Int)) = true := by simp; omega
    have d2 : (10 : Int) < (N : Int) := by omega
    clear b1 b2 b3 b4
    go_enter Tryd.func4, Tryd.ntmps4
    go_wp2_with fail
    refine (answersP _ HT.out).mono ?_
    rintro _ w1 ⟨rfl, hb⟩
    have HB := Lib.hid hb
    clear hb
    go_wp2
    go_ret
    exact ⟨rfl, HB.out⟩
  have e4 : decide ((10 : Int) < (N : Int)) = false := by simp; omega
  have f4 : ¬ (10 : Int) < (N : Int) := by omega
  have hthere := thereC W st ts _ _ HI.out HBY.out (by rw [HM.out]; omega) (by rw [HN.out]; omega)
  have HTH := Lib.hid hthere
  have HN20 := Lib.hid (show ts.length ≤ 20 by rw [HN.out]; omega)
  have HM12 := Lib.hid (show st.length ≤ 12 by rw [HM.out]; omega)
  have HO12 := Lib.hid (show other.length ≤ 12 by rw [HMO.out]; omega)
  have HLE := Lib.hid (show st.length ≤ other.length by rw [HM.out, HMO.out]; omega)
  clear b1 b2 b3 b4 hthere
  go_enter Tryd.func4, Tryd.ntmps4
  go_wp2_with fail
  refine HTH.out.mono ?_
  rintro _ w1 ⟨F, p, V, k, x, ep, rfl, hp, hf, hv, hvn, hb, hc⟩
  have hk20 : k ≤ 20 := by
    have := HN20.out
    rcases hc with ⟨_, e1, _⟩ | ⟨_, e1, _⟩ <;> omega
  obtain ⟨Av, Cv, rfl, v1, v2, -⟩ := hv.shape
  rw [ids_len] at hv v1 hvn ⊢
  have HP := Lib.hid hp
  have HF := Lib.hid hf
  have HV := Lib.hid hv
  have HVN := Lib.hid hvn
  have HB := Lib.hid hb
  have HC := Lib.hid hc
  have HFL := Lib.hid (pd_lt hp)
  have HR1 := Lib.hid (rowS_of (pd_ok hp))
  clear hp hf hv hvn hb hc HTH e1 f1 e2 f2 e3 f3 e4 f4
  go_wp2_with fail
  refine (wrongC HP.out (by unfold Few; show (objs st ts k).length ≤ 1000; rw [objs_len]; omega) (by rw [HR1.out, stps_len]; omega) (HT.out.below HB.out) 3 (by unfold I64; decide)).mono ?_
  rintro _ w2 ⟨ub, rfl, hub, hb2, hubn⟩
  rw [HR1.out] at hub
  obtain ⟨L1, hL1⟩ : ∃ L1, wrong x 3 (stps st ts k) = L1 := ⟨_, rfl⟩
  have hub' : Ints w2 ub L1 := by rw [← hL1]; exact hub
  obtain ⟨Ab, Cb, rfl, ub1, ub2, -⟩ := hub'.shape
  obtain ⟨m1, hm1⟩ : ∃ m1, L1.length = m1 := ⟨_, rfl⟩
  rw [hm1] at hub' hubn ub1 ⊢
  have HLL1 := Lib.hid hL1
  have HL1 := Lib.hid hm1
  have HUB := Lib.hid hub'
  have HUBN := Lib.hid (show ∀ b, (Value.slice Ab m1 Cb).ownBlock = some b → ¬ F b from fun b q z => by have := hubn b q; have := HFL.out b z; omega)
  have HB2 := Lib.hid (HB.out.trans (hb2.mono HB.out.size))
  have HP2 := Lib.hid (pd_below HP.out hb2)
  have HV2 := Lib.hid (HV.out.below hb2)
  have HRP := Lib.hid (recP_sure (w := w2) (F := F) (ep := 2) (A := A0) (C := C0) (ints_older (by have := HO.out; rw [← HMO.out] at this; exact this) HB2.out HF.out) (by unfold I64; decide) (by unfold LenOk; have := HO12.out; omega))
  rw [HMO.out] at HRP
  clear hub hub' hubn hb2 hL1 hm1
  go_wp2_with fail
  refine (applyP HP2.out (by unfold Few; show (objs st ts k).length ≤ 1000; rw [objs_len]; omega) (recP 2 other) _ HRP.out (Nat.zero_le _) (by have := HO12.out; show other.length ≤ _; omega)).mono ?_
  rintro _ w3 ⟨rfl, F3, hp3, ht3, hg3⟩
  rw [pool_step] at hp3 ⊢
  have hb3 : Below W.heap.size W w3 := HB2.out.trans (ht3.below HF.out HB2.out.size)
  have HB3 := Lib.hid hb3
  have HV3 := Lib.hid (ints_away HV2.out HVN.out w3 ht3)
  have HUB3 := Lib.hid (ints_away HUB.out HUBN.out w3 ht3)
  clear hb3 ht3 hg3
  by_cases hd : (2 : Int) = ep + 1 ∧ (2 : Int) ≤ 1073741824 ∧ Tb.DrvOk other ∧ x.length ≤ other.length
  · rw [if_pos hd] at hp3 ⊢
    obtain ⟨rfl, hkN⟩ : x = st ∧ k = ts.length := by
      rcases HC.out with ⟨_, e1, e2, _⟩ | ⟨_, _, _, e3⟩
      · exact ⟨e2, e1⟩
      · omega
    have HP3 := Lib.hid (show PDt w3 F3 p (tabOf x ts k other 2) from hp3)
    have HR3 := Lib.hid (rowS_of (pd_ok (show PDt w3 F3 p (tabOf x ts k other 2) from hp3)))
    have HOK3 := Lib.hid (pd_ok (show PDt w3 F3 p (tabOf x ts k other 2) from hp3))
    rw [show errI (some (tabOf x ts k other 2)).isSome = 0 from rfl]
    clear hp3 hd hkN HP HF HV HVN HB HC HFL HR1 HUB HUBN HB2 HP2 HV2 HRP
    go_wp2_with fail
    refine (wrongC HP3.out (by unfold Few; show (objs x ts k).length ≤ 1000; rw [objs_len]; omega) (by rw [HR3.out, stps_len]; omega) (HT.out.below HB3.out) 3 (by unfold I64; decide)).mono ?_
    rintro _ w4 ⟨uc, rfl, huc, hb4, -⟩
    rw [HR3.out] at huc
    obtain ⟨L2, hL2⟩ : ∃ L2, wrong other 3 (stps x ts k) = L2 := ⟨_, rfl⟩
    have huc' : Ints w4 uc L2 := by rw [← hL2]; exact huc
    obtain ⟨Ac, Cc, rfl, uc1, uc2, -⟩ := huc'.shape
    obtain ⟨m2, hm2⟩ : ∃ m2, L2.length = m2 := ⟨_, rfl⟩
    rw [hm2] at huc' uc1 ⊢
    have HLL2 := Lib.hid hL2
    have HL2 := Lib.hid hm2
    have HUC := Lib.hid huc'
    have HB4 := Lib.hid (HB3.out.trans (hb4.mono HB3.out.size))
    have HP4 := Lib.hid (pd_below HP3.out hb4)
    have HV4 := Lib.hid (HV3.out.below hb4)
    have HUB4 := Lib.hid (HUB3.out.below hb4)
    clear huc huc' hb4 hL2 hm2 HUB3 HV3 HP3
    go_wp2
    go_loopw [11] (fun c wr => ∃ i : Nat, i ≤ k ∧ c = .int .i64 i ∧ Below w4.heap.size w4 wr) (fun c _ => k - (intOf c).toNat)
    case atStart => exact ⟨0, Nat.zero_le _, rfl, Below.refl _ _⟩
    case round =>
      obtain ⟨i, hi, rfl, hbl⟩ := hrel
      have HBL := Lib.hid hbl
      by_cases hlt : i < k
      · obtain ⟨b, o, rfl, c0, -⟩ := (HV4.out.below hbl).at (i := i) (by rw [ids_len]; exact hlt)
        rw [ids_get] at c0
        have q1 : (0 : Int) ≤ (i : Int) := by omega
        have q2 : (i : Int) < (k : Int) := by omega
        have HSI := Lib.hid (stripe_at HOK3.out hlt)
        have HW1 := Lib.hid (show hasB L1 (sid i) m1 = off x 3 (stp x i (ts.getD i 0)) by rw [← HL1.out, ← HLL1.out]; exact has_off hlt)
        have HW2 := Lib.hid (show hasB L2 (sid i) m2 = off other 3 (stp x i (ts.getD i 0)) by rw [← HL2.out, ← HLL2.out]; exact has_off hlt)
        obtain ⟨t, ht⟩ : ∃ t, ts.getD i 0 = t := ⟨_, rfl⟩
        rw [ht, off_is] at HW1 HW2
        rw [ht] at HSI
        have HI64 := Lib.hid (show I64 (sid i) from sid_i64 (by omega))
        obtain ⟨z, hz⟩ : ∃ z, sid i = z := ⟨_, rfl⟩
        have HZ := Lib.hid hz
        rw [hz] at c0 HSI HI64 HW1 HW2
        clear hbl ht hz
        go_wp2_with fail
        refine (stripeP (pd_below HP4.out HBL.out) z HI64.out).mono ?_
        rintro _ w5 ⟨V2, rfl, hV2, hb2⟩
        rw [HSI.out] at hV2 ⊢
        obtain ⟨A3, C3, rfl, hl3, -, -, -⟩ := (show StpIs w5 V2 (stp x i t) from hV2)
        rw [show (stp x i t).locs = locs x i t from rfl, (locs_ok HM12.out i t).1] at hl3
        rw [show (stp x i t).locs = locs x i t from rfl, show (stp x i t).id = sid i from rfl, HZ.out, show (stp x i t).ep = 1 from rfl, (locs_ok HM12.out i t).1]
        have hal : Below w5.heap.size w5 (w5.alloc (.cells #[.int .i64 z, .int .i64 1, .slice A3 3 C3] TStp)) := (Below.refl _ _).alloc (Nat.le_refl _) _
        have hrow : (w5.alloc (.cells #[.int .i64 z, .int .i64 1, .slice A3 3 C3] TStp)).rowIs w5.heap.size TStp 3 (fun j => #[Value.int .i64 z, .int .i64 1, .slice A3 3 C3].getD j undef) := row_of w5 _ _
        obtain ⟨wb, hwb⟩ : ∃ wb, w5.alloc (.cells #[.int .i64 z, .int .i64 1, .slice A3 3 C3] TStp) = wb := ⟨_, rfl⟩
        rw [hwb] at hal hrow
        obtain ⟨B, hB⟩ : ∃ B, w5.heap.size = B := ⟨_, rfl⟩
        rw [hB] at hrow
        have hbr : Below wr.heap.size wr wb := hb2.trans (hal.mono hb2.size)
        have HWB := Lib.hid hwb
        have HBB := Lib.hid hB
        have HBR := Lib.hid hbr
        have HL3 := Lib.hid (hl3.below hal)
        have cb := below_cell hbr _ _ c0
        have HR2 := Lib.hid (hrow.cell (i := 2) (by omega))
        have HWR := Lib.hid (HBL.out.trans (hbr.mono HBL.out.size))
        clear hV2 hl3 hb2 hal hrow hwb hB hbr
        go_upto_region 12 with fail
        rw [HWB.out, HBB.out]
        clear c0
        go_wp2_with fail
        refine (refTargets _ z _ x 3 (HI.out.below (HB4.out.trans (HWR.out.mono HB4.out.size))) HI64.out (by unfold I64; decide) (by have := HM12.out; omega)).mono ?_
        rintro _ wc ⟨ua, rfl, hua, hbc, -⟩
        have cc := below_cell hbc _ _ cb
        have HWC := Lib.hid (HWR.out.trans (hbc.mono HWR.out.size))
        have HBC := Lib.hid hbc
        have HUA := Lib.hid hua
        obtain ⟨ok1, hok1⟩ : ∃ ok1, tgtOk x 3 = ok1 := ⟨_, rfl⟩
        rw [hok1] at HW1 ⊢
        obtain ⟨A4, C4, rfl, -, -, -⟩ := hua.shape
        obtain ⟨m4, hm4⟩ : ∃ m4, (tgt z x 3).length = m4 := ⟨_, rfl⟩
        rw [hm4] at HUA ⊢
        clear hua hbc cb hok1 hm4
        go_wp2_with fail
        refine (refTargets _ z _ other 3 (HO.out.below (HB4.out.trans (HWC.out.mono HB4.out.size))) HI64.out (by unfold I64; decide) (by have := HO12.out; omega)).mono ?_
        rintro _ w6 ⟨uo, rfl, huo, hbd, -⟩
        have cz := below_cell hbd _ _ cc
        have HWD := Lib.hid (HWC.out.trans (hbd.mono HWC.out.size))
        have HUA6 := Lib.hid (HUA.out.below hbd)
        have HUO6 := Lib.hid huo
        obtain ⟨ok2, hok2⟩ : ∃ ok2, tgtOk other 3 = ok2 := ⟨_, rfl⟩
        rw [hok2] at HW2 ⊢
        obtain ⟨A5, C5, rfl, -, -, -⟩ := huo.shape
        obtain ⟨m5, hm5⟩ : ∃ m5, (tgt z other 3).length = m5 := ⟨_, rfl⟩
        rw [hm5] at HUO6 ⊢
        have r6 := below_cell hbd _ _ (below_cell HBC.out _ _ HR2.out)
        have HL6 := Lib.hid ((HL3.out.below HBC.out).below hbd)
        have HUL1 := Lib.hid (HUB4.out.below HWD.out)
        have HUL2 := Lib.hid (HUC.out.below HWD.out)
        have HR6 := Lib.hid r6
        obtain ⟨f1, hf1⟩ : ∃ f1, eqB (tgt z x 3) (locs x i t) = f1 := ⟨_, rfl⟩
        obtain ⟨f2, hf2⟩ : ∃ f2, eqB (tgt z other 3) (locs x i t) = f2 := ⟨_, rfl⟩
        rw [hf1] at HW1
        rw [hf2] at HW2
        have HF1 := Lib.hid hf1
        have HF2 := Lib.hid hf2
        clear huo hbd cc hok2 hm5 r6 hf1 hf2
        go_wp2
        go_loopw [18, 20] (fun s c wq => ∃ j : Nat, j ≤ m1 ∧ c = .int .i64 j ∧ s = .bool (hasB L1 z j) ∧ ∃ q, wq = w6.drewN q) (fun _ c _ => m1 - (intOf c).toNat)
        case atStart => exact ⟨0, Nat.zero_le _, rfl, rfl, 0, rfl⟩
        case round =>
          obtain ⟨j, hj, rfl, rfl, q, rfl⟩ := hrel
          by_cases hlt2 : j < m1
          · have hjl : j < L1.length := by rw [HL1.out]; exact hlt2
            obtain ⟨bb, ob, rfl, y0, -⟩ := HUL1.out.at hjl
            have HNX := Lib.hid (hasB_next (z := z) hjl)
            obtain ⟨y, hy⟩ : ∃ y, L1[j] = y := ⟨_, rfl⟩
            rw [hy] at y0 HNX
            have p1 : (0 : Int) ≤ (j : Int) := by omega
            have p2 : (j : Int) < (m1 : Int) := by omega
            clear hjl hy
            cases hh : hasB L1 z j
            · by_cases hyz : y = z
              · have HN2 := Lib.hid (show hasB L1 z (j + 1) = true by rw [HNX.out, hh, hyz]; simp)
                have hq : (y == z) = true := by rw [hyz]; simp
                clear hh hyz
                go_wp2
                go_quiet (fail)
                go_wp2
                go_roundw
                case rel => exact ⟨j + 1, by omega, by go_num, by rw [HN2.out], _, rfl⟩
                case measure => simp [intOf]; omega
              · have HN2 := Lib.hid (show hasB L1 z (j + 1) = false by rw [HNX.out, hh]; simp [hyz])
                have hq : (y == z) = false := by simpa using hyz
                clear hh hyz
                go_wp2
                go_quiet (fail)
                go_wp2
                go_roundw
                case rel => exact ⟨j + 1, by omega, by go_num, by rw [HN2.out], _, rfl⟩
                case measure => simp [intOf]; omega
            · have HN2 := Lib.hid (show hasB L1 z (j + 1) = true by rw [HNX.out, hh]; rfl)
              clear hh
              go_wp2
              go_quiet (fail)
              go_wp2
              go_roundw
              case rel => exact ⟨j + 1, by omega, by go_num, by rw [HN2.out], _, rfl⟩
              case measure => simp [intOf]; omega
          · obtain rfl : j = m1 := by omega
            obtain ⟨w7, hw7⟩ : ∃ w7, w6.drewN q = w7 := ⟨_, rfl⟩
            rw [hw7, HW1.out]
            have hb7 : Below w6.heap.size w6 w7 := by rw [← hw7]; exact below_drewN _ w6 q
            have cz7 := below_cell hb7 _ _ cz
            have HB7 := Lib.hid hb7
            have HUL27 := Lib.hid (HUL2.out.below hb7)
            clear hw7 hb7 cz hlt2 hj
            go_wp2
            go_loopw [19, 21] (fun s c wq => ∃ j : Nat, j ≤ m2 ∧ c = .int .i64 j ∧ s = .bool (hasB L2 z j) ∧ ∃ q, wq = w7.drewN q) (fun _ c _ => m2 - (intOf c).toNat)
            case atStart => exact ⟨0, Nat.zero_le _, rfl, rfl, 0, rfl⟩
            case round =>
              obtain ⟨j, hj3, rfl, rfl, q3, rfl⟩ := hrel
              by_cases hlt3 : j < m2
              · have hjl : j < L2.length := by rw [HL2.out]; exact hlt3
                obtain ⟨bc, oc, rfl, y0, -⟩ := HUL27.out.at hjl
                have HNX := Lib.hid (hasB_next (z := z) hjl)
                obtain ⟨y, hy⟩ : ∃ y, L2[j] = y := ⟨_, rfl⟩
                rw [hy] at y0 HNX
                have p1 : (0 : Int) ≤ (j : Int) := by omega
                have p2 : (j : Int) < (m2 : Int) := by omega
                clear hjl hy
                cases hh : hasB L2 z j
                · by_cases hyz : y = z
                  · have HN2 := Lib.hid (show hasB L2 z (j + 1) = true by rw [HNX.out, hh, hyz]; simp)
                    have hq : (y == z) = true := by rw [hyz]; simp
                    clear hh hyz
                    go_wp2
                    go_quiet (fail)
                    go_wp2
                    go_roundw
                    case rel => exact ⟨j + 1, by omega, by go_num, by rw [HN2.out], _, rfl⟩
                    case measure => simp [intOf]; omega
                  · have HN2 := Lib.hid (show hasB L2 z (j + 1) = false by rw [HNX.out, hh]; simp [hyz])
                    have hq : (y == z) = false := by simpa using hyz
                    clear hh hyz
                    go_wp2
                    go_quiet (fail)
                    go_wp2
                    go_roundw
                    case rel => exact ⟨j + 1, by omega, by go_num, by rw [HN2.out], _, rfl⟩
                    case measure => simp [intOf]; omega
                · have HN2 := Lib.hid (show hasB L2 z (j + 1) = true by rw [HNX.out, hh]; rfl)
                  clear hh
                  go_wp2
                  go_quiet (fail)
                  go_wp2
                  go_roundw
                  case rel => exact ⟨j + 1, by omega, by go_num, by rw [HN2.out], _, rfl⟩
                  case measure => simp [intOf]; omega
              · obtain rfl : j = m2 := by omega
                obtain ⟨w8, hw8⟩ : ∃ w8, w7.drewN q3 = w8 := ⟨_, rfl⟩
                rw [hw8, HW2.out]
                have hb8 : Below w6.heap.size w6 w8 := by rw [← hw8]; exact HB7.out.trans ((below_drewN _ w7 q3).mono HB7.out.size)
                have HB8 := Lib.hid hb8
                have HZ8 := Lib.hid (HWD.out.trans (hb8.mono HWD.out.size))
                have HUA8 := Lib.hid (HUA6.out.below hb8)
                have HUO8 := Lib.hid (HUO6.out.below hb8)
                have HL8 := Lib.hid (HL6.out.below hb8)
                have r8 := below_cell hb8 _ _ HR6.out
                clear hw8 hb8 hlt3 hj3 cz7
                cases ok1
                · (try rw [Bool.false_and])
                  cases ok2
                  · have HZZ := HZ8
                    (try rw [Bool.false_and])
                    go_wp2
                    go_roundw
                    case rel => exact ⟨i + 1, by omega, by go_num, HZZ.out⟩
                    case measure => simp [intOf]; omega
                  · (try rw [Bool.true_and])
                    go_wp2_with fail
                    refine (intsC _ _ _ _ _ HUO8.out HL8.out).mono ?_
                    rintro _ wx ⟨rfl, jx, hjx⟩
                    rw [HF2.out]
                    have hbx : Below w8.heap.size w8 wx := by rw [hjx]; exact below_drewN _ w8 jx
                    have HZZ := Lib.hid (HZ8.out.trans (hbx.mono HZ8.out.size))
                    clear hjx hbx
                    cases f2
                    · skip
                      go_wp2
                      go_roundw
                      case rel => exact ⟨i + 1, by omega, by go_num, HZZ.out⟩
                      case measure => simp [intOf]; omega
                    · skip
                      go_wp2
                      go_roundw
                      case rel => exact ⟨i + 1, by omega, by go_num, HZZ.out⟩
                      case measure => simp [intOf]; omega
                · (try rw [Bool.true_and])
                  go_wp2_with fail
                  refine (intsC _ _ _ _ _ HUA8.out HL8.out).mono ?_
                  rintro _ w9 ⟨rfl, j9, hj9⟩
                  rw [HF1.out]
                  have hb9 : Below w8.heap.size w8 w9 := by rw [hj9]; exact below_drewN _ w8 j9
                  have r9 := below_cell hb9 _ _ r8
                  have HUO9 := Lib.hid (HUO8.out.below hb9)
                  have HL9 := Lib.hid (HL8.out.below hb9)
                  have HZ9 := Lib.hid (HZ8.out.trans (hb9.mono HZ8.out.size))
                  clear hj9 hb9 r8
                  cases f1
                  · skip
                    cases ok2
                    · have HZZ := HZ9
                      (try rw [Bool.false_and])
                      go_wp2
                      go_roundw
                      case rel => exact ⟨i + 1, by omega, by go_num, HZZ.out⟩
                      case measure => simp [intOf]; omega
                    · (try rw [Bool.true_and])
                      go_wp2_with fail
                      refine (intsC _ _ _ _ _ HUO9.out HL9.out).mono ?_
                      rintro _ wx ⟨rfl, jx, hjx⟩
                      rw [HF2.out]
                      have hbx : Below w9.heap.size w9 wx := by rw [hjx]; exact below_drewN _ w9 jx
                      have HZZ := Lib.hid (HZ9.out.trans (hbx.mono HZ9.out.size))
                      clear hjx hbx
                      cases f2
                      · skip
                        go_wp2
                        go_roundw
                        case rel => exact ⟨i + 1, by omega, by go_num, HZZ.out⟩
                        case measure => simp [intOf]; omega
                      · skip
                        go_wp2
                        go_roundw
                        case rel => exact ⟨i + 1, by omega, by go_num, HZZ.out⟩
                        case measure => simp [intOf]; omega
                  · skip
                    cases ok2
                    · have HZZ := HZ9
                      (try rw [Bool.false_and])
                      go_wp2
                      go_roundw
                      case rel => exact ⟨i + 1, by omega, by go_num, HZZ.out⟩
                      case measure => simp [intOf]; omega
                    · (try rw [Bool.true_and])
                      go_wp2_with fail
                      refine (intsC _ _ _ _ _ HUO9.out HL9.out).mono ?_
                      rintro _ wx ⟨rfl, jx, hjx⟩
                      rw [HF2.out]
                      have hbx : Below w9.heap.size w9 wx := by rw [hjx]; exact below_drewN _ w9 jx
                      have HZZ := Lib.hid (HZ9.out.trans (hbx.mono HZ9.out.size))
                      clear hjx hbx
                      cases f2
                      · skip
                        go_wp2
                        go_roundw
                        case rel => exact ⟨i + 1, by omega, by go_num, HZZ.out⟩
                        case measure => simp [intOf]; omega
                      · skip
                        go_wp2
                        go_roundw
                        case rel => exact ⟨i + 1, by omega, by go_num, HZZ.out⟩
                        case measure => simp [intOf]; omega
      · obtain rfl : i = k := by omega
        have HB5 := Lib.hid (HB4.out.trans (hbl.mono HB4.out.size))
        clear hbl HBL
        go_wp2_with fail
        refine (answersP _ (HT.out.below HB5.out)).mono ?_
        rintro _ w5 ⟨rfl, hb5⟩
        have HB6 := Lib.hid (HB5.out.trans (hb5.mono HB5.out.size))
        clear hb5
        go_wp2
        go_ret
        exact ⟨rfl, HB6.out⟩
  · rw [if_neg hd] at hp3 ⊢
    rw [show errI (none : Option Tb.TabD).isSome = 2 from rfl]
    clear hp3 hd
    go_wp2_with fail
    refine (answersP _ (HT.out.below HB3.out)).mono ?_
    rintro _ w4 ⟨rfl, hb4⟩
    have HB4 := Lib.hid (HB3.out.trans (hb4.mono HB3.out.size))
    clear hb4
    go_wp2
    go_ret
    exact ⟨rfl, HB4.out⟩
end Go.Proofs.YtegbgnjmkohcfaaDoor.Pl
