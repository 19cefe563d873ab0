/- Draining: the law, as a walk. -/
import Derived.Test.YtemafhpogkbbkaaEpLaws
namespace Go.Proofs.Ytemafhpogkbbkaa.Epo
set_option linter.unusedVariables false
open Go.ChangeShapes Go.WideShapes Go.ChangeAt Go.RowKit
open Go.Mem Ep Rec
set_option maxHeartbeats 8000000 in
theorem EpochDrainC (I : EpI) (l : List Int) (v : Value) (n need : Int) (n0 : -9223372036854775808 ≤ n) (n1 : n ≤ 9223372036854775807) (m0 : -9223372036854775808 ≤ need) (m1 : need ≤ 9223372036854775807) (W : World) (h : Ints W v l) :
    Calls Try.prog 4 #[v, .int .i64 n, .int .i64 need] W fun e w' => e = .returned (.bool true) ∧ Below W.heap.size W w' := by
  obtain ⟨A, C, rfl, g1, g2, -⟩ := h.shape
  by_cases hbig : 100 < l.length
  · have hd : decide (100 < l.length) = true := by simpa using hbig
    obtain ⟨L, hL⟩ : ∃ L, l.length = L := ⟨_, rfl⟩
    rw [hL] at g1 hd hbig ⊢
    clear h hL
    go_enter Try.func4, Try.ntmps4
    go_wp2_with fail
    refine (answersC I _).mono ?_
    rintro _ w1 ⟨rfl, hb⟩
    have HB := Lib.hid hb
    clear hb
    go_wp2
    go_ret
    exact ⟨rfl, HB.out⟩
  · have hl : l.length ≤ 100 := by omega
    have hd : decide (100 < l.length) = false := by simpa using hl
    obtain ⟨v1, w1, hrun, hbu, hb1⟩ := copy_ints W A C l h (by omega)
    have h64 := ints_i64 h
    have HI := Lib.hid h
    have HLN := Lib.hid hl
    have HB1 := Lib.hid hb1
    have HV1 := Lib.hid (show Ints w1 v1 l from hbu.slice)
    have HROW := Lib.hid (show 0 < l.length → ∃ g C, v1 = .slice (some ⟨g, 0, none⟩) l.length C ∧ l.length ≤ C ∧ C ≤ 9223372036854775807 ∧ W.heap.size ≤ g ∧ RowZ w1 g l from fun h0 => built_rowZ hbu h0)
    have H64 := Lib.hid h64
    obtain ⟨A1, C1, e1, -⟩ := hbu.len
    subst e1
    obtain ⟨L, hL⟩ : ∃ L, l.length = L := ⟨_, rfl⟩
    have HL := Lib.hid hL
    rw [hL] at g1 hd hl hrun HI HV1 HROW ⊢
    have HR1 := Lib.hid hrun
    clear h hbig hbu hb1 h64 hL hrun
    by_cases hin : 0 ≤ n ∧ n < (L : Int)
    · obtain ⟨N, rfl⟩ := Int.eq_ofNat_of_zero_le hin.1
      have hNL : N < L := by omega
      have hNl : N < l.length := by rw [HL.out]; exact hNL
      have hst : stAt l N = l.getD N 0 := stAt_in hNl
      obtain ⟨b, o, rfl, hc, -⟩ := HI.out.at hNl
      have HCELL := Lib.hid (show ∀ w', Below W.heap.size W w' → w'.cell? ⟨b, o + N, none⟩ = some (.int .i64 (l.getD N 0)) from fun w' hb => by
        rw [((HI.out.below hb).here hNl).1]; simp [List.getD, hNl])
      have HST := Lib.hid hst
      have HNL := Lib.hid hNl
      have q1 : (0 : Int) ≤ (N : Int) := by omega
      have q2 : (N : Int) < (L : Int) := by omega
      have d1 : decide ((N : Int) < 0) = false := by simp
      have d2 : decide (L ≤ N) = false := by simp; omega
      obtain ⟨x, hx⟩ : ∃ x, l.getD N 0 = x := ⟨_, rfl⟩
      rw [hx] at HCELL HST
      have HX := Lib.hid hx
      clear hc hst hNl hin hx
      by_cases h1 : x = 1
      · have hq : (x != 1) = false := by rw [h1]; rfl
        have HST1 := Lib.hid (HST.out.trans h1)
        obtain ⟨K, hK⟩ : ∃ K, cnt l = K := ⟨_, rfl⟩
        have HK := Lib.hid hK
        have hKL : K ≤ L := by rw [← hK, ← HL.out]; exact cnt_le l
        clear hK
        by_cases hfew : (K : Int) - 1 < need
        · have HE := Lib.hid (drE_few HST1.out (by rw [HK.out]; exact hfew))
          have d3 : decide ((K : Int) - 1 < need) = true := by simpa using hfew
          go_enter Try.func4, Try.ntmps4
          go_wp2_with (at_builtin; refine Lib.wpList_append_run _ rfl (.tmp 14) (.tmp 15) 22 22 rfl _ _ rfl rfl _ _ HR1.out ?_)
          refine (I.drain _ _ l (N : Int) need (HI.out.below HB1.out) (by have := HLN.out; omega) ⟨by omega, by omega⟩ ⟨m0, m1⟩).mono ?_
          rintro _ w2 ⟨u, rfl, hu, hb2⟩
          have HUS := Lib.hid hu
          have hu := hu _ (Turned.refl _ _)
          rw [HE.out.1]
          have HB2 := Lib.hid (below_nxt HB1.out hb2 (Nat.le_refl _))
          obtain ⟨A2, C2, rfl, -⟩ := hu.shape
          rw [HE.out.2] at hu ⊢
          have HU := Lib.hid hu
          have HV2 := Lib.hid (HV1.out.below hb2)
          have HB12 := Lib.hid hb2
          clear hu hb2
          go_wp2_with fail
          refine (intsC _ _ _ _ _ (HI.out.below HB2.out) HV2.out).mono ?_
          rintro _ _ ⟨rfl, n4, rfl⟩
          rw [eqB_yes rfl]
          have HB4 := Lib.hid (below_nxt HB2.out (below_drewN _ w2 n4) (Nat.le_refl _))
          have hcc := HCELL.out _ HB4.out
          subst h1
          go_wp2_with fail
          refine (inC _ l _ (HI.out.below HB4.out) (by have := HLN.out; omega)).mono ?_
          rintro _ _ ⟨rfl, rfl⟩
          rw [HK.out]
          clear hcc
          go_wp2_with fail
          refine (answersC I _).mono ?_
          rintro _ w5 ⟨rfl, hb5⟩
          have HB5 := Lib.hid (below_nxt HB4.out hb5 (Nat.le_refl _))
          clear hb5
          go_wp2
          go_ret
          exact ⟨rfl, HB5.out⟩
        · have HE := Lib.hid (drE_one (need := need) HST1.out (by rw [HK.out]; omega))
          have d3 : decide ((K : Int) - 1 < need) = false := by simpa using hfew
          have hfew2 : need ≤ (K : Int) - 1 := by omega
          obtain ⟨g, C3, eg, k1, k2, hG, hr1⟩ := HROW.out (by omega)
          cases eg
          have HR1Z := Lib.hid hr1
          have HGL := Lib.hid (hr1.lt (by rw [HL.out]; omega))
          clear hr1
          go_enter Try.func4, Try.ntmps4
          go_wp2_with (at_builtin; refine Lib.wpList_append_run _ rfl (.tmp 14) (.tmp 15) 22 22 rfl _ _ rfl rfl _ _ HR1.out ?_)
          refine (I.drain _ _ l (N : Int) need (HI.out.below HB1.out) (by have := HLN.out; omega) ⟨by omega, by omega⟩ ⟨m0, m1⟩).mono ?_
          rintro _ w2 ⟨u, rfl, hu, hb2⟩
          have HUS := Lib.hid hu
          have hu := hu _ (Turned.refl _ _)
          rw [HE.out.1]
          have HB2 := Lib.hid (below_nxt HB1.out hb2 (Nat.le_refl _))
          obtain ⟨A2, C2, rfl, -⟩ := hu.shape
          have hll : (drL l (N : Int) need).length = L := by rw [HE.out.2, List.length_set]; exact HL.out
          rw [hll] at hu ⊢
          rw [HE.out.2, Int.toNat_natCast] at hu
          clear hll
          have HU := Lib.hid hu
          have HV2 := Lib.hid (HV1.out.below hb2)
          have HB12 := Lib.hid hb2
          clear hu hb2
          go_wp2_with fail
          refine (intsC _ _ _ _ _ (HI.out.below HB2.out) HV2.out).mono ?_
          rintro _ _ ⟨rfl, n4, rfl⟩
          rw [eqB_yes rfl]
          have HB4 := Lib.hid (below_nxt HB2.out (below_drewN _ w2 n4) (Nat.le_refl _))
          have hcc := HCELL.out _ HB4.out
          subst h1
          go_wp2_with fail
          refine (inC _ l _ (HI.out.below HB4.out) (by have := HLN.out; omega)).mono ?_
          rintro _ _ ⟨rfl, rfl⟩
          rw [HK.out]
          have HB4c := Lib.hid HB4.out
          have hb14 : Below w1.heap.size w1 (w2.drewN n4) := HB12.out.trans ((below_drewN _ w2 n4).mono HB12.out.size)
          have hr4 := HR1Z.out.below (by rw [HL.out]; omega) hb14
          have fr := hr4.free N HNL.out
          have cc := hr4.cell N HNL.out
          have hset := hr4.set N 2
          have HX4 := Lib.hid (show ∃ wz, (w2.drewN n4).setCell ⟨g, N, none⟩ (.int .i64 2) = wz ∧ Ints wz (.slice (some ⟨g, 0, none⟩) L C1) (l.set N 2) ∧ Ints wz (.slice A2 L C2) (l.set N 2) ∧ Below W.heap.size W wz from ⟨_, rfl, by
            have := hset.ints (C := C1) (fun x hx => (List.mem_or_eq_of_mem_set hx).elim (H64.out x) (fun e => by subst e; exact ⟨by omega, by omega⟩)) (by rw [List.length_set, HL.out]; exact k1) k2
            rw [List.length_set, HL.out] at this
            exact this, by
            have h9 := HUS.out ((w2.drewN n4).setCell ⟨g, N, none⟩ (.int .i64 2)) (((Turned.refl _ _).trans (Turned.drewN _ w2 n4) (Grown.refl _ _)).trans (Turned.set _ HGL.out) (Grown.refl _ _))
            obtain ⟨A9, C9, e9, -⟩ := h9.shape
            rw [HE.out.2, Int.toNat_natCast] at h9
            rw [List.length_set, HL.out] at h9
            exact h9, HB4.out.setCell hG _⟩)
          clear hcc hr4 hset hb14
          go_wp2_with fail
          obtain ⟨wz, hwz, z1, z2, z3⟩ := HX4.out
          rw [hwz]
          have Z1 := Lib.hid z1
          have Z2 := Lib.hid z2
          have Z3 := Lib.hid z3
          clear hwz z1 z2 z3 fr cc
          refine (answersC I _).mono ?_
          rintro _ w5 ⟨rfl, hb5⟩
          have HB5 := Lib.hid (below_nxt Z3.out hb5 (Nat.le_refl _))
          have Z15 := Lib.hid (Z1.out.below hb5)
          have Z25 := Lib.hid (Z2.out.below hb5)
          clear hb5
          go_wp2_with fail
          refine (intsC _ _ _ _ _ Z25.out Z15.out).mono ?_
          rintro _ _ ⟨rfl, n6, rfl⟩
          rw [eqB_yes rfl]
          have HB6 := Lib.hid (below_nxt HB5.out (below_drewN _ w5 n6) (Nat.le_refl _))
          go_wp2
          go_ret
          exact ⟨rfl, HB6.out⟩
      · have HE := Lib.hid (drE_none (need := need) (show ¬ stAt l N = 1 by rw [HST.out]; exact h1))
        have hq : (x != 1) = true := by rw [bne_iff_ne]; exact h1
        go_enter Try.func4, Try.ntmps4
        go_wp2_with (at_builtin; refine Lib.wpList_append_run _ rfl (.tmp 14) (.tmp 15) 22 22 rfl _ _ rfl rfl _ _ HR1.out ?_)
        refine (I.drain _ _ l (N : Int) need (HI.out.below HB1.out) (by have := HLN.out; omega) ⟨by omega, by omega⟩ ⟨m0, m1⟩).mono ?_
        rintro _ w2 ⟨u, rfl, hu, hb2⟩
        have HUS := Lib.hid hu
        have hu := hu _ (Turned.refl _ _)
        rw [HE.out.1]
        have HB2 := Lib.hid (below_nxt HB1.out hb2 (Nat.le_refl _))
        obtain ⟨A2, C2, rfl, -⟩ := hu.shape
        rw [HE.out.2] at hu ⊢
        have HU := Lib.hid hu
        have HV2 := Lib.hid (HV1.out.below hb2)
        have HB12 := Lib.hid hb2
        clear hu hb2
        go_wp2_with fail
        refine (intsC _ _ _ _ _ (HI.out.below HB2.out) HV2.out).mono ?_
        rintro _ _ ⟨rfl, n4, rfl⟩
        rw [eqB_yes rfl]
        have HB4 := Lib.hid (below_nxt HB2.out (below_drewN _ w2 n4) (Nat.le_refl _))
        have hcc := HCELL.out _ HB4.out
        clear h1
        go_wp2_with fail
        refine (answersC I _).mono ?_
        rintro _ w5 ⟨rfl, hb5⟩
        have HB5 := Lib.hid (below_nxt HB4.out hb5 (Nat.le_refl _))
        clear hb5
        go_wp2
        go_ret
        exact ⟨rfl, HB5.out⟩
    · have HE := Lib.hid (drE_none (need := need) (show ¬ stAt l n = 1 by rw [stAt_out (by rw [HL.out]; omega)]; omega))
      by_cases hn : n < 0
      · have d1 : decide (n < 0) = true := by simpa using hn
        go_enter Try.func4, Try.ntmps4
        go_wp2_with (at_builtin; refine Lib.wpList_append_run _ rfl (.tmp 14) (.tmp 15) 22 22 rfl _ _ rfl rfl _ _ HR1.out ?_)
        refine (I.drain _ _ l n need (HI.out.below HB1.out) (by have := HLN.out; omega) ⟨n0, n1⟩ ⟨m0, m1⟩).mono ?_
        rintro _ w2 ⟨u, rfl, hu, hb2⟩
        have HUS := Lib.hid hu
        have hu := hu _ (Turned.refl _ _)
        rw [HE.out.1]
        have HB2 := Lib.hid (below_nxt HB1.out hb2 (Nat.le_refl _))
        obtain ⟨A2, C2, rfl, -⟩ := hu.shape
        rw [HE.out.2] at hu ⊢
        have HU := Lib.hid hu
        have HV2 := Lib.hid (HV1.out.below hb2)
        have HB12 := Lib.hid hb2
        clear hu hb2
        go_wp2_with fail
        refine (intsC _ _ _ _ _ (HI.out.below HB2.out) HV2.out).mono ?_
        rintro _ _ ⟨rfl, n4, rfl⟩
        rw [eqB_yes rfl]
        have HB4 := Lib.hid (below_nxt HB2.out (below_drewN _ w2 n4) (Nat.le_refl _))
        go_wp2_with fail
        refine (answersC I _).mono ?_
        rintro _ w5 ⟨rfl, hb5⟩
        have HB5 := Lib.hid (below_nxt HB4.out hb5 (Nat.le_refl _))
        clear hb5
        go_wp2
        go_ret
        exact ⟨rfl, HB5.out⟩
      · have d1 : decide (n < 0) = false := by simpa using hn
        have d2 : decide ((L : Int) ≤ n) = true := by simp; omega
        have hn2 : (L : Int) ≤ n := by omega
        go_enter Try.func4, Try.ntmps4
        go_wp2_with (at_builtin; refine Lib.wpList_append_run _ rfl (.tmp 14) (.tmp 15) 22 22 rfl _ _ rfl rfl _ _ HR1.out ?_)
        refine (I.drain _ _ l n need (HI.out.below HB1.out) (by have := HLN.out; omega) ⟨n0, n1⟩ ⟨m0, m1⟩).mono ?_
        rintro _ w2 ⟨u, rfl, hu, hb2⟩
        have HUS := Lib.hid hu
        have hu := hu _ (Turned.refl _ _)
        rw [HE.out.1]
        have HB2 := Lib.hid (below_nxt HB1.out hb2 (Nat.le_refl _))
        obtain ⟨A2, C2, rfl, -⟩ := hu.shape
        rw [HE.out.2] at hu ⊢
        have HU := Lib.hid hu
        have HV2 := Lib.hid (HV1.out.below hb2)
        have HB12 := Lib.hid hb2
        clear hu hb2
        go_wp2_with fail
        refine (intsC _ _ _ _ _ (HI.out.below HB2.out) HV2.out).mono ?_
        rintro _ _ ⟨rfl, n4, rfl⟩
        rw [eqB_yes rfl]
        have HB4 := Lib.hid (below_nxt HB2.out (below_drewN _ w2 n4) (Nat.le_refl _))
        go_wp2_with fail
        refine (answersC I _).mono ?_
        rintro _ w5 ⟨rfl, hb5⟩
        have HB5 := Lib.hid (below_nxt HB4.out hb5 (Nat.le_refl _))
        clear hb5
        go_wp2
        go_ret
        exact ⟨rfl, HB5.out⟩
end Go.Proofs.Ytemafhpogkbbkaa.Epo
