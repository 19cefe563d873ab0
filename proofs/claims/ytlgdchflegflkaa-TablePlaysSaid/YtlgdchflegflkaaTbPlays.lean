/- Layer 14's law of records that are applied one behind the other, as a walk, over an interface. -/
import Derived.Test.YtlgdchflegflkaaTbBoth
namespace Go.Proofs.Ytlgdchflegflkaa.Tbl
set_option linter.unusedVariables false
open Go.ChangeShapes Go.WideShapes Go.ChangeAt Go.RowKit
open Go.Mem RecM
set_option maxHeartbeats 8000000 in
theorem TablePlaysC {PD : Thing} (I : TbI PD) (L : List RecD) (v : Value) (W : World) (hL : Recs W v L) :
    Calls Try.prog 3 #[v] W fun e w' => e = .returned (.bool true) ∧ Below W.heap.size W w' := by
  obtain ⟨AL, CL, rfl, g1, g2, -⟩ := Cells.shape hL
  have HL := Lib.hid hL
  obtain ⟨N, hN⟩ : ∃ N, L.length = N := ⟨_, rfl⟩
  have HN := Lib.hid hN
  rw [hN] at g1 HL ⊢
  clear hL hN
  go_enter Try.func3, Try.ntmps3
  go_wp2_with fail
  refine (smallC L _ _ HL.out).mono ?_
  rintro _ w2 ⟨rfl, hb2⟩
  have HB2 := Lib.hid hb2
  clear hb2
  cases hsm : smalls L
  · clear hsm
    go_wp2_with fail
    refine (answersC I _).mono ?_
    rintro _ w3 ⟨rfl, hb3⟩
    have HB3 := Lib.hid (nxt HB2.out hb3 (Nat.le_refl _))
    clear hb3
    go_wp2
    go_ret
    exact ⟨rfl, HB3.out⟩
  have HSM := Lib.hid hsm
  clear hsm
  go_wp2_with fail
  refine (MineT.new I _ HB2.out 3 2 (.inl ⟨rfl, rfl⟩)).mono ?_
  rintro _ w3 ⟨p, rfl, hm3⟩
  have hbo := BothT.start I (show MineT PD W w3 p (Tb.empty 3 5) from hm3)
  have HM3 := Lib.hid (show BothT PD W _ p w3.heap.size (Tb.runT 3 5 L 0) (Tb.runT 3 5 L 0) from hbo)
  clear hm3 hbo
  go_wp2_with fail
  obtain ⟨r, hr⟩ : ∃ r, w3.heap.size = r := ⟨_, rfl⟩
  rw [hr] at HM3 ⊢
  clear hr
  go_loopw [5, 6] (fun c _ wr => ∃ i : Nat, i ≤ N ∧ c = .int .i64 i ∧ BothT PD W wr p r (Tb.runT 3 5 L i) (Tb.runT 3 5 L i)) (fun c _ _ => N - (intOf c).toNat)
  case atStart => exact ⟨0, Nat.zero_le _, rfl, HM3.out⟩
  case round =>
    obtain ⟨i, hi, rfl, hm⟩ := hrel
    have HM := Lib.hid hm
    by_cases hlt : i < N
    · have hil : i < L.length := by rw [HN.out]; exact hlt
      obtain ⟨b, o, As, Ao, Ad, Cs, Co, Cd, rfl, c0, c1, c2, c3, c4, c5, c6, hr⟩ := HL.out.val hil
      have HW := Lib.hid (show ∀ w', Below W.heap.size W w' → w'.cell? ⟨b, o + i * 7, none⟩ = some (.int .i64 L[i].kind) ∧ w'.cell? ⟨b, o + i * 7 + 1, none⟩ = some (.int .i64 L[i].id) ∧ w'.cell? ⟨b, o + i * 7 + 2, none⟩ = some (.int .i64 L[i].size) ∧ w'.cell? ⟨b, o + i * 7 + 3, none⟩ = some (.string L[i].key) ∧
          w'.cell? ⟨b, o + i * 7 + 4, none⟩ = some (.slice As L[i].stripes.length Cs) ∧ w'.cell? ⟨b, o + i * 7 + 5, none⟩ = some (.slice Ao L[i].objects.length Co) ∧ w'.cell? ⟨b, o + i * 7 + 6, none⟩ = some (.slice Ad L[i].drives.length Cd) from
        fun w' q => ⟨below_cell q _ _ c0, below_cell q _ _ c1, below_cell q _ _ c2, below_cell q _ _ c3, below_cell q _ _ c4, below_cell q _ _ c5, below_cell q _ _ c6⟩)
      have hfit := fit_small (small_at HSM.out hil)
      have hrun := Tb.run_ok 5 (show (1 : Int) ≤ 3 by decide) (L := L) (i := i) (by rw [HN.out]; omega)
      have hfew := few_run (k := 3) (n := 5) HSM.out (i := i) (by omega)
      have hfew1 := few_run (k := 3) (n := 5) HSM.out (i := i + 1) (by omega)
      have hsucc := Tb.run_succ (k := 3) (n := 5) hil
      rw [hsucc] at hfew1
      have hap := hm.applyT I hfew L[i] _ hr hfit
      have HAR := Lib.hid (show ∀ w', BothT PD W w' p r (Tb.stepT (Tb.runT 3 5 L i) L[i]) (Tb.runT 3 5 L i) → _ from fun w' q => q.applyR I hrun.1 hfew L[i] _ hr hfit)
      have HNX := Lib.hid (show ∀ w', BothT PD W w' p r (Tb.stepT (Tb.runT 3 5 L i) L[i]) (Tb.stepT (Tb.runT 3 5 L i) L[i]) → BothT PD W w' p r (Tb.runT 3 5 L (i + 1)) (Tb.runT 3 5 L (i + 1)) from fun w' q => by rw [hsucc]; exact q)
      obtain ⟨x, hx⟩ : ∃ x, L[i] = x := ⟨_, rfl⟩
      rw [hx] at HW hap HAR HNX hfew1
      obtain ⟨t0, ht0⟩ : ∃ t0, Tb.runT 3 5 L i = t0 := ⟨_, rfl⟩
      rw [ht0] at hap HAR HNX hfew1
      obtain ⟨t1, ht1⟩ : ∃ t1, Tb.stepT t0 x = t1 := ⟨_, rfl⟩
      rw [ht1] at hap HAR HNX hfew1
      have HFW1 := Lib.hid hfew1
      unfold recVal at hap HAR
      obtain ⟨d0, d1, d2, d3, d4, d5, d6⟩ := HW.out _ hm.bel
      have q1 : (0 : Int) ≤ (i : Int) := by omega
      have q2 : (i : Int) < (N : Int) := by omega
      cases hs : (Tb.apply t0 x).isSome
      · rw [hs] at hap HAR
        have HAP := Lib.hid hap
        clear hap hs hx hil hr hm hfit hrun hfew hfew1 hsucc ht0 ht1 c0 c1 c2 c3 c4 c5 c6
        go_wp2_with fail
        refine HAP.out.mono ?_
        rintro _ w4 ⟨rfl, hm4⟩
        rw [if_neg (by simp)]
        have HM4 := Lib.hid hm4
        clear d0 d1 d2 d3 d4 d5 d6
        obtain ⟨d0, d1, d2, d3, d4, d5, d6⟩ := HW.out _ hm4.bel
        clear hm4
        go_wp2_with fail
        refine (HAR.out _ HM4.out).mono ?_
        rintro _ w5 ⟨rfl, hm5⟩
        have HM5 := Lib.hid hm5
        clear hm5 d0 d1 d2 d3 d4 d5 d6
        go_wp2_with fail
        refine (BothT.sameC I HM5.out HFW1.out).mono ?_
        rintro _ w6 ⟨rfl, hm6⟩
        have HM6 := Lib.hid (HNX.out _ hm6)
        clear hm6
        go_wp2_with fail
        go_roundw
        case rel => exact ⟨i + 1, by omega, by go_num, HM6.out⟩
        case measure => simp [intOf]; omega
      · rw [hs] at hap HAR
        have HAP := Lib.hid hap
        clear hap hs hx hil hr hm hfit hrun hfew hfew1 hsucc ht0 ht1 c0 c1 c2 c3 c4 c5 c6
        go_wp2_with fail
        refine HAP.out.mono ?_
        rintro _ w4 ⟨rfl, hm4⟩
        rw [if_pos trivial]
        have HM4 := Lib.hid hm4
        clear d0 d1 d2 d3 d4 d5 d6
        obtain ⟨d0, d1, d2, d3, d4, d5, d6⟩ := HW.out _ hm4.bel
        clear hm4
        go_wp2_with fail
        refine (HAR.out _ HM4.out).mono ?_
        rintro _ w5 ⟨rfl, hm5⟩
        have HM5 := Lib.hid hm5
        clear hm5 d0 d1 d2 d3 d4 d5 d6
        go_wp2_with fail
        refine (BothT.sameC I HM5.out HFW1.out).mono ?_
        rintro _ w6 ⟨rfl, hm6⟩
        have HM6 := Lib.hid (HNX.out _ hm6)
        clear hm6
        go_wp2_with fail
        go_roundw
        case rel => exact ⟨i + 1, by omega, by go_num, HM6.out⟩
        case measure => simp [intOf]; omega
    · have HB := Lib.hid hm.bel
      clear hm
      go_wp2_with fail
      refine (answersC I _).mono ?_
      rintro _ w4 ⟨rfl, hb4⟩
      have HB4 := Lib.hid (nxt HB.out hb4 (Nat.le_refl _))
      clear hb4
      go_wp2
      go_ret
      exact ⟨rfl, HB4.out⟩
end Go.Proofs.Ytlgdchflegflkaa.Tbl
