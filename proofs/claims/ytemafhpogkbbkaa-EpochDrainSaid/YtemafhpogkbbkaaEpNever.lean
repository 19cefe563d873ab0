/- However drives are drained, enough stay in: the law, as a walk. -/
import Derived.Test.YtemafhpogkbbkaaEpWay
import Derived.Test.YtemafhpogkbbkaaBits
namespace Go.Proofs.Ytemafhpogkbbkaa.Epo
set_option linter.unusedVariables false
open Go.ChangeShapes Go.WideShapes Go.ChangeAt Go.RowKit
open Go.Mem Ep Rec
/-- states of K drives, each in or draining -/
def InOr (K : Nat) (m : List Int) : Prop := m.length = K ∧ ∀ i, i < K → m.getD i 0 = 1 ∨ m.getD i 0 = 2
theorem InOr.ones (K : Nat) : InOr K (List.replicate K 1) := ⟨by simp, fun i hi => .inl (by simp [List.getD, hi])⟩
theorem InOr.set {K q : Nat} {m : List Int} (h : InOr K m) : InOr K (m.set q 2) := by
  refine ⟨by rw [List.length_set]; exact h.1, fun i hi => ?_⟩
  by_cases e : i = q
  · subst e; exact .inr (by simp [List.getD, show i < m.length by rw [h.1]; exact hi])
  · have := h.2 i hi
    simpa [List.getD, Ne.symm e] using this
/-- draining one of them: it is done, and enough stay; or it is not -/
theorem never_drain {K q : Nat} {m : List Int} (h : InOr K m) (hq : q < K) (R : Nat) :
    (drE m q R = 0 ∧ drL m q R = m.set q 2 ∧ R ≤ cnt (m.set q 2)) ∨ (drE m q R == 0) = false := by
  have hql : q < m.length := by rw [h.1]; exact hq
  have hs := stAt_in hql
  rcases h.2 q hq with e | e
  · rw [e] at hs
    by_cases hr : (cnt m : Int) - 1 < R
    · exact .inr (by rw [(drE_few hs hr).1]; rfl)
    · have d := drE_one (need := (R : Nat)) hs (by omega)
      have c := cnt_set hql e (show (2 : Int) ≠ 1 by omega)
      exact .inl ⟨d.1, by rw [d.2, Int.toNat_natCast], by omega⟩
  · rw [e] at hs
    exact .inr (by rw [(drE_none (by rw [hs]; omega)).1]; rfl)
theorem never_rm {K i : Nat} {m : List Int} (h : InOr K m) (hi : i < K) :
    (rmE m i == 0) = true ∧ cnt (m.take (i + 1)) = cnt (m.take i) ∨ (rmE m i == 0) = false ∧ cnt (m.take (i + 1)) = cnt (m.take i) + 1 := by
  have hil : i < m.length := by rw [h.1]; exact hi
  have hs := stAt_in hil
  have hc := cnt_take hil
  have hg : m.getD i 0 = m[i] := by simp [List.getD, hil]
  rcases h.2 i hi with e | e
  · rw [e] at hs
    refine .inr ⟨by rw [(rmE_in hs).1]; rfl, ?_⟩
    rw [hc, if_pos (by rw [← hg]; exact e)]
  · rw [e] at hs
    refine .inl ⟨by rw [(rmE_out hs).1]; rfl, ?_⟩
    rw [hc, if_neg (by rw [← hg, e]; omega)]
    rfl
set_option maxHeartbeats 8000000 in
set_option maxRecDepth 100000 in
theorem EpochNeverC (I : EpI) (a0 a1 : Int) (ha0 : 0 ≤ a0) (ha1 : a0 ≤ 255) (hb0 : 0 ≤ a1) (hb1 : a1 ≤ 255) (l : List Nat) (v : Value) (W : World) (h : Bytes W v l) :
    Calls Try.prog 7 #[.int .u8 a0, .int .u8 a1, v] W fun e w' => e = .returned (.bool true) ∧ Below W.heap.size W w' := by
  obtain ⟨A, C, rfl, g1, g2, -⟩ := h.shape
  by_cases hbig : 60 < l.length
  · have hd : decide (60 < l.length) = true := by simpa using hbig
    obtain ⟨L, hL⟩ : ∃ L, l.length = L := ⟨_, rfl⟩
    rw [hL] at g1 hd hbig ⊢
    clear h hL
    go_enter Try.func7, Try.ntmps7
    go_wp2_with fail
    refine (answersC I _).mono ?_
    rintro _ w1 ⟨rfl, hb⟩
    have HB := Lib.hid hb
    clear hb
    go_wp2
    go_ret
    exact ⟨rfl, HB.out⟩
  · have hl : l.length ≤ 60 := by omega
    have hd : decide (60 < l.length) = false := by simpa using hl
    obtain ⟨K, hK⟩ : ∃ K : Nat, a0 % 12 + 1 = (K : Int) := ⟨(a0 % 12 + 1).toNat, by omega⟩
    have hK1 : 1 ≤ K := by omega
    have hK12 : K ≤ 12 := by omega
    obtain ⟨R, hR⟩ : ∃ R : Nat, a1 % 13 = (R : Int) := ⟨(a1 % 13).toNat, by omega⟩
    have hR13 : R < 13 := by omega
    have HI := Lib.hid h
    obtain ⟨L, hL⟩ : ∃ L, l.length = L := ⟨_, rfl⟩
    have HL := Lib.hid hL
    rw [hL] at g1 hd hl HI ⊢
    have hmk := run_make_row' (P := Try.prog) 22 3 (.int .i64 0) 8 Try.underlying22 infoInt rfl .i64 .i64 K (by omega) (by omega)
    have hal : Below W.heap.size W (W.alloc (.cells (madeCells #[.int .i64 0] K) 3)) := (Below.refl _ _).alloc (Nat.le_refl _) _
    have HST := Lib.hid (show RowZ (W.alloc (.cells (madeCells #[.int .i64 0] K) 3)) W.heap.size (onesTo K 0) by
      have := made_rowZ W 3 K
      simpa [onesTo] using this)
    have HAL := Lib.hid hal
    clear h hbig hL hal
    go_enter Try.func7, Try.ntmps7
    go_wp2
    go_loopw [9] (fun c wr => ∃ k : Nat, k ≤ K ∧ c = .int .i64 k ∧ RowZ wr W.heap.size (onesTo K k) ∧ Below W.heap.size W wr) (fun c _ => K - (intOf c).toNat)
    case atStart => exact ⟨0, Nat.zero_le _, rfl, HST.out, HAL.out⟩
    case round =>
      obtain ⟨k, hk, rfl, hro, hbl⟩ := hrel
      by_cases hlt : k < K
      · have q1 : (k : Int) < (K : Int) := by omega
        have q2 : (0 : Int) ≤ (k : Int) := by omega
        have hll := onesTo_len hk
        have fr := hro.free k (by rw [hll]; exact hlt)
        have cc := hro.cell k (by rw [hll]; exact hlt)
        have HN := Lib.hid (show RowZ (wr.setCell ⟨W.heap.size, k, none⟩ (.int .i64 1)) W.heap.size (onesTo K (k + 1)) ∧ Below W.heap.size W (wr.setCell ⟨W.heap.size, k, none⟩ (.int .i64 1)) from ⟨by rw [← onesTo_set hlt]; exact hro.set k 1, hbl.setCell (Nat.le_refl _) _⟩)
        clear hro hbl hll
        go_wp2
        go_roundw
        case rel => exact ⟨k + 1, by omega, by go_num, HN.out.1, HN.out.2⟩
        case measure => simp [intOf]; omega
      · obtain rfl : k = K := by omega
        have hone : onesTo k k = List.replicate k 1 := by simp [onesTo]
        rw [hone] at hro
        have hi0 := hro.ints (C := k) (fun x hx => by have := List.eq_of_mem_replicate hx; subst this; exact ⟨by omega, by omega⟩) (by simp) (by omega)
        rw [List.length_replicate] at hi0
        have HS0 := Lib.hid (show ∃ m, InOr k m ∧ Ints wr (.slice (some ⟨W.heap.size, 0, none⟩) k k) m ∧ Below W.heap.size W wr from ⟨_, InOr.ones k, hi0, hbl⟩)
        clear hro hbl hone hi0
        obtain ⟨w0, hw0⟩ : ∃ w0 : World, w0 = wr := ⟨_, rfl⟩
        subst hw0
        go_wp2
        go_loopw [8, 10] (fun sv c wr => ∃ i : Nat, i ≤ L ∧ c = .int .i64 i ∧ ∃ m, InOr k m ∧ Ints wr sv m ∧ Below W.heap.size W wr) (fun _ c _ => L - (intOf c).toNat)
        case atStart => exact ⟨0, Nat.zero_le _, rfl, HS0.out⟩
        case round =>
          obtain ⟨i, hi, rfl, m, hm, hiz, hbl⟩ := hrel
          obtain ⟨A1, C1, e1, -⟩ := hiz.shape
          rw [hm.1] at e1
          subst e1
          have HM := Lib.hid hm
          have HZ := Lib.hid hiz
          have HBR := Lib.hid hbl
          by_cases hlt2 : i < L
          · have hil : i < l.length := by rw [HL.out]; exact hlt2
            obtain ⟨b, o, rfl, hc, hp⟩ := (HI.out.below hbl).at hil
            obtain ⟨p, hpe⟩ : ∃ p, l[i] = p := ⟨_, rfl⟩
            rw [hpe] at hc hp
            obtain ⟨q, hq⟩ : ∃ q : Nat, (p : Int) % (k : Int) = (q : Int) := ⟨p % k, by simp⟩
            have hqk : q < k := by
              have := Int.emod_lt_of_pos (p : Int) (show (0 : Int) < (k : Int) by omega)
              omega
            have q1 : (i : Int) < (L : Int) := by omega
            have q2 : (0 : Int) ≤ (i : Int) := by omega
            have HD := Lib.hid (never_drain hm hqk R)
            obtain ⟨E, hE⟩ : ∃ E, drE m q R = E := ⟨_, rfl⟩
            have HE := Lib.hid hE
            rw [hE] at HD
            clear hm hiz hbl hpe hil hE
            go_wp2_with fail
            refine (I.drain _ _ m (q : Nat) (R : Nat) HZ.out (by rw [HM.out.1]; omega) ⟨by omega, by omega⟩ ⟨by omega, by omega⟩).mono ?_
            rintro _ w2 ⟨u, rfl, hu, hb2⟩
            rw [HE.out]
            have hu := hu _ (Turned.refl _ _)
            have HB2 := Lib.hid (below_nxt HBR.out hb2 (Nat.le_refl _))
            have HZ2 := Lib.hid (HZ.out.below hb2)
            obtain ⟨A2, C2, e2, -⟩ := hu.shape
            subst e2
            rcases HD.out with ⟨h0, h1, h2⟩ | h0
            · rw [h1] at hu
              have hml : (m.set q 2).length = k := by rw [List.length_set]; exact HM.out.1
              rw [h1, hml]
              rw [hml] at hu
              have HU := Lib.hid hu
              have HML := Lib.hid hml
              obtain ⟨N, hN⟩ : ∃ N, cnt (m.set q 2) = N := ⟨_, rfl⟩
              have HN := Lib.hid hN
              rw [hN] at h2
              have hd3 : decide (N < R) = false := by simp; omega
              have h3 : ¬ N < R := by omega
              have hq0 : (E == 0) = true := by rw [h0]; rfl
              clear hu hb2 h0 h1 hml hN
              go_wp2_with fail
              refine (inC _ (m.set q 2) _ HU.out (by rw [HML.out]; omega)).mono ?_
              rintro _ _ ⟨rfl, rfl⟩
              rw [HN.out]
              go_wp2
              go_roundw
              case rel => exact ⟨i + 1, by omega, by go_num, m.set q 2, HM.out.set, HU.out, HB2.out⟩
              case measure => simp [intOf]; omega
            · obtain ⟨L9, hL9⟩ : ∃ L9, (drL m q R).length = L9 := ⟨_, rfl⟩
              rw [hL9]
              clear hu hb2 hL9
              go_wp2
              go_roundw
              case rel => exact ⟨i + 1, by omega, by go_num, m, HM.out, HZ2.out, HB2.out⟩
              case measure => simp [intOf]; omega
          · obtain rfl : i = L := by omega
            have q1 : ¬ (i : Int) < (i : Int) := by omega
            have HCK := Lib.hid (show ∀ j, cnt (m.take j) ≤ j from fun j => Nat.le_trans (cnt_le _) (by rw [List.length_take]; omega))
            have hst : ∃ lf : Nat, lf + cnt (m.take 0) = 0 ∧ Value.int .i64 0 = .int .i64 (lf : Nat) := ⟨0, by simp [cnt], rfl⟩
            have HST3 := Lib.hid hst
            clear hm hiz hbl hst
            obtain ⟨w1, hw1⟩ : ∃ w1 : World, w1 = wr := ⟨_, rfl⟩
            subst hw1
            go_wp2
            go_loopw [13, 14] (fun lv c wr => ∃ j : Nat, j ≤ k ∧ c = .int .i64 j ∧ (∃ lf : Nat, lf + cnt (m.take j) = j ∧ lv = .int .i64 (lf : Nat)) ∧ Ints wr (.slice A1 k C1) m ∧ Below W.heap.size W wr) (fun _ c _ => k - (intOf c).toNat)
            case atStart => exact ⟨0, Nat.zero_le _, rfl, HST3.out, HZ.out, HBR.out⟩
            case round =>
              obtain ⟨j, hj, rfl, ⟨lf, hlf, rfl⟩, hiz, hbl⟩ := hrel
              have HZJ := Lib.hid hiz
              have HBJ := Lib.hid hbl
              have hlf2 : lf ≤ j := by omega
              have HLF := Lib.hid hlf
              clear hlf
              by_cases hjk : j < k
              · have q2 : (j : Int) < (k : Int) := by omega
                have HR := Lib.hid (never_rm HM.out hjk)
                obtain ⟨E, hE⟩ : ∃ E, rmE m j = E := ⟨_, rfl⟩
                have HE := Lib.hid hE
                rw [hE] at HR
                clear hiz hbl hE
                go_wp2_with fail
                refine (I.remove _ _ m (j : Nat) HZJ.out (by rw [HM.out.1]; omega) ⟨by omega, by omega⟩).mono ?_
                rintro _ w2 ⟨u, rfl, hu, hb2⟩
                rw [HE.out]
                obtain ⟨A2, C2, e2, -⟩ := (hu _ (Turned.refl _ _)).shape
                subst e2
                have HB2 := Lib.hid (below_nxt HBJ.out hb2 (Nat.le_refl _))
                have HZ2 := Lib.hid (HZJ.out.below hb2)
                obtain ⟨L9, hL9⟩ : ∃ L9, (rmL m j).length = L9 := ⟨_, rfl⟩
                rw [hL9]
                clear hu hb2 hL9
                rcases HR.out with ⟨h0, h1⟩ | ⟨h0, h1⟩
                · have HX := Lib.hid (show (lf + 1) + cnt (m.take (j + 1)) = j + 1 by rw [h1]; have := HLF.out; omega)
                  clear h1
                  go_wp2
                  go_roundw
                  case rel => exact ⟨j + 1, by omega, by go_num, ⟨lf + 1, HX.out, by go_num⟩, HZ2.out, HB2.out⟩
                  case measure => simp [intOf]; omega
                · have HX := Lib.hid (show lf + cnt (m.take (j + 1)) = j + 1 by rw [h1]; have := HLF.out; omega)
                  clear h1
                  go_wp2
                  go_roundw
                  case rel => exact ⟨j + 1, by omega, by go_num, ⟨lf, HX.out, rfl⟩, HZ2.out, HB2.out⟩
                  case measure => simp [intOf]; omega
              · obtain rfl : j = k := by omega
                have q2 : ¬ (j : Int) < (j : Int) := by omega
                have hfin := HLF.out
                rw [List.take_of_length_le (Nat.le_of_eq HM.out.1)] at hfin
                have HFIN := Lib.hid hfin
                clear hiz hbl hfin
                go_wp2_with fail
                refine (answersC I _).mono ?_
                rintro _ w5 ⟨rfl, hb5⟩
                have HB5 := Lib.hid (below_nxt HBJ.out hb5 (Nat.le_refl _))
                have HZ5 := Lib.hid (HZJ.out.below hb5)
                clear hb5
                go_wp2_with fail
                refine (inC _ m _ HZ5.out (by rw [HM.out.1]; omega)).mono ?_
                rintro _ _ ⟨rfl, rfl⟩
                obtain ⟨N, hN⟩ : ∃ N, cnt m = N := ⟨_, rfl⟩
                have hNf : lf + N = j := by rw [← hN]; exact HFIN.out
                rw [hN]
                have hqq : (((lf : Int) + (N : Int)) == (j : Int)) = true := by simp; omega
                have i1 : lf + N ≤ j := by omega
                clear hN hNf
                go_wp2
                go_ret
                exact ⟨rfl, HB5.out⟩
end Go.Proofs.Ytemafhpogkbbkaa.Epo
