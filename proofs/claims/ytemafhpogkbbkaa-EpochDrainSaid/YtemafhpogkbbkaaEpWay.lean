/- A drive that joins, is drained, and removed: the law, as a walk. -/
import Derived.Test.YtemafhpogkbbkaaEpLaws3
namespace Go.Proofs.Ytemafhpogkbbkaa.Epo
set_option linter.unusedVariables false
open Go.ChangeShapes Go.WideShapes Go.ChangeAt Go.RowKit
open Go.Mem Ep Rec
theorem stAt_last (l : List Int) (x : Int) : stAt (l ++ [x]) l.length = x := by
  rw [stAt_in (by simp)]
  simp [List.getD]
theorem set_last (l : List Int) (x y : Int) : (l ++ [x]).set l.length y = l ++ [y] := by
  rw [List.set_append_right _ _ (Nat.le_refl _), Nat.sub_self]
  rfl
theorem way_facts (l : List Int) (h : l.length ≤ 11) :
    jnE l = 0 ∧ jnL l = l ++ [1] ∧ rmE (l ++ [1]) l.length = 11 ∧ drE (l ++ [1]) l.length (cnt l : Nat) = 0 ∧ drL (l ++ [1]) l.length (cnt l : Nat) = l ++ [2] ∧
      drE (l ++ [2]) l.length 0 = 7 ∧ rmE (l ++ [2]) l.length = 0 ∧ rmL (l ++ [2]) l.length = l ++ [0] ∧ rmE (l ++ [0]) l.length = 7 ∧ cnt (l ++ [0]) = cnt l := by
  have h1 := stAt_last l 1
  have h2 := stAt_last l 2
  have h0 := stAt_last l 0
  have c1 : cnt (l ++ [1]) = cnt l + 1 := by rw [cnt_app, cnt_one]; rfl
  have d := drE_one (l := l ++ [1]) (n := l.length) (need := (cnt l : Nat)) h1 (by rw [c1]; omega)
  have r := rmE_out h2
  refine ⟨by unfold jnE; rw [if_neg (by omega)], by unfold jnL; rw [if_neg (by omega)], (rmE_in h1).1, d.1, ?_, (drE_none (by rw [h2]; omega)).1, r.1, ?_, (rmE_none (by rw [h0]; omega) (by rw [h0]; omega)).1, by rw [cnt_app, cnt_one]; rfl⟩
  · rw [d.2, Int.toNat_natCast, set_last]
  · rw [r.2, Int.toNat_natCast, set_last]
set_option maxHeartbeats 8000000 in
theorem EpochWayC (I : EpI) (l : List Int) (v : Value) (W : World) (h : Ints W v l) :
    Calls Try.prog 6 #[v] W fun e w' => e = .returned (.bool true) ∧ Below W.heap.size W w' := by
  obtain ⟨A, C, rfl, g1, g2, -⟩ := h.shape
  by_cases hbig : 11 < l.length
  · have hd : decide (11 < l.length) = true := by simpa using hbig
    obtain ⟨L, hL⟩ : ∃ L, l.length = L := ⟨_, rfl⟩
    rw [hL] at g1 hd hbig ⊢
    clear h hL
    go_enter Try.func6, Try.ntmps6
    go_wp2_with fail
    refine (answersC I _).mono ?_
    rintro _ w1 ⟨rfl, hb⟩
    have HB := Lib.hid hb
    clear hb
    go_wp2
    go_ret
    exact ⟨rfl, HB.out⟩
  · have hl : l.length ≤ 11 := by omega
    have hd : decide (11 < l.length) = false := by simpa using hl
    have HF := Lib.hid (way_facts l hl)
    have HI := Lib.hid h
    have HL1 := Lib.hid (show ∀ x : Int, (l ++ [x]).length = l.length + 1 from fun x => by simp)
    have hN64 : I64 (l.length : Nat) := ⟨by omega, by omega⟩
    have hC64 : I64 (cnt l : Nat) := by have := cnt_le l; exact ⟨by omega, by omega⟩
    obtain ⟨L, hL⟩ : ∃ L, l.length = L := ⟨_, rfl⟩
    have HL := Lib.hid hL
    obtain ⟨K, hK⟩ : ∃ K, cnt l = K := ⟨_, rfl⟩
    have HK := Lib.hid hK
    rw [hL, hK] at HF
    rw [hL] at g1 hd hl HI HL1 hN64 ⊢
    rw [hK] at hC64
    have HN64 := Lib.hid hN64
    have HC64 := Lib.hid hC64
    clear h hbig hL hK hN64 hC64
    go_enter Try.func6, Try.ntmps6
    go_wp2_with fail
    refine (I.join _ _ l HI.out (by rw [HL.out]; omega)).mono ?_
    rintro _ w1 ⟨ua, rfl, hua, hb1⟩
    have hua := hua _ (Turned.refl _ _)
    rw [HF.out.1]
    rw [HF.out.2.1] at hua
    obtain ⟨A1, C1, rfl, -⟩ := hua.shape
    rw [HL1.out] at hua ⊢
    have HA := Lib.hid hua
    have HB1 := Lib.hid hb1
    clear hua hb1
    go_wp2_with fail
    refine (I.remove _ _ (l ++ [1]) (L : Nat) HA.out (by rw [HL1.out]; omega) HN64.out).mono ?_
    rintro _ w2 ⟨u2, rfl, hu2, hb2⟩
    obtain ⟨_, _, e2, -⟩ := (hu2 _ (Turned.refl _ _)).shape
    subst e2
    rw [HF.out.2.2.1]
    have HB2 := Lib.hid (below_nxt HB1.out hb2 (Nat.le_refl _))
    have HA2 := Lib.hid (HA.out.below hb2)
    obtain ⟨L2, hL2⟩ : ∃ L2, (rmL (l ++ [1]) (L : Nat)).length = L2 := ⟨_, rfl⟩
    rw [hL2]
    clear hu2 hb2 hL2
    go_wp2_with fail
    refine (inC _ l _ (HI.out.below HB2.out) (by rw [HL.out]; omega)).mono ?_
    rintro _ _ ⟨rfl, rfl⟩
    rw [HK.out]
    go_wp2_with fail
    refine (I.drain _ _ (l ++ [1]) (L : Nat) (K : Nat) HA2.out (by rw [HL1.out]; omega) HN64.out HC64.out).mono ?_
    rintro _ w3 ⟨ub, rfl, hub, hb3⟩
    have hub := hub _ (Turned.refl _ _)
    rw [HF.out.2.2.2.1]
    rw [HF.out.2.2.2.2.1] at hub
    obtain ⟨A3, C3, rfl, -⟩ := hub.shape
    rw [HL1.out] at hub ⊢
    have HBB := Lib.hid hub
    have HB3 := Lib.hid (below_nxt HB2.out hb3 (Nat.le_refl _))
    clear hub hb3
    go_wp2_with fail
    refine (I.drain _ _ (l ++ [2]) (L : Nat) 0 HBB.out (by rw [HL1.out]; omega) HN64.out ⟨by omega, by omega⟩).mono ?_
    rintro _ w4 ⟨u4, rfl, hu4, hb4⟩
    obtain ⟨_, _, e4, -⟩ := (hu4 _ (Turned.refl _ _)).shape
    subst e4
    rw [HF.out.2.2.2.2.2.1]
    have HB4 := Lib.hid (below_nxt HB3.out hb4 (Nat.le_refl _))
    have HBB4 := Lib.hid (HBB.out.below hb4)
    obtain ⟨L4, hL4⟩ : ∃ L4, (drL (l ++ [2]) (L : Nat) 0).length = L4 := ⟨_, rfl⟩
    rw [hL4]
    clear hu4 hb4 hL4
    go_wp2_with fail
    refine (I.remove _ _ (l ++ [2]) (L : Nat) HBB4.out (by rw [HL1.out]; omega) HN64.out).mono ?_
    rintro _ w5 ⟨uc, rfl, huc, hb5⟩
    have huc := huc _ (Turned.refl _ _)
    rw [HF.out.2.2.2.2.2.2.1]
    rw [HF.out.2.2.2.2.2.2.2.1] at huc
    obtain ⟨A5, C5, rfl, -⟩ := huc.shape
    rw [HL1.out] at huc ⊢
    have HCC := Lib.hid huc
    have HB5 := Lib.hid (below_nxt HB4.out hb5 (Nat.le_refl _))
    clear huc hb5
    go_wp2_with fail
    refine (I.remove _ _ (l ++ [0]) (L : Nat) HCC.out (by rw [HL1.out]; omega) HN64.out).mono ?_
    rintro _ w6 ⟨u6, rfl, hu6, hb6⟩
    obtain ⟨_, _, e6, -⟩ := (hu6 _ (Turned.refl _ _)).shape
    subst e6
    rw [HF.out.2.2.2.2.2.2.2.2.1]
    have HB6 := Lib.hid (below_nxt HB5.out hb6 (Nat.le_refl _))
    have HCC6 := Lib.hid (HCC.out.below hb6)
    obtain ⟨L6, hL6⟩ : ∃ L6, (rmL (l ++ [0]) (L : Nat)).length = L6 := ⟨_, rfl⟩
    rw [hL6]
    clear hu6 hb6 hL6
    go_wp2_with fail
    refine (answersC I _).mono ?_
    rintro _ w7 ⟨rfl, hb7⟩
    have HB7 := Lib.hid (below_nxt HB6.out hb7 (Nat.le_refl _))
    have HCC7 := Lib.hid (HCC6.out.below hb7)
    clear hb7
    go_wp2_with fail
    refine (I.inn _ _ (l ++ [0]) HCC7.out (by rw [HL1.out]; omega)).mono ?_
    rintro _ w8 ⟨rfl, hb8⟩
    rw [HF.out.2.2.2.2.2.2.2.2.2]
    have HB8 := Lib.hid (below_nxt HB7.out hb8 (Nat.le_refl _))
    clear hb8
    go_wp2_with fail
    refine (inC _ l _ (HI.out.below HB8.out) (by rw [HL.out]; omega)).mono ?_
    rintro _ _ ⟨rfl, rfl⟩
    rw [HK.out]
    have hq : ((K : Int) == (K : Int)) = true := by simp
    go_wp2
    go_ret
    exact ⟨rfl, HB8.out⟩
end Go.Proofs.Ytemafhpogkbbkaa.Epo
