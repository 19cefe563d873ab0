/- The laws of layer 13 but the last one, as walks. -/
import Derived.Test.YtemafhpogkbbkaaEpI
namespace Go.Proofs.Ytemafhpogkbbkaa.Epo
set_option linter.unusedVariables false
open Go.ChangeShapes Go.WideShapes Go.ChangeAt Go.RowKit
open Go.Mem Ep Rec
set_option maxHeartbeats 4000000 in
theorem EpochJoinC (I : EpI) (l : List Int) (v : Value) (W : World) (h : Ints W v l) :
    Calls Try.prog 3 #[v] W fun e w' => e = .returned (.bool true) ∧ Below W.heap.size W w' := by
  obtain ⟨A, C, rfl, g1, g2, -⟩ := h.shape
  by_cases hbig : 100 < l.length
  · have hd : decide (100 < l.length) = true := by simpa using hbig
    obtain ⟨L, hL⟩ : ∃ L, l.length = L := ⟨_, rfl⟩
    rw [hL] at g1 hd hbig ⊢
    clear h hL
    go_enter Try.func3, Try.ntmps3
    go_wp2_with fail
    refine (answersC I _).mono ?_
    rintro _ w1 ⟨rfl, hb⟩
    have HB := Lib.hid hb
    clear hb
    go_wp2
    go_ret
    exact ⟨rfl, HB.out⟩
  · have hl : l.length ≤ 100 := by omega
    have hd : decide (100 < l.length) = false := by simpa using hl
    have HI := Lib.hid h
    have HLN := Lib.hid hl
    have hLL : ∃ L, l.length = L := ⟨_, rfl⟩
    by_cases h12 : 12 ≤ l.length
    · have HJE := Lib.hid (show jnE l = 3 ∧ jnL l = [] from ⟨by unfold jnE; rw [if_pos h12], by unfold jnL; rw [if_pos h12]⟩)
      have hd2 : decide (12 ≤ l.length) = true := by simpa using h12
      obtain ⟨L, hL⟩ := hLL
      rw [hL] at g1 hd hl h12 hd2 HI ⊢
      clear h hbig hL
      go_enter Try.func3, Try.ntmps3
      go_wp2_with fail
      refine (I.join _ _ l HI.out (by have := HLN.out; omega)).mono ?_
      rintro _ w1 ⟨u, rfl, hu, hb1⟩
      have hu := hu _ (Turned.refl _ _)
      rw [HJE.out.1]
      rw [HJE.out.2] at hu
      obtain ⟨A1, C1, rfl, -⟩ := hu.shape
      have HB1 := Lib.hid hb1
      clear hu hb1
      go_wp2_with fail
      refine (answersC I _).mono ?_
      rintro _ w2 ⟨rfl, hb2⟩
      have HB2 := Lib.hid (below_nxt HB1.out hb2 (Nat.le_refl _))
      clear hb2
      go_wp2
      go_ret
      exact ⟨rfl, HB2.out⟩
    · have HJE := Lib.hid (show jnE l = 0 ∧ jnL l = l ++ [1] from ⟨by unfold jnE; rw [if_neg h12], by unfold jnL; rw [if_neg h12]⟩)
      have hd2 : decide (12 ≤ l.length) = false := by simpa using h12
      have h12' : l.length < 12 := by omega
      obtain ⟨L, hL⟩ := hLL
      have HL := Lib.hid hL
      rw [hL] at g1 hd hl h12' hd2 HI ⊢
      clear h hbig hL h12
      go_enter Try.func3, Try.ntmps3
      go_wp2_with fail
      refine (I.join _ _ l HI.out (by have := HLN.out; omega)).mono ?_
      rintro _ w1 ⟨u, rfl, hu, hb1⟩
      have hu := hu _ (Turned.refl _ _)
      rw [HJE.out.1]
      rw [HJE.out.2] at hu
      obtain ⟨A1, C1, rfl, -⟩ := hu.shape
      obtain ⟨L1, hL1⟩ : ∃ L1, (l ++ [1]).length = L1 := ⟨_, rfl⟩
      rw [hL1] at hu ⊢
      have HU := Lib.hid hu
      have HB1 := Lib.hid hb1
      clear hu hb1 hL1
      go_wp2_with fail
      refine (answersC I _).mono ?_
      rintro _ w2 ⟨rfl, hb2⟩
      have HB2 := Lib.hid (below_nxt HB1.out hb2 (Nat.le_refl _))
      have hi2 := HI.out.below HB2.out
      rw [← HL.out] at hi2
      obtain ⟨v3, w3, hrun, hbu, hb3⟩ := copy_ints w2 A C l hi2 (by have := HLN.out; omega)
      rw [HL.out] at hrun
      obtain ⟨v4, w4, hrun2, hbu2, hb4⟩ := one_more w3 w2.heap.size v3 l 1 ⟨by omega, by omega⟩ hbu (by have := HLN.out; omega) hb3.size
      have HV4 := Lib.hid (show Ints w4 v4 (l ++ [1]) from hbu2.slice)
      have HB4 := Lib.hid (below_nxt HB2.out (hb3.trans (hb4.mono (Nat.le_refl _))) (Nat.le_refl _))
      have HU4 := Lib.hid (HU.out.below (hb2.trans ((hb3.trans (hb4.mono (Nat.le_refl _))).mono hb2.size)))
      obtain ⟨A3, C3, e3, -⟩ := hbu.len
      obtain ⟨A4, C4, e4, -⟩ := hbu2.len
      rw [HL.out] at e3
      obtain ⟨L4, hL4⟩ : ∃ L4, (l ++ [1]).length = L4 := ⟨_, rfl⟩
      rw [hL4] at e4
      subst e3; subst e4
      have HR1 := Lib.hid hrun
      have HR2 := Lib.hid hrun2
      clear hb2 hi2 hbu hbu2 hb3 hb4 hL4 hrun hrun2
      go_wp2_with (at_builtin; first | (refine wpList_append_guarded _ rfl (.tmp 34) (.tmp 35) _ _ rfl _ _ rfl rfl _ _ HR1.out ?_) | (refine wpList_append_guarded _ rfl (.tmp 36) (.tmp 37) _ _ rfl _ _ rfl rfl _ _ HR2.out ?_))
      refine (intsC _ _ _ _ _ HU4.out HV4.out).mono ?_
      rintro _ _ ⟨rfl, n5, rfl⟩
      rw [eqB_yes rfl]
      have HB5 := Lib.hid (below_nxt HB4.out (below_drewN _ w4 n5) (Nat.le_refl _))
      go_wp2_with fail
      refine (I.inn _ _ l (HI.out.below HB5.out) (by have := HLN.out; omega)).mono ?_
      rintro _ w6 ⟨rfl, hb6⟩
      have HB6 := Lib.hid (below_nxt HB5.out hb6 (Nat.le_refl _))
      clear hb6
      go_wp2_with fail
      refine (inC _ l _ (HI.out.below HB6.out) (by have := HLN.out; omega)).mono ?_
      rintro _ _ ⟨rfl, rfl⟩
      have hq : ((cnt l : Int) == (cnt l : Int)) = true := by simp
      go_wp2
      go_ret
      exact ⟨rfl, HB6.out⟩
end Go.Proofs.Ytemafhpogkbbkaa.Epo
