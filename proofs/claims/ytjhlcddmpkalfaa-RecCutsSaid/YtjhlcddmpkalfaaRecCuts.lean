/- The law of layer 9 of bytes cut off, or with one more, as a walk. -/
import Derived.Test.YtjhlcddmpkalfaaRecLaws
namespace Go.Proofs.Ytjhlcddmpkalfaa.Rec
set_option linter.unusedVariables false
open Go.ChangeShapes Go.WideShapes Go.ChangeAt Go.RowKit
open Go.Mem RecM Same
set_option maxHeartbeats 4000000 in
theorem RecCutsC (I : RecI) (r : RecD) (V : Value) (at_ more : Int) (l1 : 0 ≤ at_) (u1 : at_ ≤ 65535) (l2 : 0 ≤ more) (u2 : more ≤ 255) (W : World) (h : RecV W V r) :
    Calls Try.prog 5 #[V, .int .u16 at_, .int .u8 more] W fun e w' => e = .returned (.bool true) ∧ Below W.heap.size W w' := by
  obtain ⟨As, Ao, Ad, Cs, Co, Cd, rfl, h⟩ := h
  obtain ⟨M, rfl⟩ := Int.eq_ofNat_of_zero_le l2
  unfold recVal
  obtain ⟨W1, hW1⟩ : ∃ W1, W.alloc (.cells #[.int .i64 r.kind, .int .i64 r.id, .int .i64 r.size, .string r.key, .slice As r.stripes.length Cs, .slice Ao r.objects.length Co, .slice Ad r.drives.length Cd] 26) = W1 := ⟨_, rfl⟩
  have hbw : Below W.heap.size W W1 := by rw [← hW1]; exact (Below.refl _ _).alloc (Nat.le_refl _) _
  have hsz : W1.heap.size = W.heap.size + 1 := by rw [← hW1]; simp
  have HV := Lib.hid (fun (w' : World) (hb : Below W1.heap.size W1 w') => (show RecV w' (.agg #[.int .i64 r.kind, .int .i64 r.id, .int .i64 r.size, .string r.key, .slice As r.stripes.length Cs, .slice Ao r.objects.length Co, .slice Ad r.drives.length Cd]) r from ⟨As, Ao, Ad, Cs, Co, Cd, rfl, (h.below hbw).below hb⟩))
  have HC := Lib.hid (fun (w' : World) (hb : Below W1.heap.size W1 w') => cells7 (w := W) (w' := w') (.int .i64 r.kind) (.int .i64 r.id) (.int .i64 r.size) (.string r.key) (.slice As r.stripes.length Cs) (.slice Ao r.objects.length Co) (.slice Ad r.drives.length Cd) 26 (by rw [hW1, ← hsz]; exact hb))
  have HBW := Lib.hid hbw
  have HR1 := Lib.hid (HV.out W1 (Below.refl _ _))
  obtain ⟨k0, k1, k2, k3, k4, k5, k6⟩ := HC.out W1 (Below.refl _ _)
  rw [← hW1] at k0 k1 k2 k3 k4 k5 k6
  have HR1' := Lib.hid (show RecV (W.alloc (.cells #[.int .i64 r.kind, .int .i64 r.id, .int .i64 r.size, .string r.key, .slice As r.stripes.length Cs, .slice Ao r.objects.length Co, .slice Ad r.drives.length Cd] 26)) _ r by rw [hW1]; exact HR1.out)
  have HW1 := Lib.hid hW1
  have hle : W.heap.size ≤ W1.heap.size := by omega
  clear h hbw hsz hW1
  go_enter Try.func5, Try.ntmps5
  go_wp2_with fail
  refine (refSmall HR1'.out).mono ?_
  rintro _ w1 ⟨rfl, hb1⟩
  rw [HW1.out] at hb1
  have HB1 := Lib.hid hb1
  clear k0 k1 k2 k3 k4 k5 k6 hb1
  cases hsm : small r with
  | false =>
    go_wp2_with fail
    refine (answersC I w1).mono ?_
    rintro _ w2 ⟨rfl, hb2⟩
    go_wp2
    go_ret
    exact ⟨rfl, HBW.out.trans ((HB1.out.trans (hb2.mono HB1.out.size)).mono hle)⟩
  | true =>
    have hit : items r ≤ 10000 := by
      unfold small at hsm
      simp only [Bool.and_eq_true, decide_eq_true_eq] at hsm
      omega
    obtain ⟨k0, k1, k2, k3, k4, k5, k6⟩ := HC.out w1 HB1.out
    clear hsm
    obtain ⟨E, hE⟩ : ∃ E, encE r = E := ⟨_, rfl⟩
    have HE := Lib.hid hE
    clear hE
    go_wp2_with fail
    refine (refEncode (HV.out w1 HB1.out) hit).mono ?_
    rintro _ w2 ⟨u, rfl, hu, hb2⟩
    rw [HE.out]
    have HB2 := Lib.hid (HB1.out.trans (hb2.mono HB1.out.size))
    have HU := Lib.hid hu
    clear k0 k1 k2 k3 k4 k5 k6 hu hb2
    obtain ⟨A, C, hA, hlC, hmC, hnC⟩ := HU.out.shape
    subst hA
    by_cases he0 : E = 0
    · subst he0
      obtain ⟨hir, hle8⟩ := isRec_of HE.out
      have HIR := Lib.hid hir
      have hpos : 0 < (encB r).length := by
        have h1 := recE_len r
        rw [hir.2.1] at h1
        omega
      obtain ⟨NB, hNB⟩ : ∃ NB, (encB r).length = NB := ⟨_, rfl⟩
      have HNB := Lib.hid hNB
      rw [hNB] at HU hlC hpos hle8 ⊢
      obtain ⟨K, hK⟩ : ∃ K : Nat, at_ % (NB : Int) = (K : Int) := ⟨(at_ % (NB : Int)).toNat, by rw [Int.toNat_of_nonneg (Int.emod_nonneg _ (by omega))]⟩
      have hKlt : K < NB := by have := Int.emod_lt_of_pos at_ (show (0 : Int) < (NB : Int) by omega); omega
      have HT := Lib.hid (show Bytes w2 (.slice A K C) ((encB r).take K) from HU.out.take (by rw [HNB.out]; omega))
      have HNO := Lib.hid (isRec_cut hir (k := K) (by rw [HNB.out]; exact hKlt))
      have HNM := Lib.hid (isRec_more hir M)
      have hTL : ((encB r).take K).length ≤ 9000 := by rw [List.length_take, HNB.out]; omega
      obtain ⟨⟨ab, ao, as_⟩, rfl⟩ : ∃ a, A = some a := by
        cases A with
        | none => have := hnC rfl; omega
        | some a => exact ⟨a, rfl⟩
      have hKC : (K : Int) ≤ (C : Int) := by omega
      have hNB0 : ((NB : Int) == 0) = false := by rw [beq_eq_false_iff_ne]; omega
      clear hNB hir hnC
      go_wp2_with fail
      refine (I.decNo _ _ _ HT.out hTL HNO.out).mono ?_
      rintro _ w3 ⟨V3, rfl, hV3, hb3⟩
      have HB3 := Lib.hid (HB2.out.trans (hb3.mono HB2.out.size))
      obtain ⟨As3, Ao3, Ad3, Cs3, Co3, Cd3, rfl, hr3⟩ := zero_shape hV3
      have HR3 := Lib.hid hr3
      obtain ⟨wx, hwx⟩ : ∃ wx, w3.alloc (.cells #[.int .i64 0, .int .i64 0, .int .i64 0, .string ⟨#[]⟩, .slice As3 0 Cs3, .slice Ao3 0 Co3, .slice Ad3 0 Cd3] 26) = wx := ⟨_, rfl⟩
      have ha3 : Below w3.heap.size w3 wx := by rw [← hwx]; exact (Below.refl _ _).alloc (Nat.le_refl _) _
      have hsx : wx.heap.size = w3.heap.size + 1 := by rw [← hwx]; simp
      have HA3 := Lib.hid ha3
      have HSX := Lib.hid hsx
      have HUX := Lib.hid ((HU.out.below hb3).below ha3)
      have HBX := Lib.hid (HB3.out.trans (ha3.mono HB3.out.size))
      have HC3 := Lib.hid (fun (w' : World) (hb : Below wx.heap.size wx w') => cells7 (w := w3) (w' := w') (.int .i64 0) (.int .i64 0) (.int .i64 0) (.string ⟨#[]⟩) (.slice As3 0 Cs3) (.slice Ao3 0 Co3) (.slice Ad3 0 Cd3) 26 (by rw [hwx, ← hsx]; exact hb))
      have HV3 := Lib.hid (fun (w' : World) (hb : Below wx.heap.size wx w') => (show RecV w' (.agg #[.int .i64 0, .int .i64 0, .int .i64 0, .string ⟨#[]⟩, .slice As3 0 Cs3, .slice Ao3 0 Co3, .slice Ad3 0 Cd3]) RecD.zero from ⟨As3, Ao3, Ad3, Cs3, Co3, Cd3, rfl, (HR3.out.below HA3.out).below hb⟩))
      have HE0 := Lib.hid (show Built ByteR (wx.alloc (.cells #[] 5)) wx.heap.size 5 (.slice (some ⟨wx.heap.size, 0, none⟩) 0 0) [] from built_none wx (Nat.le_refl _))
      have HU0 := Lib.hid (HUX.out.below (show Below wx.heap.size wx (wx.alloc (.cells #[] 5)) from (Below.refl _ _).alloc (Nat.le_refl _) _))
      have HX0 := Lib.hid (show wx.heap.size ≤ (wx.alloc (.cells #[] 5)).heap.size by simp)
      have HXW := Lib.hid (show Below wx.heap.size wx (wx.alloc (.cells #[] 5)) from (Below.refl _ _).alloc (Nat.le_refl _) _)
      have HL1 := Lib.hid (show (([] : List Nat) ++ encB r).length = NB by rw [List.nil_append]; exact HNB.out)
      have HL2 := Lib.hid (show (([] : List Nat) ++ encB r ++ [M]).length = NB + 1 by rw [List.nil_append, List.length_append, HNB.out]; rfl)
      have hM : M < 256 := by omega
      have HWX := Lib.hid hwx
      rw [hsx] at HE0 HX0
      rw [← hwx] at HE0 HU0 HX0 HXW
      clear hr3 hb3 hV3 ha3 hsx hwx
      go_wp2_with (first
        | (refine wpList_append_src _ rfl (.tmp 37) (.tmp 38) 29 29 rfl _ 5 Try.underlying29 infoByte _ _ rfl HE0.out _ _ rfl (BSrc.ofBytes Try.underlying29 HU0.out) (by rw [HNB.out]; simp only [List.length_nil, Nat.zero_add]; omega) HX0.out ?_; intro v1 w4 hbu1 hg1 hb4 hat1; obtain ⟨A1, C1, e1, hl1, hl1'⟩ := hbu1.len; rw [HL1.out] at e1 hl1; subst e1; have HBU1 := Lib.hid hbu1; have HB4 := Lib.hid hb4; clear hbu1 hg1 hb4 hat1)
        | (refine wpList_append_built (R := ByteR) _ rfl (.tmp 39) (.tmp 41) 29 rfl _ 5 (.int .u8 0) 1 Try.underlying29 infoByte rfl _ _ rfl HBU1.out (.int .u8 M) M _ rfl rfl rfl (fun _ _ => ⟨rfl, hM⟩) (by rw [HL1.out]; omega) (Nat.le_trans HX0.out HB4.out.size) ?_; intro v2 w5 hbu2 hg2 hb5; obtain ⟨A2, C2, e2, hl2, hl2'⟩ := hbu2.len; rw [HL2.out] at e2 hl2; subst e2; have HBU2 := Lib.hid hbu2.slice; have HB5 := Lib.hid hb5; clear hbu2 hg2 hb5)
        | fail)
      have hx5 : Below wx.heap.size wx w5 := by
        have e1 := HXW.out
        have e2 := HB4.out
        have e3 := HB5.out
        rw [HWX.out] at e1 e2
        rw [HSX.out] at e1 ⊢
        exact (e1.trans e2).trans e3
      have HX5 := Lib.hid hx5
      have HBY := Lib.hid (show Bytes w5 (.slice A2 (NB + 1) C2) (encB r ++ [M]) from HBU2.out)
      have hTL2 : (encB r ++ [M]).length ≤ 9000 := by rw [List.length_append, HNB.out]; simp; omega
      clear hx5
      refine (I.decNo _ _ _ HBY.out hTL2 HNM.out).mono ?_
      rintro _ w6 ⟨V6, rfl, hV6, hb6⟩
      have HX6 := Lib.hid (HX5.out.trans (hb6.mono HX5.out.size))
      obtain ⟨As6, Ao6, Ad6, Cs6, Co6, Cd6, rfl, hr6⟩ := zero_shape hV6
      have HR6 := Lib.hid hr6
      have HA6 := Lib.hid (show Below w6.heap.size w6 (w6.alloc (.cells #[.int .i64 0, .int .i64 0, .int .i64 0, .string ⟨#[]⟩, .slice As6 0 Cs6, .slice Ao6 0 Co6, .slice Ad6 0 Cd6] 26)) from (Below.refl _ _).alloc (Nat.le_refl _) _)
      clear hr6 hb6 hV6
      go_wp2_with fail
      refine (answersC I _).mono ?_
      rintro _ w7 ⟨rfl, hb7⟩
      have HY7 := Lib.hid (show Below (w6.heap.size + 1) _ w7 from (by simpa using hb7))
      have HX7 := Lib.hid (HX6.out.trans ((HA6.out.trans (hb7.mono HA6.out.size)).mono HX6.out.size))
      have HR7 := Lib.hid ((HR6.out.below HA6.out).below hb7)
      obtain ⟨j0, j1, j2, j3, j4, j5, j6⟩ := HC3.out w7 HX7.out
      clear hb7
      go_wp2_with fail
      refine (refSame (HV3.out w7 HX7.out) zero_val).mono ?_
      rintro _ w8 ⟨rfl, hb8⟩
      rw [eqB_yes rfl]
      have HX8 := Lib.hid (HX7.out.trans (hb8.mono HX7.out.size))
      have HY8 := Lib.hid (HY7.out.trans (hb8.mono (Nat.le_trans (by simp) HY7.out.size)))
      have HR8 := Lib.hid (HR7.out.below hb8)
      clear j0 j1 j2 j3 j4 j5 j6 hb8
      obtain ⟨j0, j1, j2, j3, j4, j5, j6⟩ := cells7 (w := w6) (w' := w8) (.int .i64 0) (.int .i64 0) (.int .i64 0) (.string ⟨#[]⟩) (.slice As6 0 Cs6) (.slice Ao6 0 Co6) (.slice Ad6 0 Cd6) 26 HY8.out
      have HV8 := Lib.hid (show RecV w8 (.agg #[.int .i64 0, .int .i64 0, .int .i64 0, .string ⟨#[]⟩, .slice As6 0 Cs6, .slice Ao6 0 Co6, .slice Ad6 0 Cd6]) RecD.zero from ⟨As6, Ao6, Ad6, Cs6, Co6, Cd6, rfl, HR8.out⟩)
      go_wp2_with fail
      refine (refSame HV8.out zero_val).mono ?_
      rintro _ w9 ⟨rfl, hb9⟩
      rw [eqB_yes rfl]
      have HX9 := Lib.hid (HX8.out.trans (hb9.mono HX8.out.size))
      clear j0 j1 j2 j3 j4 j5 j6 hb9
      go_wp2
      go_ret
      exact ⟨rfl, HBW.out.trans ((HBX.out.trans (HX9.out.mono HBX.out.size)).mono hle)⟩
    · have hq : (E != 0) = true := by rw [bne_iff_ne]; exact he0
      clear he0
      go_wp2_with fail
      refine (answersC I _).mono ?_
      rintro _ w5 ⟨rfl, hb5⟩
      have HB5 := Lib.hid (HB2.out.trans (hb5.mono HB2.out.size))
      clear hb5
      go_wp2
      go_ret
      exact ⟨rfl, HBW.out.trans (HB5.out.mono hle)⟩
end Go.Proofs.Ytjhlcddmpkalfaa.Rec
