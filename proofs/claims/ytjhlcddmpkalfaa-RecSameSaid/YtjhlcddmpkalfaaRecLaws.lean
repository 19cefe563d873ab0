/- The laws of layer 9 of any bytes, and of bytes cut off, as walks. -/
import Derived.Test.YtjhlcddmpkalfaaRecI
namespace Go.Proofs.Ytjhlcddmpkalfaa.Rec
set_option linter.unusedVariables false
open Go.ChangeShapes Go.WideShapes Go.ChangeAt Go.RowKit
open Go.Mem RecM Same
theorem zero_val {w : World} : RecV w (.agg #[.int .i64 0, .int .i64 0, .int .i64 0, .string ⟨#[]⟩, .slice none 0 0, .slice none 0 0, .slice none 0 0]) RecD.zero :=
  ⟨none, none, none, 0, 0, 0, rfl, RecIs.nil rfl rfl rfl ⟨by decide, by decide⟩ ⟨by decide, by decide⟩ ⟨by decide, by decide⟩ (by unfold KeyOk; decide)⟩
theorem zero_shape {V : Value} {w : World} (h : RecV w V RecD.zero) : ∃ As Ao Ad Cs Co Cd, V = .agg #[.int .i64 0, .int .i64 0, .int .i64 0, .string ⟨#[]⟩, .slice As 0 Cs, .slice Ao 0 Co, .slice Ad 0 Cd] ∧ RecIs w RecD.zero As Ao Ad Cs Co Cd := by
  obtain ⟨As, Ao, Ad, Cs, Co, Cd, e, h⟩ := h
  exact ⟨As, Ao, Ad, Cs, Co, Cd, e, h⟩
set_option maxHeartbeats 4000000 in
theorem RecReadsC (I : RecI) (l : List Nat) (v : Value) (W : World) (h : Bytes W v l) :
    Calls Try.prog 4 #[v] W fun e w' => e = .returned (.bool true) ∧ Below W.heap.size W w' := by
  obtain ⟨A, C, rfl, h1, h2, -⟩ := h.shape
  obtain ⟨N, hN⟩ : ∃ N, l.length = N := ⟨_, rfl⟩
  rw [hN] at h1 h ⊢
  have HN := Lib.hid hN
  have H := Lib.hid h
  clear hN h
  by_cases hbig : 9000 < N
  · go_enter Try.func4, Try.ntmps4
    go_wp2_with fail
    refine (answersC I W).mono ?_
    rintro _ w2 ⟨rfl, hb2⟩
    go_wp2
    go_ret
    exact ⟨rfl, hb2⟩
  · have hd : decide ((9000 : Int) < (N : Int)) = false := by simp; omega
    by_cases hex : ∃ r, IsRec l r
    · obtain ⟨r, hr⟩ := hex
      have HIR := Lib.hid hr
      clear hr hbig
      go_enter Try.func4, Try.ntmps4
      go_wp2_with fail
      refine (I.dec _ _ l r H.out (by rw [HN.out]; simp at hd; omega) HIR.out).mono ?_
      rintro _ w5 ⟨V5, rfl, hV5, hb5⟩
      have HB5 := Lib.hid hb5
      obtain ⟨As5, Ao5, Ad5, Cs5, Co5, Cd5, rfl, hr5⟩ := hV5
      have HR5 := Lib.hid hr5
      unfold recVal
      have HA5 := Lib.hid (show Below w5.heap.size w5 (w5.alloc (.cells #[.int .i64 r.kind, .int .i64 r.id, .int .i64 r.size, .string r.key, .slice As5 r.stripes.length Cs5, .slice Ao5 r.objects.length Co5, .slice Ad5 r.drives.length Cd5] 26)) from (Below.refl _ _).alloc (Nat.le_refl _) _)
      have HR6 := Lib.hid (show RecV (w5.alloc (.cells #[.int .i64 r.kind, .int .i64 r.id, .int .i64 r.size, .string r.key, .slice As5 r.stripes.length Cs5, .slice Ao5 r.objects.length Co5, .slice Ad5 r.drives.length Cd5] 26)) (.agg #[.int .i64 r.kind, .int .i64 r.id, .int .i64 r.size, .string r.key, .slice As5 r.stripes.length Cs5, .slice Ao5 r.objects.length Co5, .slice Ad5 r.drives.length Cd5]) r from ⟨As5, Ao5, Ad5, Cs5, Co5, Cd5, rfl, HR5.out.below HA5.out⟩)
      have HBK := Lib.hid (isRec_back HIR.out)
      clear hr5 hb5
      go_wp2_with fail
      refine (refEncode HR6.out (by have := items_le HIR.out; omega)).mono ?_
      rintro _ w6 ⟨u, rfl, hu, hb6⟩
      rw [HBK.out.1]
      rw [HBK.out.2] at hu
      have HB6 := Lib.hid (HB5.out.trans ((HA5.out.trans (hb6.mono HA5.out.size)).mono HB5.out.size))
      have HU := Lib.hid hu
      obtain ⟨A6, C6, hA6, -, -, -⟩ := hu.shape
      subst hA6
      rw [HN.out] at HU ⊢
      clear hu hb6
      go_wp2_with fail
      refine (answersC I _).mono ?_
      rintro _ w7 ⟨rfl, hb7⟩
      have HB7 := Lib.hid (HB6.out.trans (hb7.mono HB6.out.size))
      have HU7 := Lib.hid (HU.out.below hb7)
      have HV7 := Lib.hid (H.out.below HB7.out)
      clear hb7
      go_wp2_with fail
      refine (sameC l l _ _ _ HV7.out HU7.out).mono ?_
      rintro _ _ ⟨rfl, n, rfl⟩
      rw [show sameB l l = true from decide_eq_true rfl]
      go_wp2
      go_ret
      exact ⟨rfl, HB7.out.trans ((below_drewN _ w7 n).mono (Nat.le_refl _))⟩
    · have HNO := Lib.hid (show ∀ r, ¬ IsRec l r from fun r q => hex ⟨r, q⟩)
      clear hex hbig
      go_enter Try.func4, Try.ntmps4
      go_wp2_with fail
      refine (I.decNo _ _ l H.out (by rw [HN.out]; simp at hd; omega) HNO.out).mono ?_
      rintro _ w5 ⟨V5, rfl, hV5, hb5⟩
      have HB5 := Lib.hid hb5
      obtain ⟨As5, Ao5, Ad5, Cs5, Co5, Cd5, rfl, hr5⟩ := zero_shape hV5
      have HR5 := Lib.hid hr5
      have HA5 := Lib.hid (show Below w5.heap.size w5 (w5.alloc (.cells #[.int .i64 0, .int .i64 0, .int .i64 0, .string ⟨#[]⟩, .slice As5 0 Cs5, .slice Ao5 0 Co5, .slice Ad5 0 Cd5] 26)) from (Below.refl _ _).alloc (Nat.le_refl _) _)
      clear hr5 hb5 hV5
      go_wp2_with fail
      refine (answersC I _).mono ?_
      rintro _ w6 ⟨rfl, hb6⟩
      have HB6 := Lib.hid (HB5.out.trans ((HA5.out.trans (hb6.mono HA5.out.size)).mono HB5.out.size))
      obtain ⟨j0, j1, j2, j3, j4, j5, j6⟩ := cells7 (w := w5) (w' := w6) (.int .i64 0) (.int .i64 0) (.int .i64 0) (.string ⟨#[]⟩) (.slice As5 0 Cs5) (.slice Ao5 0 Co5) (.slice Ad5 0 Cd5) 26 (by have := hb6; simpa using this)
      have HR6 := Lib.hid (show RecV w6 (.agg #[.int .i64 0, .int .i64 0, .int .i64 0, .string ⟨#[]⟩, .slice As5 0 Cs5, .slice Ao5 0 Co5, .slice Ad5 0 Cd5]) RecD.zero from ⟨As5, Ao5, Ad5, Cs5, Co5, Cd5, rfl, (HR5.out.below HA5.out).below hb6⟩)
      clear hb6
      go_wp2_with fail
      refine (refSame HR6.out zero_val).mono ?_
      rintro _ w7 ⟨rfl, hb7⟩
      rw [eqB_yes rfl]
      have HB7 := Lib.hid (HB6.out.trans (hb7.mono HB6.out.size))
      clear j0 j1 j2 j3 j4 j5 j6 hb7
      go_wp2
      go_ret
      exact ⟨rfl, HB7.out⟩
end Go.Proofs.Ytjhlcddmpkalfaa.Rec
