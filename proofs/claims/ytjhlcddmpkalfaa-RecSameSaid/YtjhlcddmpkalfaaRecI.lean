/- What the laws of layer 9 want of the program's own functions, and the laws' answers, as walks. -/
import Derived.Test.YtjhlcddmpkalfaaRecEnc
import Derived.Test.YtjhlcddmpkalfaaRecSmall
import Derived.Test.YtjhlcddmpkalfaaSame
namespace Go.Proofs.Ytjhlcddmpkalfaa.Rec
set_option linter.unusedVariables false
open Go.ChangeShapes Go.WideShapes Go.ChangeAt Go.RowKit
open Go.Mem RecM Same
def Deced (W : World) (r : RecD) (k : Int) (e : Ending) (w' : World) : Prop := ∃ V, e = .returned (.tuple #[V, .int .i64 k]) ∧ RecV w' V r ∧ Below W.heap.size W w'
structure RecI : Prop where
  enc : ∀ (W : World) (V : Value) (r : RecD), RecV W V r → small r = true → Calls Try.prog 10 #[V] W (Enced W r)
  dec : ∀ (W : World) (v : Value) (l : List Nat) (r : RecD), Bytes W v l → l.length ≤ 9000 → IsRec l r → Calls Try.prog 13 #[v] W (Deced W r 0)
  decNo : ∀ (W : World) (v : Value) (l : List Nat), Bytes W v l → l.length ≤ 9000 → (∀ r, ¬ IsRec l r) → Calls Try.prog 13 #[v] W (Deced W RecD.zero 2)
  same : ∀ (W : World) (V U : Value) (r q : RecD), RecV W V r → RecV W U q → Calls Try.prog 15 #[V, U] W (Saw W (eqB r q))
/-- a struct of seven cells in a block of its own: its cells, as long as the block stands -/
theorem cells7 {w w' : World} (c0 c1 c2 c3 c4 c5 c6 : Value) (T : TypeId) (hb : Below (w.heap.size + 1) (w.alloc (.cells #[c0, c1, c2, c3, c4, c5, c6] T)) w') :
    w'.cell? ⟨w.heap.size, 0, none⟩ = some c0 ∧ w'.cell? ⟨w.heap.size, 1, none⟩ = some c1 ∧ w'.cell? ⟨w.heap.size, 2, none⟩ = some c2 ∧ w'.cell? ⟨w.heap.size, 3, none⟩ = some c3 ∧ w'.cell? ⟨w.heap.size, 4, none⟩ = some c4 ∧ w'.cell? ⟨w.heap.size, 5, none⟩ = some c5 ∧ w'.cell? ⟨w.heap.size, 6, none⟩ = some c6 := by
  have h := row_cells w #[c0, c1, c2, c3, c4, c5, c6] T
  have k : ∀ i (hi : i < 7), w'.cell? ⟨w.heap.size, i, none⟩ = some (#[c0, c1, c2, c3, c4, c5, c6][i]'hi) := fun i hi =>
    (hb.cell (p := ⟨w.heap.size, i, none⟩) (by show w.heap.size < _; omega)).trans (h i hi)
  exact ⟨k 0 (by omega), k 1 (by omega), k 2 (by omega), k 3 (by omega), k 4 (by omega), k 5 (by omega), k 6 (by omega)⟩
def a0 : RecD := ⟨2, 5, 0, ⟨#[97]⟩, [], [], []⟩
theorem a0_enc : encE a0 = 0 ∧ (encB a0).length = 15 ∧ small a0 = true := by decide +kernel
theorem a0_val {w : World} : RecV w (.agg #[.int .i64 2, .int .i64 5, .int .i64 0, .string ⟨#[97]⟩, .slice none 0 0, .slice none 0 0, .slice none 0 0]) a0 :=
  ⟨none, none, none, 0, 0, 0, rfl, RecIs.nil rfl rfl rfl ⟨by decide, by decide⟩ ⟨by decide, by decide⟩ ⟨by decide, by decide⟩ (by unfold KeyOk; decide)⟩
theorem a0_shape {V : Value} {w : World} (h : RecV w V a0) : ∃ As Ao Ad Cs Co Cd, V = .agg #[.int .i64 2, .int .i64 5, .int .i64 0, .string ⟨#[97]⟩, .slice As 0 Cs, .slice Ao 0 Co, .slice Ad 0 Cd] ∧ RecIs w a0 As Ao Ad Cs Co Cd := by
  obtain ⟨As, Ao, Ad, Cs, Co, Cd, e, h⟩ := h
  exact ⟨As, Ao, Ad, Cs, Co, Cd, e, h⟩
set_option maxHeartbeats 2000000 in
theorem answersC (I : RecI) (w : World) :
    Calls Try.prog 9 #[] w fun e w' => e = .returned (.bool true) ∧ Below w.heap.size w w' := by
  go_enter Try.func9, Try.ntmps9
  go_wp2_with fail
  refine (I.enc _ _ a0 a0_val a0_enc.2.2).mono ?_
  rintro _ w1 ⟨u, rfl, hu, hb⟩
  rw [a0_enc.1]
  have HB := Lib.hid hb
  have HU := Lib.hid hu
  obtain ⟨A, C, rfl, -, -, -⟩ := hu.shape
  rw [a0_enc.2.1] at HU ⊢
  clear hu hb
  go_wp2_with fail
  refine (I.dec _ _ _ a0 HU.out (by rw [a0_enc.2.1]; omega) (isRec_enc a0_enc.1)).mono ?_
  rintro _ w2 ⟨V, rfl, hV, hb2⟩
  have HB2 := Lib.hid (HB.out.trans (hb2.mono HB.out.size))
  obtain ⟨As, Ao, Ad, Cs, Co, Cd, rfl, hr⟩ := a0_shape hV
  have HR := Lib.hid hr
  clear hV hb2 hr
  go_wp2_with fail
  have hv : RecV (w2.alloc (.cells #[.int .i64 2, .int .i64 5, .int .i64 0, .string ⟨#[97]⟩, .slice As 0 Cs, .slice Ao 0 Co, .slice Ad 0 Cd] 26)) (.agg #[.int .i64 2, .int .i64 5, .int .i64 0, .string ⟨#[97]⟩, .slice As 0 Cs, .slice Ao 0 Co, .slice Ad 0 Cd]) a0 :=
    ⟨As, Ao, Ad, Cs, Co, Cd, rfl, HR.out.below ((Below.refl _ _).alloc (Nat.le_refl _) _)⟩
  refine (I.same _ _ _ a0 a0 hv hv).mono ?_
  rintro _ w3 ⟨rfl, hb3⟩
  rw [eqB_yes rfl]
  have HB3 := Lib.hid (HB2.out.trans (((Below.refl w2.heap.size w2).alloc (Nat.le_refl _) _ |>.trans (hb3.mono (by simp))).mono HB2.out.size))
  clear hb3 hv
  go_wp2
  go_ret
  exact ⟨rfl, HB3.out⟩
theorem isRec_of {r : RecD} (h : encE r = 0) : IsRec (encB r) r ∧ (encB r).length ≤ 8192 := ⟨isRec_enc h, (isRec_enc h).2.2⟩
set_option maxHeartbeats 4000000 in
theorem RecBackC (I : RecI) (r : RecD) (V : Value) (W : World) (h : RecV W V r) :
    Calls Try.prog 3 #[V] W fun e w' => e = .returned (.bool true) ∧ Below W.heap.size W w' := by
  obtain ⟨As, Ao, Ad, Cs, Co, Cd, rfl, h⟩ := h
  unfold recVal
  obtain ⟨W1, hW1⟩ : ∃ W1, W.alloc (.cells #[.int .i64 r.kind, .int .i64 r.id, .int .i64 r.size, .string r.key, .slice As r.stripes.length Cs, .slice Ao r.objects.length Co, .slice Ad r.drives.length Cd] 26) = W1 := ⟨_, rfl⟩
  have hbw : Below W.heap.size W W1 := by rw [← hW1]; exact (Below.refl _ _).alloc (Nat.le_refl _) _
  have hsz : W1.heap.size = W.heap.size + 1 := by rw [← hW1]; simp
  have HV := Lib.hid (fun (w' : World) (hb : Below W1.heap.size W1 w') => (show RecV w' (.agg #[.int .i64 r.kind, .int .i64 r.id, .int .i64 r.size, .string r.key, .slice As r.stripes.length Cs, .slice Ao r.objects.length Co, .slice Ad r.drives.length Cd]) r from ⟨As, Ao, Ad, Cs, Co, Cd, rfl, (h.below hbw).below hb⟩))
  have HC := Lib.hid (fun (w' : World) (hb : Below W1.heap.size W1 w') => cells7 (w := W) (w' := w') (.int .i64 r.kind) (.int .i64 r.id) (.int .i64 r.size) (.string r.key) (.slice As r.stripes.length Cs) (.slice Ao r.objects.length Co) (.slice Ad r.drives.length Cd) 26 (by rw [hW1, ← hsz]; exact hb))
  have HBW := Lib.hid hbw
  have HSZ := Lib.hid hsz
  have HR1 := Lib.hid (HV.out W1 (Below.refl _ _))
  obtain ⟨k0, k1, k2, k3, k4, k5, k6⟩ := HC.out W1 (Below.refl _ _)
  rw [← hW1] at k0 k1 k2 k3 k4 k5 k6
  have HR1' := Lib.hid (show RecV (W.alloc (.cells #[.int .i64 r.kind, .int .i64 r.id, .int .i64 r.size, .string r.key, .slice As r.stripes.length Cs, .slice Ao r.objects.length Co, .slice Ad r.drives.length Cd] 26)) _ r by rw [hW1]; exact HR1.out)
  have HW1 := Lib.hid hW1
  have hle : W.heap.size ≤ W1.heap.size := by omega
  clear h hbw hsz hW1
  go_enter Try.func3, Try.ntmps3
  go_wp2_with fail
  refine (refSmall HR1'.out).mono ?_
  rintro _ w1 ⟨rfl, hb1⟩
  rw [HW1.out] at hb1
  have HB1 := Lib.hid hb1
  clear k0 k1 k2 k3 k4 k5 k6 hb1
  cases hsm : small r with
  | false =>
    go_wp2_with fail
    refine (answersC I w1).mono ?_
    rintro _ w2 ⟨rfl, hb2⟩
    go_wp2
    go_ret
    exact ⟨rfl, HBW.out.trans ((HB1.out.trans (hb2.mono HB1.out.size)).mono hle)⟩
  | true =>
    have HSM := Lib.hid hsm
    obtain ⟨k0, k1, k2, k3, k4, k5, k6⟩ := HC.out w1 HB1.out
    clear hsm
    go_wp2_with fail
    refine (I.enc _ _ r (HV.out w1 HB1.out) HSM.out).mono ?_
    rintro _ w2 ⟨u, rfl, hu, hb2⟩
    have HB2 := Lib.hid (HB1.out.trans (hb2.mono HB1.out.size))
    have HU := Lib.hid hu
    clear k0 k1 k2 k3 k4 k5 k6 hu hb2
    obtain ⟨k0, k1, k2, k3, k4, k5, k6⟩ := HC.out w2 HB2.out
    obtain ⟨A, C, hA, -, -, -⟩ := HU.out.shape
    subst hA
    have hit : items r ≤ 10000 := by
      have := HSM.out
      unfold small at this
      simp only [Bool.and_eq_true, decide_eq_true_eq] at this
      omega
    obtain ⟨E, hE⟩ : ∃ E, encE r = E := ⟨_, rfl⟩
    have HE := Lib.hid hE
    rw [hE]
    clear hE
    go_wp2_with fail
    refine (refEncode (HV.out w2 HB2.out) hit).mono ?_
    rintro _ w3 ⟨u2, rfl, hu2, hb3⟩
    rw [HE.out]
    have HB3 := Lib.hid (HB2.out.trans (hb3.mono HB2.out.size))
    have HU3 := Lib.hid (HU.out.below hb3)
    have HV3 := Lib.hid hu2
    clear k0 k1 k2 k3 k4 k5 k6 hu2 hb3
    obtain ⟨A3, C3, hA3, -, -, -⟩ := HV3.out.shape
    subst hA3
    obtain ⟨NB, hNB⟩ : ∃ NB, (encB r).length = NB := ⟨_, rfl⟩
    rw [hNB] at HU HU3 HV3 ⊢
    have HNB := Lib.hid hNB
    have hq : (E != E) = false := by simp
    clear hNB
    go_wp2_with fail
    refine (sameC (encB r) (encB r) _ _ _ HU3.out HV3.out).mono ?_
    rintro _ _ ⟨rfl, n, rfl⟩
    rw [show sameB (encB r) (encB r) = true from decide_eq_true rfl]
    have HB4 := Lib.hid (HB3.out.trans ((below_drewN _ w3 n).mono (Nat.le_refl _)))
    have HU4 := Lib.hid (HU3.out.below (below_drewN _ w3 n))
    clear hq
    by_cases he0 : E = 0
    · subst he0
      have hir := isRec_of HE.out
      have HIR := Lib.hid hir.1
      have hnb : NB ≤ 8192 := by rw [← HNB.out]; exact hir.2
      clear hir
      go_wp2_with fail
      refine (I.dec _ _ _ r HU4.out (by rw [HNB.out]; omega) HIR.out).mono ?_
      rintro _ w5 ⟨V5, rfl, hV5, hb5⟩
      have HB5 := Lib.hid (HB4.out.trans (hb5.mono HB4.out.size))
      obtain ⟨As5, Ao5, Ad5, Cs5, Co5, Cd5, rfl, hr5⟩ := hV5
      have HR5 := Lib.hid hr5
      unfold recVal
      have HA5 := Lib.hid (show Below w5.heap.size w5 (w5.alloc (.cells #[.int .i64 r.kind, .int .i64 r.id, .int .i64 r.size, .string r.key, .slice As5 r.stripes.length Cs5, .slice Ao5 r.objects.length Co5, .slice Ad5 r.drives.length Cd5] 26)) from (Below.refl _ _).alloc (Nat.le_refl _) _)
      clear hr5 hb5
      go_wp2_with fail
      refine (answersC I _).mono ?_
      rintro _ w6 ⟨rfl, hb6⟩
      have HB6 := Lib.hid (HB5.out.trans ((HA5.out.trans (hb6.mono HA5.out.size)).mono HB5.out.size))
      obtain ⟨j0, j1, j2, j3, j4, j5, j6⟩ := cells7 (w := w5) (w' := w6) (.int .i64 r.kind) (.int .i64 r.id) (.int .i64 r.size) (.string r.key) (.slice As5 r.stripes.length Cs5) (.slice Ao5 r.objects.length Co5) (.slice Ad5 r.drives.length Cd5) 26 (by have := hb6; simpa using this)
      obtain ⟨k0, k1, k2, k3, k4, k5, k6⟩ := HC.out w6 HB6.out
      have HR6 := Lib.hid (show RecV w6 (.agg #[.int .i64 r.kind, .int .i64 r.id, .int .i64 r.size, .string r.key, .slice As5 r.stripes.length Cs5, .slice Ao5 r.objects.length Co5, .slice Ad5 r.drives.length Cd5]) r from ⟨As5, Ao5, Ad5, Cs5, Co5, Cd5, rfl, (HR5.out.below HA5.out).below hb6⟩)
      clear hb6
      go_wp2_with fail
      refine (refSame HR6.out (HV.out w6 HB6.out)).mono ?_
      rintro _ w7 ⟨rfl, hb7⟩
      rw [eqB_yes rfl]
      have HB7 := Lib.hid (HB6.out.trans (hb7.mono HB6.out.size))
      clear j0 j1 j2 j3 j4 j5 j6 k0 k1 k2 k3 k4 k5 k6 hb7
      go_wp2
      go_ret
      exact ⟨rfl, HBW.out.trans (HB7.out.mono hle)⟩
    · have hq : (E != 0) = true := by rw [bne_iff_ne]; exact he0
      clear he0
      go_wp2_with fail
      refine (answersC I _).mono ?_
      rintro _ w5 ⟨rfl, hb5⟩
      have HB5 := Lib.hid (HB4.out.trans (hb5.mono HB4.out.size))
      clear hb5
      go_wp2
      go_ret
      exact ⟨rfl, HBW.out.trans (HB5.out.mono hle)⟩
end Go.Proofs.Ytjhlcddmpkalfaa.Rec
