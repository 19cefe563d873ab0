/- The law of layer 9 of records that are the same, as a walk. -/
import Derived.Test.YtjhlcddmpkalfaaRecLaws
import Derived.Deep.RegionHeld3
namespace Go.Proofs.Ytjhlcddmpkalfaa.Rec
set_option linter.unusedVariables false
open Go.ChangeShapes Go.WideShapes Go.ChangeAt Go.RowKit
open Go.Mem RecM Same
theorem below_next {B : Nat} {W w w' : World} (h : Below B W w) (hb : Below w.heap.size w w') (hB : B ≤ W.heap.size) : Below B W w' := h.trans (hb.mono (Nat.le_trans hB h.size))
set_option maxHeartbeats 8000000 in
theorem RecSameC (I : RecI) (r q : RecD) (V U : Value) (W : World) (h : RecV W V r) (g : RecV W U q) :
    Calls Try.prog 6 #[V, U] W fun e w' => e = .returned (.bool true) ∧ Below W.heap.size W w' := by
  obtain ⟨As, Ao, Ad, Cs, Co, Cd, rfl, h⟩ := h
  obtain ⟨As2, Ao2, Ad2, Cs2, Co2, Cd2, rfl, g⟩ := g
  unfold recVal
  obtain ⟨W1, hW1⟩ : ∃ W1, W.alloc (.cells #[.int .i64 r.kind, .int .i64 r.id, .int .i64 r.size, .string r.key, .slice As r.stripes.length Cs, .slice Ao r.objects.length Co, .slice Ad r.drives.length Cd] 26) = W1 := ⟨_, rfl⟩
  obtain ⟨W2, hW2⟩ : ∃ W2, W1.alloc (.cells #[.int .i64 q.kind, .int .i64 q.id, .int .i64 q.size, .string q.key, .slice As2 q.stripes.length Cs2, .slice Ao2 q.objects.length Co2, .slice Ad2 q.drives.length Cd2] 26) = W2 := ⟨_, rfl⟩
  have hb1 : Below W.heap.size W W1 := by rw [← hW1]; exact (Below.refl _ _).alloc (Nat.le_refl _) _
  have hb2 : Below W1.heap.size W1 W2 := by rw [← hW2]; exact (Below.refl _ _).alloc (Nat.le_refl _) _
  have hs1 : W1.heap.size = W.heap.size + 1 := by rw [← hW1]; simp
  have hs2 : W2.heap.size = W.heap.size + 2 := by rw [← hW2]; simp [hs1]
  have hbw := hb1.trans (hb2.mono (by omega))
  have HVA := Lib.hid (fun (w' : World) (hb : Below W2.heap.size W2 w') => (show RecV w' (.agg #[.int .i64 r.kind, .int .i64 r.id, .int .i64 r.size, .string r.key, .slice As r.stripes.length Cs, .slice Ao r.objects.length Co, .slice Ad r.drives.length Cd]) r from ⟨As, Ao, Ad, Cs, Co, Cd, rfl, (h.below hbw).below hb⟩))
  have HVB := Lib.hid (fun (w' : World) (hb : Below W2.heap.size W2 w') => (show RecV w' (.agg #[.int .i64 q.kind, .int .i64 q.id, .int .i64 q.size, .string q.key, .slice As2 q.stripes.length Cs2, .slice Ao2 q.objects.length Co2, .slice Ad2 q.drives.length Cd2]) q from ⟨As2, Ao2, Ad2, Cs2, Co2, Cd2, rfl, (g.below hbw).below hb⟩))
  have HCA := Lib.hid (fun (w' : World) (hb : Below W2.heap.size W2 w') => cells7 (w := W) (w' := w') (.int .i64 r.kind) (.int .i64 r.id) (.int .i64 r.size) (.string r.key) (.slice As r.stripes.length Cs) (.slice Ao r.objects.length Co) (.slice Ad r.drives.length Cd) 26 (by rw [hW1, ← hs1]; exact hb2.trans (hb.mono (by omega))))
  have HCB := Lib.hid (fun (w' : World) (hb : Below W2.heap.size W2 w') => cells7 (w := W1) (w' := w') (.int .i64 q.kind) (.int .i64 q.id) (.int .i64 q.size) (.string q.key) (.slice As2 q.stripes.length Cs2) (.slice Ao2 q.objects.length Co2) (.slice Ad2 q.drives.length Cd2) 26 (by rw [hW2, show W1.heap.size + 1 = W2.heap.size by omega]; exact hb))
  rw [hs1] at HCB
  have HBW := Lib.hid hbw
  have HRA := Lib.hid (HVA.out W2 (Below.refl _ _))
  have HRB := Lib.hid (HVB.out W2 (Below.refl _ _))
  have HW2 := Lib.hid (show (W.alloc (.cells #[.int .i64 r.kind, .int .i64 r.id, .int .i64 r.size, .string r.key, .slice As r.stripes.length Cs, .slice Ao r.objects.length Co, .slice Ad r.drives.length Cd] 26)).alloc (.cells #[.int .i64 q.kind, .int .i64 q.id, .int .i64 q.size, .string q.key, .slice As2 q.stripes.length Cs2, .slice Ao2 q.objects.length Co2, .slice Ad2 q.drives.length Cd2] 26) = W2 by rw [hW1]; exact hW2)
  rw [← HW2.out] at HRA
  have hle : W.heap.size ≤ W2.heap.size := by omega
  obtain ⟨k0, k1, k2, k3, k4, k5, k6⟩ := HCA.out W2 (Below.refl _ _)
  rw [← HW2.out] at k0 k1 k2 k3 k4 k5 k6
  clear h g hb1 hb2 hs1 hs2 hbw hW1 hW2
  go_enter Try.func6, Try.ntmps6
  go_wp2_with fail
  refine (refSmall HRA.out).mono ?_
  rintro _ w1 ⟨rfl, hb1⟩
  rw [HW2.out] at hb1
  have HB1 := Lib.hid hb1
  clear k0 k1 k2 k3 k4 k5 k6 hb1
  cases hsm : small r with
  | false =>
    go_wp2_with fail
    refine (answersC I w1).mono ?_
    rintro _ w2 ⟨rfl, hb2⟩
    go_wp2
    go_ret
    exact ⟨rfl, HBW.out.trans ((HB1.out.trans (hb2.mono HB1.out.size)).mono hle)⟩
  | true =>
    obtain ⟨k0, k1, k2, k3, k4, k5, k6⟩ := HCB.out w1 HB1.out
    clear hsm
    go_wp2_with fail
    refine (refSmall (HVB.out w1 HB1.out)).mono ?_
    rintro _ w3 ⟨rfl, hb3⟩
    have HB3 := Lib.hid (below_next HB1.out hb3 (Nat.le_refl _))
    clear k0 k1 k2 k3 k4 k5 k6 hb3
    cases hsm2 : small q with
    | false =>
      go_wp2_with fail
      refine (answersC I w3).mono ?_
      rintro _ w4 ⟨rfl, hb4⟩
      go_wp2
      go_ret
      exact ⟨rfl, HBW.out.trans ((HB3.out.trans (hb4.mono HB3.out.size)).mono hle)⟩
    | true =>
      clear hsm2
      have HD3 := Lib.hid (below_next HB3.out (below_drewN _ w3 1) (Nat.le_refl _))
      obtain ⟨X, hX⟩ : ∃ X, eqB r q = X := ⟨_, rfl⟩
      have HX := Lib.hid hX
      have HSAB := Lib.hid (fun (w' : World) (hb : Below W2.heap.size W2 w') => (I.same w' _ _ r q (HVA.out w' hb) (HVB.out w' hb)))
      have HRAB := Lib.hid (fun (w' : World) (hb : Below W2.heap.size W2 w') => (refSame (HVA.out w' hb) (HVB.out w' hb)))
      have HSAA := Lib.hid (fun (w' : World) (hb : Below W2.heap.size W2 w') => (I.same w' _ _ r r (HVA.out w' hb) (HVA.out w' hb)))
      have HXX := Lib.hid (eqB_yes (α := RecD) (a := r) rfl)
      rw [hX] at HSAB HRAB
      rw [HXX.out] at HSAA
      clear hX
      have hS3 := HCA.out _ HD3.out
      have hT3 := HCB.out _ HD3.out
      go_wp2_with fail
      go_region_held3 (fun w' => Below W2.heap.size W2 w' ∧ (w'.cell? ⟨W.heap.size, 0, none⟩ = some (.int .i64 r.kind) ∧ w'.cell? ⟨W.heap.size, 1, none⟩ = some (.int .i64 r.id) ∧ w'.cell? ⟨W.heap.size, 2, none⟩ = some (.int .i64 r.size) ∧ w'.cell? ⟨W.heap.size, 3, none⟩ = some (.string r.key) ∧ w'.cell? ⟨W.heap.size, 4, none⟩ = some (.slice As r.stripes.length Cs) ∧ w'.cell? ⟨W.heap.size, 5, none⟩ = some (.slice Ao r.objects.length Co) ∧ w'.cell? ⟨W.heap.size, 6, none⟩ = some (.slice Ad r.drives.length Cd)) ∧
          (w'.cell? ⟨W.heap.size + 1, 0, none⟩ = some (.int .i64 q.kind) ∧ w'.cell? ⟨W.heap.size + 1, 1, none⟩ = some (.int .i64 q.id) ∧ w'.cell? ⟨W.heap.size + 1, 2, none⟩ = some (.int .i64 q.size) ∧ w'.cell? ⟨W.heap.size + 1, 3, none⟩ = some (.string q.key) ∧ w'.cell? ⟨W.heap.size + 1, 4, none⟩ = some (.slice As2 q.stripes.length Cs2) ∧ w'.cell? ⟨W.heap.size + 1, 5, none⟩ = some (.slice Ao2 q.objects.length Co2) ∧ w'.cell? ⟨W.heap.size + 1, 6, none⟩ = some (.slice Ad2 q.drives.length Cd2)))
        (first | exact ⟨HD3.out, hS3, hT3⟩ | exact ⟨hb5, HCA.out _ hb5, HCB.out _ hb5⟩ | exact ⟨hb6, HCA.out _ hb6, HCB.out _ hb6⟩ | exact ⟨hb7, HCA.out _ hb7, HCB.out _ hb7⟩ | exact ⟨hb8, HCA.out _ hb8, HCB.out _ hb8⟩)
        (first
          | (go_at_call 9; refine (answersC I _).mono ?_; rintro _ w5 ⟨rfl, hb5'⟩; have hb5 := below_next HD3.out hb5' (Nat.le_refl _); clear hb5')
          | (go_at_call 14; refine (HRAB.out _ hb6).mono ?_; rintro _ w7 ⟨rfl, hb7'⟩; have hb7 := below_next hb6 hb7' (Nat.le_refl _); clear hb7')
          | (go_at_call 15; (with_reducible refine (HSAA.out _ hb7).mono ?_); rintro _ w8 ⟨rfl, hb8'⟩; have hb8 := below_next hb7 hb8' (Nat.le_refl _); clear hb8')
          | (go_at_call 15; (with_reducible refine (HSAB.out _ hb5).mono ?_); rintro _ w6 ⟨rfl, hb6'⟩; have hb6 := below_next hb5 hb6' (Nat.le_refl _); clear hb6'))
      all_goals
        go_wp2
        go_ret
        exact ⟨rfl, HBW.out.trans (hb8.mono hle)⟩
end Go.Proofs.Ytjhlcddmpkalfaa.Rec
