/- A text that lacks its last end is told at its last line. -/
import Derived.Test.YtegnheonncoodaaDoorScLw
namespace Go.Proofs.YtegnheonncoodaaDoor.Scr
set_option linter.unusedVariables false
open Go.ChangeShapes Go.WideShapes Go.ChangeAt Go.RowKit
open Go.Mem Sc
theorem textOf_pos {L : List SD} (h : L ≠ []) : 1 ≤ (textOf L).length := by
  cases L with
  | nil => exact absurd rfl h
  | cons x r =>
    unfold textOf
    rw [List.flatMap_cons, List.length_append, lineOf_body]
    simp
    omega
theorem ends_bad {L : List SD} (h : L ≠ []) (ho : ∀ x ∈ L, x.Ok) : parseL [] (lines ((textOf L).take ((textOf L).length - 1))) = .bad L.length := by
  have e := List.dropLast_concat_getLast h
  have := bad_end (A := L.dropLast) (x := L.getLast h) (fun y hy => ho y (List.dropLast_subset _ hy))
  rw [e] at this
  rw [this, List.length_dropLast]
  have : L.length ≠ 0 := fun q => h (List.length_eq_zero_iff.1 q)
  congr 1; omega
set_option maxHeartbeats 8000000 in
set_option maxRecDepth 100000 in
theorem endsC (L : List SD) (v : Value) (w : World) (hv : Steps w v L) (hz : SizedL L) (hT : Tabs w) : Calls Tryd.prog 6 #[v] w fun e w' => e = .returned (.bool true) ∧ Below w.heap.size w w' := by
  obtain ⟨A, C, rfl, hl, hC, _⟩ := hv.shape
  have HT := Lib.hid hT
  have HV := Lib.hid hv
  have HZ := Lib.hid hz
  clear hT hv hz
  go_enter Tryd.func6, Tryd.ntmps6
  go_wp2_with fail
  refine (smallC L _ _ HV.out HZ.out).mono ?_
  rintro e w1 ⟨⟨b, rfl, hb, _⟩, n, hw1⟩
  have HB1 : Hid (Below w.heap.size w w1) := by rw [hw1]; exact below_drewN _ _ _
  clear hw1
  have hans : ∀ W, Below w.heap.size w W → Calls Tryd.prog 9 #[] W fun e w' => e = .returned (.bool true) ∧ Below w.heap.size w w' := fun W hb => (answersC _ (HT.out.below hb)).mono fun e w' h => ⟨h.1, below_then hb h.2⟩
  have HA := Lib.hid hans
  clear hans
  cases b with
  | false =>
    clear hb
    go_wp2_with fail
    refine (HA.out _ HB1.out).mono ?_
    rintro e w2 ⟨rfl, hb2⟩
    go_wp2
    go_ret
    exact ⟨rfl, hb2⟩
  | true =>
    have HS := Lib.hid (hb rfl)
    have HLE := Lib.hid (HS.out.text HV.out)
    clear hb
    by_cases h0 : L = []
    · subst h0
      have hd0 : decide ((([] : List SD).length : Int) = 0) = true := by decide
      go_wp2_with fail
      refine (HA.out _ HB1.out).mono ?_
      rintro e w2 ⟨rfl, hb2⟩
      go_wp2
      go_ret
      exact ⟨rfl, hb2⟩
    · have hne : L.length ≠ 0 := fun q => h0 (List.length_eq_zero_iff.1 q)
      have hd0 : ((L.length : Int) == 0) = false := by rw [beq_eq_false_iff_ne]; omega
      have HN := Lib.hid h0
      clear h0 hne
      go_wp2_with fail
      refine (textC L _ _ (HV.out.below HB1.out) HS.out.small (Nat.le_trans HLE.out (by omega))).mono ?_
      rintro e w2 ⟨rfl, hb2⟩
      have HB2 := Lib.hid (below_then HB1.out hb2)
      clear hb2
      have HBAD := Lib.hid (ends_bad HN.out HV.out.ok)
      have hp1 := textOf_pos HN.out
      have hle := HLE.out
      have hsz : (str (textOf L)).size = (textOf L).length := str_size _
      have hw : IntKind.i64.wrap (((textOf L).length : Int) - 1) = ((textOf L).length : Int) - 1 := IntWalk.i64_in _ (by omega)
      have q1 : (0 : Int) ≤ ((textOf L).length : Int) - 1 := by omega
      have q2 : (((textOf L).length : Int) - 1).toNat = (textOf L).length - 1 := by omega
      have q3 : ((textOf L).length : Int) - 1 ≤ ((textOf L).length : Int) := by omega
      have s1 : (str (textOf L)).extract 0 ((textOf L).length - 1) = str ((textOf L).take ((textOf L).length - 1)) := str_eq (by rw [Lib.extract_data, List.drop_zero, Nat.sub_zero]; rfl)
      generalize textOf L = t at HBAD hp1 hle hsz hw q1 q2 q3 s1
      have hlt : (t.take (t.length - 1)).length ≤ 1000000 := by rw [List.length_take]; omega
      go_wp2_with fail
      refine (parseC _ hlt _ (HT.out.below HB2.out)).mono ?_
      intro e w3 hp
      obtain ⟨rfl, hb3⟩ := parse_no hp HBAD.out
      have HB3 := Lib.hid (below_then HB2.out hb3)
      clear hp hb3 s1 hw q1 q2 q3
      go_wp2_with fail
      refine (HA.out _ HB3.out).mono ?_
      rintro e w4 ⟨rfl, hb4⟩
      go_wp2
      go_ret
      exact ⟨by simp, hb4⟩
end Go.Proofs.YtegnheonncoodaaDoor.Scr
