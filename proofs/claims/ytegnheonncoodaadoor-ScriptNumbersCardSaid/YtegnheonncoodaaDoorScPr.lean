/- The program's Print. -/
import Derived.Test.YtegnheonncoodaaDoorScRd
namespace Go.Proofs.YtegnheonncoodaaDoor.Scr
set_option linter.unusedVariables false
open Go.ChangeShapes Go.WideShapes Go.ChangeAt Go.RowKit
open Go.Mem Sc
theorem textOf_snoc (L : List SD) (k : Nat) (h : k < L.length) : textOf (L.take (k + 1)) = textOf (L.take k) ++ lineOf L[k] := by
  unfold textOf
  rw [List.take_succ_eq_append_getElem h, List.flatMap_append, List.flatMap_singleton]
theorem textOf_le (L : List SD) (k : Nat) : (textOf (L.take k)).length ≤ (textOf L).length := by
  conv => rhs; rw [← textOf_take L k]
  rw [List.length_append]; omega
def bld0 : Obj := .cells #[.pointer none, .slice none 0 0] TBld
set_option maxHeartbeats 8000000 in
set_option maxRecDepth 100000 in
theorem printC (L : List SD) (v : Value) (w : World) (hv : Steps w v L) (hs : ∀ i (h : i < L.length), Small L[i]) (ht : (textOf L).length ≤ 100000000) (hT : Tabs w) : Calls Tryd.prog 10 #[v] w fun e w' => e = .returned (.string (str (textOf L))) ∧ Below w.heap.size w w' := by
  obtain ⟨A, C, rfl, hl, hC, _⟩ := hv.shape
  obtain ⟨wa, hwa⟩ : ∃ wa, w.alloc (.cells #[.pointer none, .slice none 0 0] TBld) = wa := ⟨_, rfl⟩
  have hba : Below w.heap.size w wa := by rw [← hwa]; exact (Below.refl _ _).alloc (Nat.le_refl _) _
  have hbl : Bld w.heap.size w.heap.size [] wa := by rw [← hwa]; exact Bld.start w _ (Nat.le_refl _)
  have HV := Lib.hid hv
  have HT := Lib.hid hT
  have HSM := Lib.hid hs
  clear hv hT hs
  go_enter Tryd.func10, Tryd.ntmps10
  go_wp2
  go_loopw [8] (fun i wr => ∃ k : Nat, k ≤ L.length ∧ i = .int .i64 k ∧ Bld w.heap.size w.heap.size (textOf (L.take k)) wr ∧ Below w.heap.size w wr) (fun i _ => L.length - (intOf i).toNat)
  case atStart => exact ⟨0, Nat.zero_le _, rfl, hbl, hba⟩
  case round =>
    obtain ⟨k, hk, rfl, hB, hW⟩ := hrel
    by_cases hlt : k < L.length
    · obtain ⟨b, o, A1, C1, rfl, c0, c1, c2, c3, c4, hby, hok⟩ := (HV.out.below hW).at hlt
      have HSK := Lib.hid (HSM.out k hlt)
      have HTX := Lib.hid (textOf_snoc L k hlt)
      have HLE := Lib.hid (textOf_le L (k + 1))
      generalize L[k] = x at c0 c1 c2 c3 c4 hby hok HSK HTX
      obtain ⟨wb, hwb⟩ : ∃ wb, wr.alloc (.cells #[.int .i64 x.kind, .int .i64 x.a, .string (str x.key), .slice A1 x.data.length C1, .int .u64 (x.keep : Nat)] TStep) = wb := ⟨_, rfl⟩
      have rb : Box5 wb wr.heap.size (.int .i64 x.kind) (.int .i64 x.a) (.string (str x.key)) (.slice A1 x.data.length C1) (.int .u64 (x.keep : Nat)) := by rw [← hwb]; exact Box5.new _ _ _ _ _ _
      have hbr : Below wr.heap.size wr wb := by rw [← hwb]; exact (Below.refl _ _).alloc (Nat.le_refl _) _
      have d0 := rb.c0
      have d1 := rb.c1
      have d2 := rb.c2
      have d3 := rb.c3
      have d4 := rb.c4
      have HBY := Lib.hid (hby.below hbr)
      have HWB := Lib.hid (hW.trans (hbr.mono hW.size))
      have HBLD := Lib.hid (hB.below hbr)
      have HOK := Lib.hid hok
      clear rb hbr hby hB hok hba hbl
      go_wp2_with fail
      refine (writeC x HOK.out HSK.out A1 C1 _ HBY.out (HT.out.below HWB.out)).mono ?_
      rintro e w2 ⟨rfl, hb2⟩
      have HW2 := Lib.hid (HWB.out.trans (hb2.mono HWB.out.size))
      have HB2 := Lib.hid (HBLD.out.below hb2)
      clear hb2
      go_wp2_with fail
      refine (bldStrC w.heap.size w.heap.size (textOf (L.take k)) (lineOf x) _ HB2.out (by rw [← List.length_append, ← HTX.out]; exact Nat.le_trans HLE.out (by omega)) HW2.out.size).mono ?_
      rintro e w3 ⟨rfl, hB3, hb3⟩
      rw [← HTX.out] at hB3
      go_wp2_with fail
      go_roundw
      case rel => exact ⟨k + 1, hlt, by go_num, hB3, HW2.out.trans hb3⟩
      case measure => simp [intOf]; omega
    · obtain rfl : k = L.length := by omega
      rw [List.take_length] at hB
      go_wp2_with (go_at_call 15; refine (bldEndC w.heap.size w.heap.size _ _ hB hW.size).mono ?_; rintro e w2 ⟨rfl, hw2⟩)
      go_ret
      exact ⟨rfl, hW.trans hw2⟩
end Go.Proofs.YtegnheonncoodaaDoor.Scr
