/- Layer 17's laws, as walks. -/
import Derived.Test.YtegbgnjmkohcfaaDoorPlThere
namespace Go.Proofs.YtegbgnjmkohcfaaDoor.Pl
set_option linter.unusedVariables false
open Go.ChangeShapes Go.WideShapes Go.ChangeAt Go.RowKit
open Go.Mem RecM Tbl Rk Rec
theorem one_byte (w : World) (x : Nat) (hx : x < 256) : Bytes (w.alloc (.cells #[.int .u8 x] 5)) (.slice (some ⟨w.heap.size, 0, none⟩) 1 1) [x] := by
  have h := row_of w #[Value.int .u8 (x : Nat)] 5
  refine ⟨_, 1, 1, rfl, rfl, Nat.le_refl _, by unfold maxLen; decide, (fun e => by cases e), fun i hi => ?_⟩
  have hi' : i < 1 := hi
  obtain rfl : i = 0 := by omega
  exact ⟨_, 0, _, rfl, h.cell (i := 0) (by show 0 < 1; omega), rfl, hx⟩
def ones : List Int := [1, 1, 1]
theorem ones_drv : Tb.DrvOk ones := by decide
theorem ones_tgt : tgtOk ones 3 = true := by
  have h : insOf ones = [0, 1, 2] := by decide
  unfold tgtOk
  rw [h]
  decide
theorem off_none {st : List Int} {i t : Nat} (h : tgtOk st 3 = true) (ht : 128 ≤ t) : off st 3 (stp st i t) = false := by
  have e : (stp st i t).locs = tgt (sid i) st 3 := by
    show locs st i t = _
    unfold locs
    rw [if_pos ⟨h, ht⟩]
  unfold off
  rw [e]
  show (tgtOk st 3 && !decide (tgt (sid i) st 3 = tgt (sid i) st 3)) = false
  rw [decide_eq_true rfl, Bool.not_true, Bool.and_false]
theorem sid_nil : sid 0 = 16 := by decide
theorem ones_wrong : wrong ones 3 (stps ones [200] 1) = [] := by
  have h : stps ones [200] 1 = [stp ones 0 200] := rfl
  have h2 : off ones 3 (stp ones 0 200) = false := off_none ones_tgt (by decide)
  rw [h]
  unfold wrong
  rw [List.filter_cons_of_neg (by rw [h2]; decide)]
  rfl
set_option maxRecDepth 100000 in
set_option maxHeartbeats 4000000 in
theorem answersP (w : World) (hT : Hash.Tabs w) :
    Calls Tryd.prog 5 #[] w fun e w' => e = .returned (.bool true) ∧ Below w.heap.size w w' := by
  obtain ⟨wa, hwa⟩ : ∃ wa, w.alloc (.cells #[.int .i64 1, .int .i64 1, .int .i64 1] 3) = wa := ⟨_, rfl⟩
  have hsa : wa.heap.size = w.heap.size + 1 := by rw [← hwa]; simp
  have hba : Below w.heap.size w wa := by rw [← hwa]; exact (Below.refl _ _).alloc (Nat.le_refl _) _
  have hia : Ints wa (.slice (some ⟨w.heap.size, 0, none⟩) 3 3) ones := by rw [← hwa]; exact three_ints w 1 1 1 (by unfold I64; decide) (by unfold I64; decide) (by unfold I64; decide)
  obtain ⟨wb, hwb⟩ : ∃ wb, wa.alloc (.cells #[.int .u8 200] 5) = wb := ⟨_, rfl⟩
  have hbb : Below w.heap.size w wb := by rw [← hwb]; exact hba.alloc hba.size _
  have hib : Ints wb (.slice (some ⟨w.heap.size, 0, none⟩) 3 3) ones := by rw [← hwb]; exact hia.below ((Below.refl _ _).alloc (Nat.le_refl _) _)
  have hyb : Bytes wb (.slice (some ⟨w.heap.size + 1, 0, none⟩) 1 1) [200] := by rw [← hwb, ← hsa]; exact one_byte wa 200 (by decide)
  have HW := Lib.hid (show (w.alloc (.cells #[.int .i64 1, .int .i64 1, .int .i64 1] 3)).alloc (.cells #[.int .u8 200] 5) = wb by rw [hwa, hwb])
  have HB := Lib.hid hbb
  have HI := Lib.hid hib
  have HY := Lib.hid hyb
  have HT := Lib.hid hT
  clear hwa hsa hba hia hwb hbb hib hyb hT
  go_enter Tryd.func5, Tryd.ntmps5
  go_wp2_with fail
  rw [HW.out]
  refine (thereC _ ones [200] _ _ HI.out HY.out (by decide) (by decide)).mono ?_
  rintro _ w1 ⟨F, p, V, k, x, ep, rfl, hp, hf, hv, -, hb, hc⟩
  obtain ⟨rfl, rfl, rfl⟩ : k = 1 ∧ x = ones ∧ ep = 1 := by
    rcases hc with ⟨_, e1, e2, e3⟩ | ⟨e0, _⟩
    · exact ⟨e1, e2, e3⟩
    · exact absurd ones_drv e0
  obtain ⟨A, C, rfl, -, -, -⟩ := hv.shape
  rw [ids_len]
  have HP := Lib.hid hp
  have HB1 := Lib.hid (HB.out.trans (hb.mono HB.out.size))
  clear hp hf hv hb hc
  go_wp2_with fail
  refine (targetYes HP.out (HT.out.below HB1.out) 16 3 (by unfold I64; decide) (by unfold I64; decide) (by rw [← sid_nil]; exact stripe_at (pd_ok HP.out) (i := 0) (by decide))).mono ?_
  rintro _ w2 ⟨u2, rfl, hu2, hb2⟩
  obtain ⟨A2, C2, rfl, -, -, -⟩ := hu2.shape
  rw [show (tgt 16 (tabOf ones [200] 1 ones 1).states 3).length = 3 from tgt_len ones_tgt, show tgtOk (tabOf ones [200] 1 ones 1).states 3 = true from ones_tgt]
  have HB2 := Lib.hid (HB1.out.trans (hb2.mono HB1.out.size))
  have HP2 := Lib.hid (pd_below HP.out hb2)
  clear hu2 hb2
  go_wp2_with fail
  refine (wrongC HP2.out (by unfold Few; decide) (by rw [rowS_of (pd_ok HP2.out), stps_len]; decide) (HT.out.below HB2.out) 3 (by unfold I64; decide)).mono ?_
  rintro _ w3 ⟨u3, rfl, hu3, hb3, -⟩
  rw [rowS_of (pd_ok HP2.out)] at hu3
  have hu3' : Ints w3 u3 [] := by rw [← ones_wrong]; exact hu3
  obtain ⟨A3, C3, rfl, -, -, -⟩ := hu3'.shape
  have HB3 := Lib.hid (HB2.out.trans (hb3.mono HB2.out.size))
  clear hu3 hu3' hb3
  rw [List.length_nil]
  go_wp2
  go_ret
  exact ⟨rfl, HB3.out⟩
end Go.Proofs.YtegbgnjmkohcfaaDoor.Pl
