/- The sum of layer 5, as a walk. -/
import Derived.Test.YtcgjoidfmigpnaaDoorHashEnds
import Derived.Test.YtcgjoidfmigpnaaDoorArr
import Derived.Test.YtcgjoidfmigpnaaDoorShaWeight
import Derived.Deep.RegionLaw
namespace Go.Proofs.YtcgjoidfmigpnaaDoor.Hash
set_option linter.unusedVariables false
open Go.ChangeShapes Go.WideShapes Go.ChangeAt Go.RowKit
open Go.Mem Sha
theorem info1 : (Tryd.prog.info? 52).map (·.size) = some 1 := by kernel_rfl
theorem hArr_one : hArr.all (·.oneCell') = true := by simp [hArr, Value.oneCell']
theorem hArr_info : (Tryd.prog.info? 54).map (·.size) = some hArr.size := by
  have h : (Tryd.prog.info? 54).map (·.size) = some 8 := by kernel_rfl
  exact h
theorem empty_bytes (w : World) (A : Option Addr) : Bytes w (.slice A 0 0) [] := ⟨A, 0, 0, rfl, rfl, Nat.le_refl _, Nat.zero_le _, fun _ => rfl, fun i hi => absurd hi (by simp)⟩
/-- b[n:], whatever b is -/
theorem slice_tail (l : List Nat) (A : Option Addr) (L C W : Nat) (hL : l.length = L) (hW : W ≤ L) (hC : L ≤ C) :
    ∃ A' D, (∀ w, (Instr.slice 42 (.slice A L C) (some (.int .i64 (W : Nat))) none none).run Tryd.prog w = .ok (.slice A' (L - W) D) w) ∧ ∀ w, Bytes w (.slice A L C) l → Bytes w (.slice A' (L - W) D) (l.drop W) := by
  have hsz : ∀ w, (sizeOf 5).run Tryd.prog w = .ok 1 w := fun w => by kernel_rfl
  refine ⟨if C = W then A else A.map (·.add (W * 1)), C - W, fun w => ?_, fun w h => ?_⟩
  · rw [run_slice_l w 42 A L C Tryd.underlying42 .i64 (W : Nat) (by omega) (by omega)]
    rw [show Tryd.prog.elem 42 = 5 from rfl, hsz]
    simp only [Result.andThen, sliced, Int.toNat_natCast]
  · obtain ⟨A1, n1, C1, e1, e2, e3, e4, e5, e6⟩ := h
    cases e1
    refine ⟨_, L - W, C - W, rfl, by rw [List.length_drop]; omega, by omega, by omega, fun hn => ?_, fun i hi => ?_⟩
    · have : A = none := by
        by_cases hc : C = W
        · rw [if_pos hc] at hn; exact hn
        · rw [if_neg hc] at hn; simpa using hn
      have := e5 this
      omega
    · have hi' : W + i < l.length := by rw [List.length_drop] at hi; omega
      obtain ⟨b, o, c, k1, k2, k3⟩ := e6 (W + i) hi'
      refine ⟨b, o + W, c, ?_, by rw [Nat.add_assoc]; exact k2, by rw [List.getElem_drop]; exact k3⟩
      rw [if_neg (by omega), k1, Nat.mul_one]
      unfold Addr.add
      by_cases h0 : W = 0
      · subst h0; rfl
      · simp [h0]
set_option maxRecDepth 100000 in
set_option maxHeartbeats 4000000 in
theorem sumC (l : List Nat) (v : Value) (w : World) (hT : Tabs w) (hl : Bytes w v l) (hn : l.length ≤ 100000) :
    Calls Tryd.prog 23 #[v] w fun e w' => ∃ u, e = .returned u ∧ Bytes w' u (sha l) ∧ Below w.heap.size w w' := by
  obtain ⟨A, C, rfl, h1, h2, h3⟩ := hl.shape
  obtain ⟨L, hL⟩ : ∃ L, l.length = L := ⟨_, rfl⟩
  obtain ⟨q, hq⟩ : ∃ q, q = L / 64 := ⟨_, rfl⟩
  obtain ⟨R, hR⟩ : ∃ R, R = L % 64 := ⟨_, rfl⟩
  obtain ⟨e, he, hE, hsha⟩ := sha_parts (l := l) (q := q) (R := R) (by omega) hn (by omega)
  have HEND := Lib.hid (show endOf l q = l.drop (64 * q) ++ [128] ++ List.replicate (zerosOf (l.drop (64 * q)).length) 0 ++ numB (L * 8) 8 by unfold endOf; rw [hL])
  have htl : (l.take (64 * q)).length = 64 * q := by rw [List.length_take]; omega
  obtain ⟨E, hEe⟩ : ∃ E, endOf l q = E := ⟨_, rfl⟩
  rw [hEe] at hE hsha HEND
  have hok1 := blocksFrom_ok (M := l.take (64 * q)) begun_ok q
  obtain ⟨S1, hS1⟩ : ∃ S, blocksFrom (l.take (64 * q)) Sha.begun q = S := ⟨_, rfl⟩
  rw [hS1] at hsha hok1
  have hokF := blocksFrom_ok (M := E) hok1 e
  obtain ⟨F, hF⟩ : ∃ S, blocksFrom E S1 e = S := ⟨_, rfl⟩
  rw [hF] at hsha hokF
  obtain ⟨W, hW⟩ : ∃ W, W = 64 * q := ⟨_, rfl⟩
  rw [← hW] at htl hS1 HEND
  rw [hL] at h1 hl ⊢
  have HSHA := Lib.hid hsha
  have HE := Lib.hid hE
  have HS1 := Lib.hid hS1
  have HF := Lib.hid hF
  have HTL := Lib.hid htl
  have HWQ := Lib.hid hW
  have HV := Lib.hid hl
  have HT := Lib.hid hT
  have HLL := Lib.hid hL
  have HOK1 := Lib.hid hok1
  have HOKF := Lib.hid hokF
  have hL5 : L ≤ 100000 := by omega
  have e1 : (L : Int) % 64 = (R : Nat) := by omega
  have e2 : (L : Int) - (R : Int) = (W : Nat) := by omega
  have hWL : W ≤ L := by omega
  have hq5 : q ≤ 10000 := by omega
  have HI8 := Lib.hid hArr_info
  have HLR := Lib.hid (show L = W + R by omega)
  clear hL hq hR hsha hEe hS1 hok1 hF hokF hW hl hT htl hE hn
  go_enter Tryd.func23, Tryd.ntmps23
  go_upto_region 2 with (refine wpList_store_rowTo rfl 54 (.tmp 3) (.tmp 8) rfl rfl w.heap.size hArr rfl rfl 54 z8 (heap_alloc_new _ _) HI8.out rfl hArr_one ?_)
  generalize hw2 : (w.alloc (.cells #[.int .u32 0, .int .u32 0, .int .u32 0, .int .u32 0, .int .u32 0, .int .u32 0, .int .u32 0, .int .u32 0] 54)).setRow w.heap.size hArr = w2
  have HB2 := Lib.hid (show Below w.heap.size w w2 by rw [← hw2]; exact below_setRow ((Below.refl _ _).alloc (Nat.le_refl _) _) (Nat.le_refl _) _)
  have HS2 := Lib.hid (show Words w2 w.heap.size 54 8 (Sha.St.get Sha.begun) by rw [← hw2]; exact Words.of_block (setRow_heap _ _ z8 _ _ _ (heap_alloc_new _ _)) rfl (fun i hi => hArr_get hi))
  clear hw2
  go_upto_region 3 with (fail)
  clear e1 e2
  obtain ⟨S0, hS0⟩ : ∃ S, Sha.begun = S := ⟨_, rfl⟩
  have hok0 : S0.ok := hS0 ▸ begun_ok
  rw [hS0] at HS1 HS2
  clear hS0
  obtain ⟨a, b', c, d, e', f, g, g8⟩ := S0
  have HOK0 := Lib.hid hok0
  have c0 : w2.cell? ⟨w.heap.size, 0, none⟩ = some (.int .u32 (a : Nat)) := HS2.out.cell (i := 0) (by omega)
  have c1 : w2.cell? ⟨w.heap.size, 1, none⟩ = some (.int .u32 (b' : Nat)) := HS2.out.cell (i := 1) (by omega)
  have c2 : w2.cell? ⟨w.heap.size, 2, none⟩ = some (.int .u32 (c : Nat)) := HS2.out.cell (i := 2) (by omega)
  have c3 : w2.cell? ⟨w.heap.size, 3, none⟩ = some (.int .u32 (d : Nat)) := HS2.out.cell (i := 3) (by omega)
  have c4 : w2.cell? ⟨w.heap.size, 4, none⟩ = some (.int .u32 (e' : Nat)) := HS2.out.cell (i := 4) (by omega)
  have c5 : w2.cell? ⟨w.heap.size, 5, none⟩ = some (.int .u32 (f : Nat)) := HS2.out.cell (i := 5) (by omega)
  have c6 : w2.cell? ⟨w.heap.size, 6, none⟩ = some (.int .u32 (g : Nat)) := HS2.out.cell (i := 6) (by omega)
  have c7 : w2.cell? ⟨w.heap.size, 7, none⟩ = some (.int .u32 (g8 : Nat)) := HS2.out.cell (i := 7) (by omega)
  have q1 : (W : Int) ≤ (C : Int) := by omega
  have q5 : W ≤ C := by omega
  clear hok0
  go_still_tail 4, (by kernel_rfl)
  change wpList _ _ _ _ _ w2.drew
  have HDR := Lib.hid (show Below w2.heap.size w2 w2.drew from (Below.refl _ _).drew)
  clear c0 c1 c2 c3 c4 c5 c6 c7
  go_wp2_with fail
  have HV2 := Lib.hid ((HV.out.below HB2.out).below HDR.out)
  have HT2 := Lib.hid ((HT.out.below HB2.out).below HDR.out)
  refine (stirredC ⟨a, b', c, d, e', f, g, g8⟩ HOK0.out (l.take W) _ w2.drew q (HV2.out.take (by rw [HLL.out]; omega)) (by rw [HTL.out, HWQ.out]) hq5 HT2.out).mono ?_
  rintro _ w3 ⟨rfl, hb3⟩
  rw [HS1.out]
  have HB3 := Lib.hid (HB2.out.trans ((HDR.out.mono HB2.out.size).trans (hb3.mono HB2.out.size)))
  have HST3 := Lib.hid (words_st ((HS2.out.below HDR.out).below hb3))
  have HI81 := Lib.hid (info8 S1)
  clear hb3
  go_upto_region 4 with (refine wpList_store_rowTo rfl 54 (.tmp 3) (.tmp 19) rfl rfl w.heap.size (stArr S1) rfl rfl 54 (stArr ⟨a, b', c, d, e', f, g, g8⟩) HST3.out HI81.out (size_st _ _) (stArr_one _) ?_)
  generalize hw4 : w3.setRow w.heap.size (stArr S1) = w4
  have HB4 := Lib.hid (show Below w.heap.size w w4 by rw [← hw4]; exact below_setRow HB3.out (Nat.le_refl _) _)
  have HS4 := Lib.hid (show Words w4 w.heap.size 54 8 (Sha.St.get S1) by rw [← hw4]; exact st_words (setRow_heap _ _ _ _ _ _ HST3.out))
  clear hw4 HST3 HB3 HDR HV2 HT2
  go_cut [20] from 20 (fun _ wx => Words wx w.heap.size 54 8 (Sha.St.get F) ∧ Below w.heap.size w wx)
  case first =>
    obtain ⟨A1, D1, hsl, hby⟩ := slice_tail l A L C W HLL.out hWL h1
    have HVX := Lib.hid (show ∀ w', Below w4.heap.size w4 w' → Bytes w' (.slice A1 (L - W) D1) (l.drop W) from fun w' hb => (hby w4 (HV.out.below HB4.out)).below hb)
    have HD1 := Lib.hid (show (l.drop W).length ≤ 100000 by rw [List.length_drop, HLL.out]; omega)
    have HT4 := Lib.hid (HT.out.below HB4.out)
    have HZ4 := Lib.hid (show w.heap.size < w4.heap.size from HS4.out.lt)
    obtain ⟨a, b', c, d, e', f, g, g8⟩ := S1
    obtain ⟨f0, f1, f2, f3, f4, f5, f6, f7⟩ := F
    have c0 : w4.cell? ⟨w.heap.size, 0, none⟩ = some (.int .u32 (a : Nat)) := HS4.out.cell (i := 0) (by omega)
    have c1 : w4.cell? ⟨w.heap.size, 1, none⟩ = some (.int .u32 (b' : Nat)) := HS4.out.cell (i := 1) (by omega)
    have c2 : w4.cell? ⟨w.heap.size, 2, none⟩ = some (.int .u32 (c : Nat)) := HS4.out.cell (i := 2) (by omega)
    have c3 : w4.cell? ⟨w.heap.size, 3, none⟩ = some (.int .u32 (d : Nat)) := HS4.out.cell (i := 3) (by omega)
    have c4 : w4.cell? ⟨w.heap.size, 4, none⟩ = some (.int .u32 (e' : Nat)) := HS4.out.cell (i := 4) (by omega)
    have c5 : w4.cell? ⟨w.heap.size, 5, none⟩ = some (.int .u32 (f : Nat)) := HS4.out.cell (i := 5) (by omega)
    have c6 : w4.cell? ⟨w.heap.size, 6, none⟩ = some (.int .u32 (g : Nat)) := HS4.out.cell (i := 6) (by omega)
    have c7 : w4.cell? ⟨w.heap.size, 7, none⟩ = some (.int .u32 (g8 : Nat)) := HS4.out.cell (i := 7) (by omega)
    clear hby
    go_region_law (first
      | (go_simp; go_at_call 31; refine (endingC (l.drop W) _ L _ (HVX.out _ (Below.refl _ _).drew) HD1.out hL5).mono ?_; rintro _ w6 ⟨u6, rfl, hu6, hb6⟩; have hb46 := (show Below w4.heap.size w4 w6 from ((Below.refl _ _).drew).trans hb6); have hm6 := Lib.hid (show Bytes w6 u6 E by rw [HEND.out]; exact hu6.slice); have hs6 := HS4.out.below hb46; have d0 : w6.cell? ⟨w.heap.size, 0, none⟩ = some (.int .u32 (a : Nat)) := hs6.cell (i := 0) (by omega); have d1 : w6.cell? ⟨w.heap.size, 1, none⟩ = some (.int .u32 (b' : Nat)) := hs6.cell (i := 1) (by omega); have d2 : w6.cell? ⟨w.heap.size, 2, none⟩ = some (.int .u32 (c : Nat)) := hs6.cell (i := 2) (by omega); have d3 : w6.cell? ⟨w.heap.size, 3, none⟩ = some (.int .u32 (d : Nat)) := hs6.cell (i := 3) (by omega); have d4 : w6.cell? ⟨w.heap.size, 4, none⟩ = some (.int .u32 (e' : Nat)) := hs6.cell (i := 4) (by omega); have d5 : w6.cell? ⟨w.heap.size, 5, none⟩ = some (.int .u32 (f : Nat)) := hs6.cell (i := 5) (by omega); have d6 : w6.cell? ⟨w.heap.size, 6, none⟩ = some (.int .u32 (g : Nat)) := hs6.cell (i := 6) (by omega); have d7 : w6.cell? ⟨w.heap.size, 7, none⟩ = some (.int .u32 (g8 : Nat)) := hs6.cell (i := 7) (by omega); have HS6 := Lib.hid hs6; have HB46 := Lib.hid hb46; clear hs6 hb46 hu6 hb6)
      | (go_simp; go_at_call 30; refine (stirredC ⟨a, b', c, d, e', f, g, g8⟩ HOK1.out E _ _ e hm6.out HE.out he (HT4.out.below HB46.out)).mono ?_; rintro _ w7 ⟨rfl, hb7⟩; rw [HF.out]; have hs7 := HS6.out.below hb7; have y0 : w7.cell? ⟨w.heap.size, 0, none⟩ = some (.int .u32 (a : Nat)) := hs7.cell (i := 0) (by omega); have y1 : w7.cell? ⟨w.heap.size, 1, none⟩ = some (.int .u32 (b' : Nat)) := hs7.cell (i := 1) (by omega); have y2 : w7.cell? ⟨w.heap.size, 2, none⟩ = some (.int .u32 (c : Nat)) := hs7.cell (i := 2) (by omega); have y3 : w7.cell? ⟨w.heap.size, 3, none⟩ = some (.int .u32 (d : Nat)) := hs7.cell (i := 3) (by omega); have y4 : w7.cell? ⟨w.heap.size, 4, none⟩ = some (.int .u32 (e' : Nat)) := hs7.cell (i := 4) (by omega); have y5 : w7.cell? ⟨w.heap.size, 5, none⟩ = some (.int .u32 (f : Nat)) := hs7.cell (i := 5) (by omega); have y6 : w7.cell? ⟨w.heap.size, 6, none⟩ = some (.int .u32 (g : Nat)) := hs7.cell (i := 6) (by omega); have y7 : w7.cell? ⟨w.heap.size, 7, none⟩ = some (.int .u32 (g8 : Nat)) := hs7.cell (i := 7) (by omega); have z0 : w7.frozen? ⟨w.heap.size, 0, none⟩ = false := hs7.free 0; have z1 : w7.frozen? ⟨w.heap.size, 1, none⟩ = false := hs7.free 1; have z2 : w7.frozen? ⟨w.heap.size, 2, none⟩ = false := hs7.free 2; have z3 : w7.frozen? ⟨w.heap.size, 3, none⟩ = false := hs7.free 3; have z4 : w7.frozen? ⟨w.heap.size, 4, none⟩ = false := hs7.free 4; have z5 : w7.frozen? ⟨w.heap.size, 5, none⟩ = false := hs7.free 5; have z6 : w7.frozen? ⟨w.heap.size, 6, none⟩ = false := hs7.free 6; have z7 : w7.frozen? ⟨w.heap.size, 7, none⟩ = false := hs7.free 7; have HS7 := Lib.hid hs7; have HB7 := Lib.hid (HB46.out.trans (hb7.mono HB46.out.size)); clear hs7 hb7; unfold stArr; dsimp only))
    all_goals
      go_wp2_with fail
      go_meet
      exact ⟨eight_words HS7.out rfl, eight_below (HB4.out.trans (HB7.out.mono HB4.out.size)) (Nat.le_refl _)⟩
  case rest =>
    obtain ⟨hws, hbr⟩ := hcut
    have HBR := Lib.hid hbr
    have HAR := Lib.hid (words_st hws)
    have HI8b := Lib.hid (info8 F)
    clear hws hbr
    obtain ⟨wo, hwo⟩ : ∃ wo : World, wo = wc := ⟨_, rfl⟩
    subst hwo
    go_wp2_with (refine wpList_load_row rfl 54 (.tmp 3) rfl w.heap.size rfl 54 (stArr F) (0, 0) _ HAR.out Tryd.underlying54 rfl HI8b.out ?_)
    go_loopw [5, 29] (fun v c wx => ∃ j : Nat, j ≤ 8 ∧ c = .int .i64 j ∧ Built ByteR wx wo.heap.size 5 v (outB F j) ∧ Below wo.heap.size wo wx) (fun _ c _ => 8 - (intOf c).toNat)
    case atStart => exact ⟨0, Nat.zero_le _, rfl, Built.start _ _ _, Below.refl _ _⟩
    case round =>
      obtain ⟨j, hj, rfl, hbu, hbx⟩ := hrel
      by_cases hlj : j < 8
      · have hidx := fun w => run_index_arr (P := Tryd.prog) 54 52 8 .u32 (stArr F) .i64 j _ Tryd.underlying54 Tryd.underlying52 info1 hlj (stArr_get F hlj) w
        have hxl := get_lt HOKF.out j
        have HO := Lib.hid (show outB F (j + 1) = outB F j ++ numB (Sha.St.get F j) 4 from rfl)
        obtain ⟨x, hx⟩ : ∃ x, Sha.St.get F j = x := ⟨_, rfl⟩
        rw [hx] at hidx hxl HO
        obtain ⟨A5, C5, rfl, hc1, hc2⟩ := hbu.len
        have hal4 : Below wr.heap.size wr (wr.alloc (.cells ((numB x 4).map fun y : Nat => Value.int .u8 y).toArray 5)) := (Below.refl _ _).alloc (Nat.le_refl _) _
        have hsrc := const_bytes wr 5 (0, 0) (numB x 4) (by rw [numB_len]; omega) numB_bd
        obtain ⟨v7, w7, hr7, hbu7, _, hb7⟩ := run_append_list (P := Tryd.prog) byteR_world byteR_one (wr.alloc (.cells ((numB x 4).map fun y : Nat => Value.int .u8 y).toArray 5)) wo.heap.size 42 42 5 (.int .u8 0) 1 Tryd.underlying42 infoByte rfl _ _ (hbu.below hal4) _ _ _ _ hsrc (by rw [outB_len, numB_len]; omega) (Nat.le_trans hbx.size hal4.size)
        rw [← HO.out] at hbu7
        rw [outB_len] at hr7 ⊢
        rw [numB_len, show ((numB x 4).map fun y : Nat => Value.int .u8 y).toArray = #[.int .u8 ((x : Int) / 16777216), .int .u8 ((x : Int) / 65536 % 256), .int .u8 ((x : Int) / 256 % 256), .int .u8 ((x : Int) % 256)] by rw [numB4, show x / 16777216 % 256 = x / 16777216 by omega]; simp] at hr7
        have HR7 := Lib.hid hr7
        have HM7 := Lib.hid hbu7
        have HB7 := Lib.hid (hbx.trans ((hal4.mono hbx.size).trans hb7))
        clear hr7 hbu7 hb7 hal4 hsrc hbu hbx hx
        go_wp2_with (at_builtin; refine Lib.wpList_append_run _ rfl (.tmp 32) (.tmp 44) _ _ rfl _ _ rfl rfl _ _ HR7.out ?_)
        go_roundw
        case rel => exact ⟨j + 1, by omega, by go_num, HM7.out, HB7.out⟩
        case measure => simp [intOf]; omega
      · obtain rfl : j = 8 := by omega
        have HVV := Lib.hid (show Bytes wr _ (sha l) from HSHA.out ▸ hbu.slice)
        have HB := Lib.hid (HBR.out.trans (hbx.mono HBR.out.size))
        clear hbu hbx
        go_wp2_with fail
        go_ret
        exact ⟨_, rfl, HVV.out, HB.out⟩
end Go.Proofs.YtcgjoidfmigpnaaDoor.Hash
