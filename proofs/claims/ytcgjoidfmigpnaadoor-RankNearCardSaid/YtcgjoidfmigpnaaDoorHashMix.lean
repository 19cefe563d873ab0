/- A block stirred into a state, as a walk. -/
import Derived.Test.YtcgjoidfmigpnaaDoorHashSch
namespace Go.Proofs.YtcgjoidfmigpnaaDoor.Hash
set_option linter.unusedVariables false
open Go.ChangeShapes Go.WideShapes Go.ChangeAt Go.RowKit
open Go.Mem Sha
/-- package hash's table, in memory -/
def Tabs (w : World) : Prop := ∃ t fr, w.heap[0]? = some (.cells kArr t fr)
theorem Tabs.below {w w' : World} (h : Tabs w) (hb : Below w.heap.size w w') : Tabs w' := by
  obtain ⟨t, fr, h⟩ := h
  exact ⟨t, fr, (hb.block 0 (Array.getElem?_eq_some_iff.1 h).1).trans h⟩
theorem Tabs.cell {w : World} (h : Tabs w) {i : Nat} (hi : i < 64) : w.cell? ⟨0, i, none⟩ = some (.int .u32 (kF i : Nat)) := by
  obtain ⟨t, fr, h⟩ := h
  rw [cell_of_row _ _ _ _ _ _ h, kArr_get hi]
theorem block_zero (M : List Nat) (s : St) : Sha.block M 0 s = addSt s (rnds (fun j => word M (0 + 4 * j)) s 64) := rfl
theorem addSt_comm (s t : St) : addSt s t = addSt t s := by unfold addSt; simp [Nat.add_comm]
theorem size_st (s t : St) : (stArr s).size = (stArr t).size := rfl
/-- what is there behind the words: the state that was handed in, the result, the words, the table -/
structure Mix (w wr : World) (B : Nat) (m : Nat → Nat) (s : St) : Prop where
  two : Two w wr s
  words : Words wr B 53 64 (wF m 64)
  tab : Tabs wr
theorem Mix.go {w wr wx : World} {B : Nat} {m : Nat → Nat} {s : St} (h : Mix w wr B m s) (hb : Below wr.heap.size wr wx) : Mix w wx B m s :=
  ⟨h.two.go hb, h.words.below hb, h.tab.below hb⟩
theorem Mix.start {w wr : World} {m : Nat → Nat} {s : St} (h : Two w wr s) (ht : Tabs wr) : Mix w ((wr.alloc (.cells z64 53)).setRow wr.heap.size (wArr m)) wr.heap.size m s := by
  have hb : Below wr.heap.size wr ((wr.alloc (.cells z64 53)).setRow wr.heap.size (wArr m)) := below_setRow ((Below.refl _ _).alloc (Nat.le_refl _) _) (Nat.le_refl _) _
  exact ⟨h.go hb, Words.of_block (setRow_heap _ _ z64 _ _ _ (heap_alloc_new _ _)) (wArr_size m) (fun i hi => by simp [wArr, hi]), ht.below hb⟩
set_option maxRecDepth 100000 in
set_option maxHeartbeats 4000000 in
theorem mixedC (s : St) (hok : s.ok) (M : List Nat) (v : Value) (w : World) (hM : Bytes w v M) (h64 : M.length = 64) (hT : Tabs w) :
    Calls Tryd.prog 44 #[.agg (stArr s), v] w fun e w' => e = .returned (.agg (stArr (Sha.block M 0 s))) ∧ Below w.heap.size w w' := by
  have HM := Lib.hid hM
  have H64 := Lib.hid h64
  have HT := Lib.hid hT
  have HMB := Lib.hid (show ∀ x ∈ M, x < 256 from fun x hx => by
    obtain ⟨i, hi, rfl⟩ := List.getElem_of_mem hx
    obtain ⟨A, C, rfl, _, _, _⟩ := hM.shape
    obtain ⟨_, _, _, _, h⟩ := hM.at hi
    exact h)
  have hst := Two.start w s
  have hz := z64_run
  have hne := z64_ne
  obtain ⟨m, hm⟩ : ∃ m : Nat → Nat, m = fun j => word M (0 + 4 * j) := ⟨_, rfl⟩
  have HMM := Lib.hid hm
  have HML := Lib.hid (show ∀ j, m j < 4294967296 from fun j => by rw [hm]; exact word_lt HMB.out _)
  clear hM h64 hT hm
  go_enter Tryd.func44, Tryd.ntmps44
  go_upto_region 1 with (fail)
  generalize hw3 : ((w.alloc (.cells (stArr s) 54)).alloc (.cells #[.int .u32 0, .int .u32 0, .int .u32 0, .int .u32 0, .int .u32 0, .int .u32 0, .int .u32 0, .int .u32 0] 54)) = w3
  have HS := Lib.hid (show Two w w3 s by rw [← hw3]; exact hst)
  clear hst hw3
  have HT3 := Lib.hid (HT.out.below HS.out.bel)
  go_wp2_with fail
  refine (scheduleC M _ w3 (HM.out.below HS.out.bel) H64.out).mono ?_
  rintro _ w4 ⟨rfl, hb4⟩
  rw [← HMM.out]
  have HX := Lib.hid (Mix.start (m := m) (HS.out.go hb4) (HT3.out.below hb4))
  have HI := Lib.hid (wArr_info m)
  have HZ := Lib.hid (show z64.size = (wArr m).size by rw [z64_size, wArr_size])
  clear hb4
  go_upto_region 2 with (refine wpList_store_rowTo rfl 53 (.tmp 5) (.tmp 10) rfl rfl w4.heap.size (wArr m) rfl rfl 53 z64 (heap_alloc_new _ _) HI.out HZ.out (wArr_one m) ?_)
  generalize hw5 : (w4.alloc (.cells z64 53)).setRow w4.heap.size (wArr m) = wo
  have HMEM := Lib.hid (show Mix w wo w4.heap.size m s by rw [← hw5]; exact HX.out)
  clear hw5 hz hne
  have HA := Lib.hid (words_st HMEM.out.two.old)
  have HI8 := Lib.hid (info8 s)
  obtain ⟨B, hB⟩ : ∃ B, w4.heap.size = B := ⟨_, rfl⟩
  rw [hB] at HMEM ⊢
  clear hB
  go_upto_region 3 with (first
    | (refine wpList_load_row rfl 54 (.tmp 2) rfl w.heap.size rfl 54 (stArr s) (0, 0) _ HA.out Tryd.underlying54 rfl HI8.out ?_)
    | (refine wpList_store_rowTo rfl 54 (.tmp 6) (.tmp 11) rfl rfl wo.heap.size (stArr s) rfl rfl 54 z8 (heap_alloc_new _ _) HI8.out rfl (stArr_one s) ?_))
  generalize hwi : (wo.alloc (.cells #[.int .u32 0, .int .u32 0, .int .u32 0, .int .u32 0, .int .u32 0, .int .u32 0, .int .u32 0, .int .u32 0] 54)).setRow wo.heap.size (stArr s) = wi
  have HBI := Lib.hid (show Below wo.heap.size wo wi by rw [← hwi]; exact below_setRow ((Below.refl _ _).alloc (Nat.le_refl _) _) (Nat.le_refl _) _)
  have HSI := Lib.hid (show Words wi wo.heap.size 54 8 (Sha.St.get (rnds m s 0)) by rw [← hwi]; exact st_words (setRow_heap _ _ z8 _ _ _ (heap_alloc_new _ _)))
  clear hwi
  go_wp2_with fail
  go_loopw [12] (fun c wx => ∃ j : Nat, j ≤ 64 ∧ c = .int .i64 j ∧ Words wx wo.heap.size 54 8 (Sha.St.get (rnds m s j)) ∧ Below wo.heap.size wo wx) (fun c _ => 64 - (intOf c).toNat)
  case atStart => exact ⟨0, Nat.zero_le _, rfl, HSI.out, HBI.out⟩
  case round =>
    obtain ⟨j, hj, rfl, hws, hbj⟩ := hrel
    by_cases hlj : j < 64
    · have HMJ := Lib.hid (HMEM.out.go hbj)
      have hcw := HMJ.out.words.cell (i := j) hlj
      rw [show 64 = j + 1 + (63 - j) by omega, wF_stays] at hcw
      have hck := HMJ.out.tab.cell (i := j) hlj
      obtain ⟨R, hR⟩ : ∃ R, rnds m s j = R := ⟨_, rfl⟩
      have hokR : R.ok := hR ▸ rnds_ok hok j
      rw [hR] at hws
      have HRE := Lib.hid (show rnds m s (j + 1) = rnd 0 ((kF j + wF m (j + 1) j) % 4294967296) R by rw [rnds, hR, rnd_word]; rfl)
      have hkl := kF_lt j
      have hwl := wF_lt HML.out (j + 1) j
      obtain ⟨kk, hkk⟩ : ∃ x, kF j = x := ⟨_, rfl⟩
      obtain ⟨ww, hwwe⟩ : ∃ x, wF m (j + 1) j = x := ⟨_, rfl⟩
      rw [hkk] at HRE hck hkl
      rw [hwwe] at HRE hcw hwl
      obtain ⟨u, hu⟩ : ∃ u : Nat, u = kk + ww := ⟨_, rfl⟩
      obtain ⟨z, hze⟩ : ∃ z : Nat, z = u % 4294967296 := ⟨_, rfl⟩
      rw [← hu, ← hze] at HRE
      have HZL := Lib.hid (show z < 4294967296 by rw [hze]; exact Nat.mod_lt _ (by omega))
      have f1 : (kk : Int) + (ww : Int) = (u : Int) := by omega
      have f2 : IntKind.u32.wrap (u : Int) = (z : Int) := by rw [IntKind.wrap_u32']; omega
      have f3 : (u : Int) % 4294967296 = (z : Int) := by omega
      obtain ⟨a, b, c, d, e, f, g, g8⟩ := R
      have HOKR := Lib.hid hokR
      have c0 : wr.cell? ⟨wo.heap.size, 0, none⟩ = some (.int .u32 (a : Nat)) := hws.cell (i := 0) (by omega)
      have c1 : wr.cell? ⟨wo.heap.size, 1, none⟩ = some (.int .u32 (b : Nat)) := hws.cell (i := 1) (by omega)
      have c2 : wr.cell? ⟨wo.heap.size, 2, none⟩ = some (.int .u32 (c : Nat)) := hws.cell (i := 2) (by omega)
      have c3 : wr.cell? ⟨wo.heap.size, 3, none⟩ = some (.int .u32 (d : Nat)) := hws.cell (i := 3) (by omega)
      have c4 : wr.cell? ⟨wo.heap.size, 4, none⟩ = some (.int .u32 (e : Nat)) := hws.cell (i := 4) (by omega)
      have c5 : wr.cell? ⟨wo.heap.size, 5, none⟩ = some (.int .u32 (f : Nat)) := hws.cell (i := 5) (by omega)
      have c6 : wr.cell? ⟨wo.heap.size, 6, none⟩ = some (.int .u32 (g : Nat)) := hws.cell (i := 6) (by omega)
      have c7 : wr.cell? ⟨wo.heap.size, 7, none⟩ = some (.int .u32 (g8 : Nat)) := hws.cell (i := 7) (by omega)
      have l0 : (j : Int) < 64 := by omega
      have HWS := Lib.hid hws
      have HBJ := Lib.hid hbj
      clear hws hbj hkk hwwe hR hu hze hokR hkl hwl
      go_upto_region 6 with (fail)
      go_still_tail 8, (by kernel_rfl)
      change wpList _ _ _ _ _ wr.drew
      have HDR := Lib.hid (show Below wr.heap.size wr wr.drew from (Below.refl _ _).drew)
      clear f1 f2 f3 c0 c1 c2 c3 c4 c5 c6 c7 hcw hck
      go_wp2_with fail
      refine (roundC ⟨a, b, c, d, e, f, g, g8⟩ HOKR.out z HZL.out wr.drew).mono ?_
      rintro _ w6 ⟨rfl, hb6⟩
      have HB6 := Lib.hid hb6
      have HST6 := Lib.hid (words_st ((HWS.out.below HDR.out).below hb6))
      rw [← HRE.out]
      have HI8b := Lib.hid (info8 (rnds m s (j + 1)))
      clear hb6
      go_wp2_with (refine wpList_store_rowTo rfl 54 (.tmp 6) (.tmp 23) rfl rfl wo.heap.size (stArr (rnds m s (j + 1))) rfl rfl 54 (stArr ⟨a, b, c, d, e, f, g, g8⟩) HST6.out HI8b.out (size_st _ _) (stArr_one _) ?_)
      go_roundw
      case rel => exact ⟨j + 1, by omega, by go_num, st_words (setRow_heap _ _ _ _ _ _ HST6.out), below_setRow (HBJ.out.trans ((HDR.out.mono HBJ.out.size).trans (HB6.out.mono HBJ.out.size))) (Nat.le_refl _) _⟩
      case measure => simp [intOf]; omega
    · have hj64 : j = 64 := by omega
      obtain ⟨R, hR⟩ : ∃ R, rnds m s j = R := ⟨_, rfl⟩
      have hokR : R.ok := hR ▸ rnds_ok hok j
      have HBZ := Lib.hid (show Sha.block M 0 s = addSt R s by rw [block_zero, ← HMM.out, ← hj64, hR, addSt_comm])
      rw [hR] at hws
      have HOKR := Lib.hid hokR
      have HOK := Lib.hid hok
      have HWS := Lib.hid hws
      have HBJ := Lib.hid hbj
      clear hws hbj hR hokR hj64
      obtain ⟨wy, hwy⟩ : ∃ wy : World, wy = wr := ⟨_, rfl⟩
      subst hwy
      go_wp2_with fail
      go_loopw [25] (fun c wx => ∃ p : Nat, p ≤ 8 ∧ c = .int .i64 p ∧ Words wx wo.heap.size 54 8 (sumF R s p) ∧ Below wo.heap.size wo wx) (fun c _ => 8 - (intOf c).toNat)
      case atStart => exact ⟨0, Nat.zero_le _, rfl, HWS.out.congr (fun x _ => if_neg (by omega)), HBJ.out⟩
      case round =>
        obtain ⟨p, hp, rfl, hwt, hbp⟩ := hrel
        by_cases hlp : p < 8
        · have hct := hwt.cell hlp
          have hft := hwt.free p
          have hca := (HMEM.out.go hbp).two.old.cell hlp
          rw [sumF_at] at hct
          have hxl := get_lt HOKR.out p
          have hyl := get_lt HOK.out p
          have HN := Lib.hid ((hwt.set p ((Sha.St.get R p + Sha.St.get s p) % 4294967296)).congr (G := sumF R s (p + 1)) fun x _ => sumF_next R s p x)
          obtain ⟨x, hx⟩ : ∃ x, Sha.St.get R p = x := ⟨_, rfl⟩
          obtain ⟨y, hy⟩ : ∃ x, Sha.St.get s p = x := ⟨_, rfl⟩
          rw [hx] at hct hxl HN
          rw [hy] at hca hyl HN
          have HB := Lib.hid (hbp.setCell (p := ⟨wo.heap.size, p, none⟩) (Nat.le_refl _) (.int .u32 (((x + y) % 4294967296 : Nat) : Int)))
          have l0 : (p : Int) < 8 := by omega
          clear hwt hbp hx hy
          go_upto_region 11 with (fail)
          go_still_tail 8, (by kernel_rfl)
          change wpList _ _ _ _ _ wr.drew
          go_wp2
          go_roundw
          case rel => exact ⟨p + 1, by omega, by go_num, HN.out.drew, HB.out.drew⟩
          case measure => simp [intOf]; omega
        · obtain rfl : p = 8 := by omega
          have HE := Lib.hid (words_st (hwt.congr (G := Sha.St.get (addSt R s)) fun x hx => sumF_end R s hx))
          have hme := HMEM.out.go hbp
          obtain ⟨cs, hcs, hcl⟩ := hme.two.res
          have HRES := Lib.hid hcs
          have HCL := Lib.hid (show cs.size = (stArr (addSt R s)).size from hcl)
          have HI8b := Lib.hid (info8 (addSt R s))
          have HBW := Lib.hid hme.two.bel
          clear hwt hbp hme hcs hcl
          go_wp2_with (first
            | (refine wpList_load_row rfl 54 (.tmp 6) rfl wo.heap.size rfl 54 (stArr (addSt R s)) (0, 0) _ HE.out Tryd.underlying54 rfl HI8b.out ?_)
            | (refine wpList_store_rowTo rfl 54 (.tmp 4) (.tmp 37) rfl rfl (w.heap.size + 1) (stArr (addSt R s)) rfl rfl 54 cs HRES.out HI8b.out HCL.out (stArr_one _) ?_))
          refine bodyPost_ret (v := .agg (stArr (addSt R s))) ?_ rfl ⟨by rw [HBZ.out], below_setRow HBW.out (by omega) _⟩
          exact results_cell_row rfl _ _ (w.heap.size + 1) 54 (stArr (addSt R s)) (0, 0) _ rfl (setRow_heap _ _ _ _ _ _ HRES.out) Tryd.underlying54 rfl HI8b.out
end Go.Proofs.YtcgjoidfmigpnaaDoor.Hash
