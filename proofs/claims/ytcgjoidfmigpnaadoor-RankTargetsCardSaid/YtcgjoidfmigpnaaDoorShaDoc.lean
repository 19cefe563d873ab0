/- The document's digest. -/
import Derived.Test.YtcgjoidfmigpnaaDoorShaReg
namespace Go.Proofs.YtcgjoidfmigpnaaDoor.Hash
open Go.ChangeShapes Go.WideShapes Go.ChangeAt Go.RowKit
open Go.Mem Sha
set_option maxRecDepth 100000 in
set_option maxHeartbeats 8000000 in
theorem shaC (l : List Nat) (v : Value) (w : World) (hl : Bytes w v l) (hn : l.length ≤ 100000) :
    Calls Tryd.prog 20 #[v] w fun e w' => ∃ u, e = .returned u ∧ Bytes w' u (sha l) ∧ Below w.heap.size w w' := by
  obtain ⟨A, C, rfl, h1, h2, _⟩ := hl.shape
  obtain ⟨L, hL⟩ : ∃ L, l.length = L := ⟨_, rfl⟩
  have hL5 : L ≤ 100000 := by omega
  have HPL := Lib.hid (show (pad l).length = L + 1 + zerosOf L + 8 by rw [pad_len, hL])
  have HP0 := Lib.hid (show pad l = l ++ [128] ++ List.replicate (zerosOf L) 0 ++ numB (8 * L) 8 by unfold pad; rw [hL, Nat.mod_eq_of_lt (by omega)])
  have HLZ := Lib.hid (show ∀ k, (l ++ [128] ++ List.replicate k 0).length = L + 1 + k by intro k; simp [hL]; omega)
  rw [hL] at h1 ⊢
  rw [hL] at hl
  have HL := Lib.hid hL
  have HH := Lib.hid hl
  clear hL hl hn
  have hz := z64_run
  have hne := z64_ne
  have hsz := Lib.hid (info64)
  go_enter Tryd.func20, Tryd.ntmps20
  go_upto_region 3 with (first
    | (refine wpList_buildTo rfl 53 _ rfl _ rfl kArr (by kernel_rfl) ?_)
    | (refine wpList_store_rowTo rfl 53 (.tmp 3) (.tmp 15) rfl rfl w.heap.size kArr rfl rfl 53 z64 (new_block _ _) hsz.out z64_k kArr_one ?_))
  generalize hw2 : ((w.alloc (.cells z64 53)).setRow w.heap.size kArr).alloc (.cells #[.int .u32 1779033703, .int .u32 3144134277, .int .u32 1013904242, .int .u32 2773480762, .int .u32 1359893119, .int .u32 2600822924, .int .u32 528734635, .int .u32 1541459225] 54) = w2
  obtain ⟨hk2, hh2, hb2, hs2⟩ := head_world w _ _ hw2
  have hl2 := HH.out.below hb2
  have hal3 : Below w2.heap.size w2 (w2.alloc (.cells #[] 5)) := (Below.refl _ _).alloc (Nat.le_refl _) _
  obtain ⟨v3, w3, hr3, hbu3, _, hb3⟩ := run_append_list (P := Tryd.prog) byteR_world byteR_one (w2.alloc (.cells #[] 5)) w2.heap.size 42 42 5 (.int .u8 0) 1 Tryd.underlying42 infoByte rfl _ [] (built_none w2 (Nat.le_refl _)) A L C l (hl2.below hal3) (by rw [HL.out]; simp; omega) (by simp)
  rw [List.nil_append] at hbu3
  have hb23 := hal3.trans hb3
  obtain ⟨v4, w4, hr4, hbu4, _, hb4⟩ := run_append_built (P := Tryd.prog) (R := ByteR) w3 w2.heap.size 42 42 5 (.int .u8 0) 1 Tryd.underlying42 infoByte rfl v3 l hbu3 (.int .u8 128) 128 rfl (fun _ _ => ⟨rfl, by omega⟩) (by rw [HL.out]; omega) hb23.size
  have hb24 := hb23.trans hb4
  have HR3 := Lib.hid hr3
  have HR4 := Lib.hid hr4
  have HB4 := Lib.hid (show Built ByteR w4 w2.heap.size 5 v4 (l ++ [128] ++ List.replicate 0 0) by simpa using hbu4)
  have HW := Lib.hid hb24
  have HK := Lib.hid hk2
  have HHH := Lib.hid hh2
  have HB2 := Lib.hid hb2
  have HS2 := Lib.hid hs2
  clear hr3 hr4 hbu3 hbu4 hb3 hb4 hb23 hb24 hk2 hh2 hb2 hs2 hl2 hal3 hw2
  go_wp2_with (at_builtin; first
    | (refine Lib.wpList_append_run _ rfl (.tmp 17) (.tmp 18) _ _ rfl _ _ rfl rfl _ _ HR3.out ?_)
    | (refine Lib.wpList_append_run _ rfl (.tmp 19) (.tmp 20) _ _ rfl _ _ rfl rfl _ _ HR4.out ?_))
  go_loopw [5] (fun v wr => ∃ k : Nat, k ≤ zerosOf L ∧ Built ByteR wr w2.heap.size 5 v (l ++ [128] ++ List.replicate k 0) ∧ Below w2.heap.size w2 wr) (fun v _ => L + 1 + zerosOf L - sliceLen v)
  case atStart => exact ⟨0, Nat.zero_le _, HB4.out, HW.out⟩
  case round =>
    obtain ⟨k, hk, hbu, hbr⟩ := hrel
    obtain ⟨A5, C5, rfl, hc1, hc2⟩ := hbu.len
    have hlen := HLZ.out k
    rw [hlen] at hc1 hbu ⊢
    have HN := Lib.hid hlen
    clear hlen
    by_cases hlt : k < zerosOf L
    · have HZ := Lib.hid (zeros_lt hlt)
      have hzb := zeros_bd L
      obtain ⟨n, hne5⟩ : ∃ n, L + 1 + k = n := ⟨_, rfl⟩
      have hn5 : n ≤ 200000 := by omega
      rw [hne5] at HZ hbu hc1 HN ⊢
      have ht : (((n : Nat) : Int) % 64 != 56) = true := by rw [bne_iff_ne]; exact HZ.out
      have HNE := Lib.hid hne5
      have HBU := Lib.hid hbu
      have HBR := Lib.hid hbr
      clear hne5 hbu hbr
      go_wp2_with (at_builtin; refine wpList_append_built (R := ByteR) _ rfl (.tmp 26) (.tmp 27) 42 rfl w2.heap.size 5 (.int .u8 0) 1 Tryd.underlying42 infoByte rfl _ _ rfl HBU.out _ 0 _ rfl (by simp) rfl (fun _ _ => ⟨rfl, by omega⟩) (by rw [HN.out]; omega) HBR.out.size ?_; intro v' w' hbu' hg' hb')
      obtain ⟨A6, C6, rfl, hc6, hd6⟩ := hbu'.len
      go_roundw
      case rel => exact ⟨k + 1, by omega, by rw [← rep_snoc]; exact hbu', HBR.out.trans hb'⟩
      case measure =>
        have e : (l ++ [128] ++ List.replicate k 0 ++ [0]).length = n + 1 := by rw [List.length_append, HN.out]; rfl
        rw [e]
        show L + 1 + zerosOf L - (n + 1) < L + 1 + zerosOf L - n
        have := HNE.out
        omega
    · obtain rfl : k = zerosOf L := by omega
      have HZ := Lib.hid (zeros_eq L)
      have hzb := zeros_bd L
      obtain ⟨n, hne5⟩ : ∃ n, L + 1 + zerosOf L = n := ⟨_, rfl⟩
      have hn5 : n ≤ 200000 := by omega
      rw [hne5] at HZ hbu hc1 HN HPL ⊢
      have ht : (((n : Nat) : Int) % 64 != 56) = false := by rw [bne_eq_false_iff_eq]; exact HZ.out
      have HBU := Lib.hid hbu
      have HBR := Lib.hid hbr
      have HNE := Lib.hid hne5
      clear hne5 hbu hbr
      go_wp2_with fail
      refine (numC (8 * L) 8 (by omega) (by omega) wr).mono ?_
      rintro _ w6 ⟨u6, rfl, hu6, hb6⟩
      obtain ⟨A6, C6, rfl, _, _⟩ := hu6.len
      rw [numB_len] at hu6 ⊢
      obtain ⟨v7, w7, hr7, hbu7, _, hb7⟩ := run_append_list (P := Tryd.prog) byteR_world byteR_one w6 w2.heap.size 42 42 5 (.int .u8 0) 1 Tryd.underlying42 infoByte rfl _ _ (HBU.out.below hb6) A6 8 C6 _ hu6.slice (by rw [HN.out, numB_len]; omega) (Nat.le_trans HBR.out.size hb6.size)
      rw [← HP0.out] at hbu7
      obtain ⟨gm, Cm, rfl, hcm, hdm, hgm⟩ := hbu7.some (n := n + 8) HPL.out (by omega)
      have hb67 := HBR.out.trans ((hb6.mono HBR.out.size).trans hb7)
      have HR7 := Lib.hid hr7
      have HM7 := Lib.hid hbu7
      have HB7 := Lib.hid hb67
      clear hr7 hbu7 hb7 hb67 hu6 hb6
      go_wp2_with (at_builtin; refine Lib.wpList_append_run _ rfl (.tmp 29) (.tmp 34) _ _ rfl _ _ rfl rfl _ _ HR7.out ?_)
      obtain ⟨NB, hNB⟩ : ∃ NB, n + 8 = 64 * NB := ⟨(n + 8) / 64, by have := HNE.out; unfold zerosOf at this; omega⟩
      rw [hNB] at HM7 HPL hcm ⊢
      have HNBE := Lib.hid hNB
      have hNB5 : NB ≤ 10000 := by omega
      clear hNB
      obtain ⟨Mg, hMg⟩ : ∃ M, pad l = M := ⟨_, rfl⟩
      have HMG := Lib.hid hMg
      rw [hMg] at HM7 HPL
      clear hMg
      have HMB := Lib.hid (show ∀ x ∈ Mg, x < 256 from fun x hx => by
        obtain ⟨i, hi, rfl⟩ := List.getElem_of_mem hx
        exact ((show Bytes w7 (.slice (some ⟨gm, 0, none⟩) (64 * NB) Cm) Mg from HM7.out.slice).here hi).2)
      go_loopw [6] (fun c wr => ∃ q : Nat, q ≤ NB ∧ c = .int .i64 (64 * (q : Int)) ∧ Words wr (w.heap.size + 1) 54 8 (blocks Mg q).get ∧ Words wr w.heap.size 53 64 kF ∧ Bytes wr (.slice (some ⟨gm, 0, none⟩) (64 * NB) Cm) Mg ∧ Below w.heap.size w wr ∧ w2.heap.size ≤ wr.heap.size) (fun c _ => 64 * NB - (intOf c).toNat)
      case atStart =>
        exact ⟨0, Nat.zero_le _, by simp, HHH.out.below HB7.out, HK.out.below HB7.out, HM7.out.slice, HB2.out.trans (HB7.out.mono HB2.out.size), HB7.out.size⟩
      case round =>
        obtain ⟨q, hq, rfl, hwh, hwk, hwm, hbr, hsr⟩ := hrel
        by_cases hlt : q < NB
        · obtain ⟨S, hS⟩ : ∃ S, blocks Mg q = S := ⟨_, rfl⟩
          have HSOK := Lib.hid (hS ▸ blocks_ok Mg q)
          have HSE := Lib.hid hS
          rw [hS] at hwh
          have HARR := Lib.hid (words_st (hwh.keep (w' := wr.alloc (.cells z64 53)) (heap_alloc_old _ _ hwh.lt)))
          have HWH := Lib.hid hwh
          have HWK := Lib.hid hwk
          have HWM := Lib.hid hwm
          have HBR2 := Lib.hid hbr
          have HSR := Lib.hid hsr
          have HI8 := Lib.hid (info8 S)
          clear hwh hwk hwm hbr hsr hS
          go_upto_region 12 with (first
            | (refine wpList_load_row rfl 54 (.tmp 4) rfl (w.heap.size + 1) rfl 54 (stArr S) (0, 0) _ HARR.out Tryd.underlying54 rfl HI8.out ?_)
            | (refine wpList_store_rowTo rfl 54 (.tmp 8) (.tmp 42) rfl rfl (wr.heap.size + 1) (stArr S) rfl rfl 54 z8 (heap_alloc2_new _ _ _) HI8.out rfl (stArr_one S) ?_))
          obtain ⟨m, hm⟩ : ∃ m : Nat → Nat, m = fun j => word Mg (64 * q + 4 * j) := ⟨_, rfl⟩
          have HMW := Lib.hid (show ∀ j, m j = word Mg (64 * q + 4 * j) from fun j => by rw [hm])
          have HML := Lib.hid (show ∀ j, m j < 4294967296 from fun j => by rw [hm]; exact word_lt HMB.out _)
          clear hm
          generalize hwi : ((wr.alloc (.cells z64 53)).alloc (.cells #[.int .u32 0, .int .u32 0, .int .u32 0, .int .u32 0, .int .u32 0, .int .u32 0, .int .u32 0, .int .u32 0] 54)).setRow (wr.heap.size + 1) (stArr S) = wi0
          obtain ⟨hi1, hi2, hi3, hi4⟩ := inner_world wr _ _ m S hwi
          have HI1 := Lib.hid hi1
          have HI2 := Lib.hid hi2
          have HI3 := Lib.hid hi3
          clear hi1 hi2 hi3 hwi
          obtain ⟨wo, hwo⟩ : ∃ wo : World, wo = wr := ⟨_, rfl⟩
          subst hwo
          go_wp2_with fail
          go_loopw [9] (fun c wi => ∃ i : Nat, i ≤ 64 ∧ c = .int .i64 i ∧ Words wi wo.heap.size 53 64 (wF m i) ∧ Words wi (wo.heap.size + 1) 54 8 (Sha.St.get (rnds m S i)) ∧ Below wo.heap.size wo wi) (fun c _ => 64 - (intOf c).toNat)
          case atStart => exact ⟨0, Nat.zero_le _, rfl, HI1.out, HI2.out, HI3.out⟩
          case round =>
            obtain ⟨i, hi, rfl, hww, hws, hbi⟩ := hrel
            by_cases hli : i < 64
            · go_upto_if 48 with (fail)
              go_cut [9, 44, 48] from 220 (fun c _ _ wx => c = .int .i64 i ∧ Words wx wo.heap.size 53 64 (wF m (i + 1)) ∧ Words wx (wo.heap.size + 1) 54 8 (Sha.St.get (rnds m S i)) ∧ Below wo.heap.size wo wx)
              case first =>
                by_cases h16 : i < 16
                · have hbM := (HWM.out.below hbi)
                  have hq1 : 64 * q + 4 * i + 4 ≤ Mg.length := by rw [HPL.out]; omega
                  have h4 := Lib.hid (four_bytes hbM hq1)
                  have HR4 := Lib.hid (read4 hq1 HMB.out)
                  have hxl := HML.out i
                  have HX := Lib.hid (HMW.out i)
                  have HN := Lib.hid (words_next hww (x := m i) (by rw [if_pos h16]))
                  obtain ⟨x, hx⟩ : ∃ x, m i = x := ⟨_, rfl⟩
                  rw [hx] at hxl HX HN
                  clear hx
                  have hcw := hww.cell hli
                  have hfw := hww.free i
                  have HWS := Lib.hid (hws.keep (w' := wr.setCell ⟨wo.heap.size, i, none⟩ (.int .u32 (x : Nat))) (heap_setCell_other _ _ _ _ (by show wo.heap.size + 1 ≠ wo.heap.size; omega)))
                  have HBI := Lib.hid (hbi.setCell (p := ⟨wo.heap.size, i, none⟩) (Nat.le_refl _) (.int .u32 (x : Nat)))
                  have HRB := Lib.hid (show readB ((Mg.drop (64 * q + 4 * i)).take 4) = x by rw [HR4.out, HX.out])
                  have hq2 : 64 * q + 4 * i + 4 ≤ Cm := by omega
                  clear hbM hq1 hww hws hbi
                  go_wp2_with fail
                  refine (readC _ _ _ h4.out).mono ?_
                  rintro _ w' ⟨rfl, rfl⟩
                  rw [HRB.out]
                  go_wp2_with fail
                  go_meet
                  case rel => exact ⟨rfl, HN.out, HWS.out, HBI.out⟩
                · have hc16 := hww.cell (i := i - 16) (by omega)
                  have hc7 := hww.cell (i := i - 7) (by omega)
                  have hc15 := hww.cell (i := i - 15) (by omega)
                  have hc2 := hww.cell (i := i - 2) (by omega)
                  have hx16 := wF_lt HML.out i (i - 16)
                  have hx7 := wF_lt HML.out i (i - 7)
                  have hx15 := wF_lt HML.out i (i - 15)
                  have hx2 := wF_lt HML.out i (i - 2)
                  have HNW := Lib.hid (show nextW (sched m i) i = (wF m i (i - 16) + wF m i (i - 7) + s0 (wF m i (i - 15)) + s1 (wF m i (i - 2))) % 4294967296 from rfl)
                  have hcw := hww.cell hli
                  have hfw := hww.free i
                  have HWW := Lib.hid hww
                  have HWS := Lib.hid hws
                  have HBI := Lib.hid hbi
                  clear hww hws hbi
                  go_upto_region 17 with (fail)
                  refine reg17 (by omega) hli hc16 hc7 hc15 hc2 hcw hfw hx16 hx7 hx15 hx2 ?_
                  clear hc16 hc7 hc15 hc2 hcw hfw hx16 hx7 hx15 hx2
                  intro w17 h17
                  have H17 := Lib.hid h17
                  clear h17
                  intros
                  go_wp2
                  go_meet
                  case rel =>
                    rw [H17.out]
                    refine ⟨rfl, ?_, (HWS.out.keep (heap_setCell_other _ _ _ _ (by show wo.heap.size + 1 ≠ wo.heap.size; omega))).drew, (HBI.out.setCell (p := ⟨wo.heap.size, i, none⟩) (Nat.le_refl _) _).drew⟩
                    rw [← HNW.out]
                    exact (words_next HWW.out (by rw [if_neg h16])).drew
              case rest =>
                obtain ⟨rfl, hww, hws, hbi⟩ := hcut
                obtain ⟨R, hR⟩ : ∃ R, rnds m S i = R := ⟨_, rfl⟩
                have hok : R.ok := hR ▸ rnds_ok HSOK.out i
                rw [hR] at hws
                have HRE := Lib.hid (show rnds m S (i + 1) = rnd (kF i) (wF m (i + 1) i) R by rw [rnds, hR]; rfl)
                have hkl := kF_lt i
                have hwl := wF_lt HML.out (i + 1) i
                have ck := (HWK.out.below hbi).cell hli
                have cw := hww.cell hli
                obtain ⟨kk, hkk⟩ : ∃ x, kF i = x := ⟨_, rfl⟩
                obtain ⟨ww, hwwe⟩ : ∃ x, wF m (i + 1) i = x := ⟨_, rfl⟩
                rw [hkk] at HRE hkl ck
                rw [hwwe] at HRE hwl cw
                obtain ⟨a, b, c, d, e, f, g, h⟩ := R
                obtain ⟨ha, hb, hc, hd, he, hf, hg, hh⟩ := hok
                dsimp only at ha hb hc hd he hf hg hh
                have HWW := Lib.hid hww
                have HWS := Lib.hid hws
                have HBI := Lib.hid hbi
                have HCK := Lib.hid ck
                have HCW := Lib.hid cw
                clear hww hws hbi hkk hwwe hR ck cw
                go_upto_region 18 with (fail)
                refine reg18 (i := i) (kk := kk) (ww := ww) (a := a) (b := b) (c := c) (d := d) (e := e) (f := f) (g := g) (h := h) (by omega) HCK.out HCW.out (HWS.out.cell (i := 0) (by omega)) (HWS.out.cell (i := 1) (by omega)) (HWS.out.cell (i := 2) (by omega)) (HWS.out.cell (i := 3) (by omega)) (HWS.out.cell (i := 4) (by omega)) (HWS.out.cell (i := 5) (by omega)) (HWS.out.cell (i := 6) (by omega)) (HWS.out.cell (i := 7) (by omega)) he hf hg hh hkl hwl ?_
                intro w18 h18
                have HWS18 := Lib.hid (show Words w18 (wo.heap.size + 1) 54 8 (Sha.St.get ⟨a, b, c, d, e, f, g, h⟩) by obtain ⟨n18, e18⟩ := h18; rw [e18]; exact HWS.out.drewN _)
                have HWW18 := Lib.hid (show Words w18 wo.heap.size 53 64 (wF m (i + 1)) by obtain ⟨n18, e18⟩ := h18; rw [e18]; exact HWW.out.drewN _)
                have HBI18 := Lib.hid (show Below wo.heap.size wo w18 by obtain ⟨n18, e18⟩ := h18; rw [e18]; exact HBI.out.trans (below_drewN _ _ _))
                clear h18
                intros
                go_upto_region 19 with (fail)
                refine reg19 (a := a) (b := b) (c := c) (d := d) (e := e) (f := f) (g := g) (h := h) (HWS18.out.cell (i := 0) (by omega)) (HWS18.out.cell (i := 1) (by omega)) (HWS18.out.cell (i := 2) (by omega)) (HWS18.out.cell (i := 3) (by omega)) (HWS18.out.cell (i := 4) (by omega)) (HWS18.out.cell (i := 5) (by omega)) (HWS18.out.cell (i := 6) (by omega)) (HWS18.out.cell (i := 7) (by omega)) ha hb hc ?_
                intro w19 h19
                have HWS19 := Lib.hid (show Words w19 (wo.heap.size + 1) 54 8 (Sha.St.get ⟨a, b, c, d, e, f, g, h⟩) by obtain ⟨n18, e18⟩ := h19; rw [e18]; exact HWS18.out.drewN _)
                have HWW19 := Lib.hid (show Words w19 wo.heap.size 53 64 (wF m (i + 1)) by obtain ⟨n18, e18⟩ := h19; rw [e18]; exact HWW18.out.drewN _)
                have HBI19 := Lib.hid (show Below wo.heap.size wo w19 by obtain ⟨n18, e18⟩ := h19; rw [e18]; exact HBI18.out.trans (below_drewN _ _ _))
                clear h19
                intros
                have hxl := xF_lt ⟨a, b, c, d, e, f, g, h⟩ kk ww
                have hyl := yF_lt ⟨a, b, c, d, e, f, g, h⟩
                obtain ⟨X, hX⟩ : ∃ X, xF ⟨a, b, c, d, e, f, g, h⟩ kk ww = X := ⟨_, rfl⟩
                obtain ⟨Y, hY⟩ : ∃ Y, yF ⟨a, b, c, d, e, f, g, h⟩ = Y := ⟨_, rfl⟩
                rw [hX] at hxl ⊢
                rw [hY] at hyl ⊢
                have HNA := Lib.hid (next_arr hX hY)
                clear hX hY
                go_upto_region 20 with (fail)
                refine reg20 (a := a) (b := b) (c := c) (d := d) (e := e) (f := f) (g := g) (h := h) (X := X) (Y := Y) (bs := wo.heap.size + 1) (words_st HWS19.out) ?_
                intro w20 h20
                have HWS20 := Lib.hid (show Words w20 (wo.heap.size + 1) 54 8 (Sha.St.get (rnds m S (i + 1))) by rw [h20, HRE.out, HNA.out]; exact st_words (setRow_heap _ _ _ _ _ _ (words_st HWS19.out)))
                have HWW20 := Lib.hid (show Words w20 wo.heap.size 53 64 (wF m (i + 1)) by rw [h20]; exact HWW19.out.keep (setRow_other _ _ _ _ (by omega)))
                have HBI20 := Lib.hid (show Below wo.heap.size wo w20 by rw [h20]; exact below_setRow HBI19.out (by omega) _)
                clear h20
                intros
                go_wp2
                go_roundw
                case rel => exact ⟨i + 1, by omega, by go_num, HWW20.out, HWS20.out, HBI20.out⟩
                case measure => simp [intOf]; omega
            · have hi64 : i = 64 := by omega
              obtain ⟨R, hR⟩ : ∃ R, rnds m S i = R := ⟨_, rfl⟩
              have hok : R.ok := hR ▸ rnds_ok HSOK.out i
              have HBL := Lib.hid (show blocks Mg (q + 1) = addSt S R by
                rw [blocks, HSE.out, Sha.block, ← hR, hi64, show m = fun j => word Mg (64 * q + 4 * j) from funext HMW.out])
              rw [hR] at hws
              have HOKR := Lib.hid hok
              have HWHr := Lib.hid (HWH.out.below hbi)
              have HWS := Lib.hid hws
              have HBI := Lib.hid hbi
              clear hww hws hbi hR hok hi64
              obtain ⟨wi, hwi2⟩ : ∃ wi : World, wi = wr := ⟨_, rfl⟩
              subst hwi2
              go_wp2_with fail
              go_loopw [12] (fun c wx => ∃ j : Nat, j ≤ 8 ∧ c = .int .i64 j ∧ Words wx (w.heap.size + 1) 54 8 (sumF S R j) ∧ wi.grownBy wx (some (w.heap.size + 1))) (fun c _ => 8 - (intOf c).toNat)
              case atStart => exact ⟨0, Nat.zero_le _, rfl, HWHr.out.congr (fun x _ => if_neg (by omega)), World.grownBy.refl _ _⟩
              case round =>
                obtain ⟨j, hj, rfl, hwh, hg⟩ := hrel
                by_cases hlj : j < 8
                · have hch := hwh.cell hlj
                  have hfh := hwh.free j
                  have hws := HWS.out.keep (w' := wr) (hg.block _ HWS.out.lt (by intro e; injection e with e; have := HWH.out.lt; omega))
                  have hcs := hws.cell hlj
                  rw [sumF_at] at hch
                  have hxl := get_lt HSOK.out j
                  have hyl := get_lt HOKR.out j
                  have HN := Lib.hid ((hwh.set j ((Sha.St.get S j + Sha.St.get R j) % 4294967296)).congr (G := sumF S R (j + 1)) fun x _ => sumF_next S R j x)
                  obtain ⟨x, hx⟩ : ∃ x, Sha.St.get S j = x := ⟨_, rfl⟩
                  obtain ⟨y, hy⟩ : ∃ x, Sha.St.get R j = x := ⟨_, rfl⟩
                  rw [hx] at hch hxl HN
                  rw [hy] at hcs hyl HN
                  have HG := Lib.hid hg
                  have l0 : (j : Int) < 8 := by omega
                  clear hwh hg hws hx hy
                  go_upto_region 24 with (fail)
                  go_still_tail 9, (by kernel_rfl)
                  change wpList _ _ _ _ _ wr.drew
                  go_wp2
                  go_roundw
                  case rel => exact ⟨j + 1, by omega, by go_num, HN.out.drew, grown_drewN (grown_set HG.out _) 1⟩
                  case measure => simp [intOf]; omega
                · obtain rfl : j = 8 := by omega
                  have HWH8 := Lib.hid (hwh.congr (G := Sha.St.get (blocks Mg (q + 1))) fun x hx => by rw [HBL.out]; exact sumF_end S R hx)
                  have hgb : Below w.heap.size wi wr := (Below.refl _ _).grown hg (by have := HBR2.out.size; have := HBI.out.size; omega) (fun k e => by injection e; omega)
                  have HWK8 := Lib.hid ((HWK.out.below HBI.out).keep (w' := wr) (hg.block _ (HWK.out.below HBI.out).lt (by intro e; injection e with e; omega)))
                  have HWM8 := Lib.hid ((HWM.out.below HBI.out).off (w' := wr) (b := w.heap.size + 1) (fun a n' C' e _ q => by cases e; have := HS2.out; dsimp only at q; omega) hg)
                  have HB8 := Lib.hid ((HBR2.out.trans (HBI.out.mono HBR2.out.size)).trans (show Below w.heap.size wi wr from hgb))
                  have HS8 := Lib.hid (Nat.le_trans HSR.out (Nat.le_trans HBI.out.size hg.size))
                  clear hwh hg hgb
                  go_wp2_with fail
                  go_roundw
                  case rel => exact ⟨q + 1, by omega, int_i64 (by omega), HWH8.out, HWK8.out, HWM8.out, HB8.out, HS8.out⟩
                  case measure => simp [intOf]; omega
        · obtain rfl : q = NB := by omega
          obtain ⟨F, hF⟩ : ∃ F, blocks Mg q = F := ⟨_, rfl⟩
          have HOKF := Lib.hid (hF ▸ blocks_ok Mg q)
          have HSH := Lib.hid (show sha l = outB F 8 by unfold sha; rw [HMG.out, HPL.out, Nat.mul_div_cancel_left _ (by omega), hF])
          rw [hF] at hwh
          have HWH := Lib.hid hwh
          have HBR2 := Lib.hid hbr
          clear hwh hwk hwm hbr hsr hF
          obtain ⟨wo, hwo⟩ : ∃ wo : World, wo = wr := ⟨_, rfl⟩
          subst hwo
          go_wp2_with fail
          go_loopw [13, 14] (fun v c wx => ∃ j : Nat, j ≤ 8 ∧ c = .int .i64 j ∧ Built ByteR wx wo.heap.size 5 v (outB F j) ∧ Below wo.heap.size wo wx) (fun _ c _ => 8 - (intOf c).toNat)
          case atStart => exact ⟨0, Nat.zero_le _, rfl, Built.start _ _ _, Below.refl _ _⟩
          case round =>
            obtain ⟨j, hj, rfl, hbu, hbx⟩ := hrel
            by_cases hlj : j < 8
            · have hch := (HWH.out.below hbx).cell hlj
              have hxl := get_lt HOKF.out j
              have HO := Lib.hid (show outB F (j + 1) = outB F j ++ numB (Sha.St.get F j) 4 from rfl)
              obtain ⟨x, hx⟩ : ∃ x, Sha.St.get F j = x := ⟨_, rfl⟩
              rw [hx] at hch hxl HO
              have HBU := Lib.hid hbu
              have HBX := Lib.hid hbx
              obtain ⟨A5, C5, rfl, hc1, hc2⟩ := hbu.len
              rw [outB_len] at HBU ⊢
              clear hbu hbx hx
              go_wp2_with fail
              refine (numC x 4 (by omega) (by omega) _).mono ?_
              rintro _ w6 ⟨u6, rfl, hu6, hb6⟩
              obtain ⟨A6, C6, rfl, _, _⟩ := hu6.len
              rw [numB_len] at hu6 ⊢
              obtain ⟨v7, w7, hr7, hbu7, _, hb7⟩ := run_append_list (P := Tryd.prog) byteR_world byteR_one w6 wo.heap.size 42 42 5 (.int .u8 0) 1 Tryd.underlying42 infoByte rfl _ _ (HBU.out.below hb6) A6 4 C6 _ hu6.slice (by rw [outB_len, numB_len]; omega) (Nat.le_trans HBX.out.size hb6.size)
              rw [← HO.out] at hbu7
              have hb67 := HBX.out.trans ((hb6.mono HBX.out.size).trans hb7)
              have HR7 := Lib.hid hr7
              have HM7 := Lib.hid hbu7
              have HB7 := Lib.hid hb67
              clear hr7 hbu7 hb7 hb67 hu6 hb6
              go_wp2_with (at_builtin; refine Lib.wpList_append_run _ rfl (.tmp 212) (.tmp 217) _ _ rfl _ _ rfl rfl _ _ HR7.out ?_)
              go_roundw
              case rel => exact ⟨j + 1, by omega, by go_num, HM7.out, HB7.out⟩
              case measure => simp [intOf]; omega
            · obtain rfl : j = 8 := by omega
              have HV := Lib.hid (show Bytes wr _ (sha l) from HSH.out ▸ hbu.slice)
              have HB := Lib.hid (HBR2.out.trans (hbx.mono HBR2.out.size))
              clear hbu hbx
              go_wp2_with fail
              go_ret
              exact ⟨_, rfl, HV.out, HB.out⟩
end Go.Proofs.YtcgjoidfmigpnaaDoor.Hash
