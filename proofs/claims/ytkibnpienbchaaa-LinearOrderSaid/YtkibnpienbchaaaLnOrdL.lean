/- LinearOrder: the law walked: its calls are made, one after the other; then they stand otherwise, and one is none. -/
import Derived.Test.YtkibnpienbchaaaLnTurn
import Derived.RegionTactic
import Derived.BigRegion
import Derived.Deep.RegionLaw
import Derived.Deep.RegionHeld3
namespace Go.Proofs.Ytkibnpienbchaaa.Lnr
set_option linter.unusedVariables false
open Go.ChangeShapes Go.WideShapes Go.ChangeAt Go.RowKit
open Go.Mem Ln
theorem boxed (w : World) (x : Cl) (K : Nat) (h : w.heap.size = K) : ∃ w', w.alloc (.cells (boxOf x) TCall) = w' ∧ w'.heap.size = K + 1 ∧ w'.rowIs K TCall 10 (fun j => (boxOf x).getD j undef) ∧ Below w.heap.size w w' :=
  ⟨_, rfl, by simp [h], by rw [← h]; exact box_row w x, alB _ _⟩
theorem hMS : Try.prog.underlying 25 = some (.map TStr TStr) := Try.underlying25
theorem hZS (w : World) : (zeroValue TStr).run Try.prog w = .ok (.string ⟨#[]⟩) w := by kernel_rfl
set_option maxRecDepth 100000 in
set_option maxHeartbeats 8000000 in
theorem orderMain {W : World} {l : List Nat} {A : Option Addr} {C : Nat} (h : Bytes W (.slice A l.length C) l) (h0 : 0 < l.length) (h20 : l.length ≤ 20) (t u : Int) (ht0 : 0 ≤ t) (ht1 : t ≤ 255) (hu0 : 0 ≤ u) (hu1 : u ≤ 255) :
    Calls Try.prog 3 #[.slice A l.length C, .int .u8 t, .int .u8 u] W fun e w' => e = .returned (.bool true) ∧ Below W.heap.size W w' := by
  have hmk := @run_makeMap Try.prog
  obtain ⟨B, hB⟩ : ∃ B, W.heap.size = B := ⟨_, rfl⟩
  obtain ⟨w1, hw1⟩ : ∃ w1, W.alloc (.map #[] 0) = w1 := ⟨_, rfl⟩
  have hb1 : Below W.heap.size W w1 := by rw [← hw1]; exact alB _ _
  have HM1 := Lib.hid (show OrMid W B B (.slice none 0 0) 0 [] noMap (fun _ => False) w1 from ⟨Row.start _ _ _, rfl, by rw [← hw1, ← hB]; exact MapV.made W, fun S => rfl, fun j hj => absurd hj (by simp), fun w' _ x hx => by (cases hx), fun y q => q.elim, (fun q => by cases q), Nat.le_refl _, (fun s x q => by cases q), by rw [← hB]; exact hb1⟩)
  obtain ⟨N, hN⟩ : ∃ N, l.length = N := ⟨_, rfl⟩
  have HN := Lib.hid hN
  have H := Lib.hid h
  have HBE := Lib.hid hB
  have HW1 := Lib.hid hw1
  rw [hN] at H h0 h20 ⊢
  have q0 : ((N : Int) == 0) = false := by
    have : (N : Int) ≠ 0 := by omega
    simpa using this
  have q20 : ¬ (20 : Int) < (N : Int) := by omega
  clear h hN hB hw1 hb1
  go_enter Try.func3, Try.ntmps3
  go_upto_region 6 with fail
  rw [HW1.out, HBE.out]
  clear hmk q0 q20
  go_loopw [7, 9] (fun v c wr => ∃ i : Nat, i ≤ N ∧ c = .int .i64 i ∧ ∃ L m K, OrMid W B B v i L m K wr) (fun _ c _ => N - (intOf c).toNat)
  case atStart => exact ⟨0, Nat.zero_le _, rfl, _, _, _, HM1.out⟩
  case round =>
    obtain ⟨i, hi, rfl, L, m, K, hm⟩ := hrel
    have HM := Lib.hid hm
    have HBS := Lib.hid (show B ≤ wr.heap.size from by have := hm.bel.size; rw [HBE.out] at this; exact this)
    clear hm
    by_cases hlt : i < N
    · have hil : i < l.length := by rw [HN.out]; exact hlt
      have hbw : Bytes wr (.slice A N C) l := SliceOf.mono H.out (fun a c q => ((HM.out.bel.mono (Nat.le_of_eq HBE.out)).cell (World.block_lt_of_cell? _ _ q)).trans q) (fun _ _ q => q)
      obtain ⟨ab, ao, rfl, c0, hx256⟩ := hbw.at hil
      obtain ⟨x, hx⟩ : ∃ x, l[i] = x := ⟨_, rfl⟩
      rw [hx] at c0 hx256
      obtain ⟨kx, hkx⟩ : ∃ k, strOf [97 + x % 3] = k := ⟨_, rfl⟩
      have hk := byte_string wr (97 + x % 3) (by omega)
      have e1 : ((97 + x % 3 : Nat) : Int) = 97 + (x : Int) % 3 := by omega
      rw [e1, hkx] at hk
      have HKO := Lib.hid (show KeyOk kx by
        have : kx.size = 1 := by rw [← hkx, strOf_size]; rfl
        unfold KeyOk; omega)
      obtain ⟨wa, hwa⟩ : ∃ w, wr.alloc (.cells #[.int .u8 (97 + (x : Int) % 3)] 5) = w := ⟨_, rfl⟩
      have hba : Below wr.heap.size wr wa := by rw [← hwa]; exact alB _ _
      obtain ⟨vx, hvx⟩ : ∃ k, strOf [48 + i] = k := ⟨_, rfl⟩
      have hv := byte_string wa (48 + i) (by omega)
      have e2 : ((48 + i : Nat) : Int) = 48 + (i : Int) := by omega
      rw [e2, hvx] at hv
      obtain ⟨wb, hwb⟩ : ∃ w, wa.alloc (.cells #[.int .u8 (48 + (i : Int))] 5) = w := ⟨_, rfl⟩
      have hbb : Below wa.heap.size wa wb := by rw [← hwb]; exact alB _ _
      have hsz : vx.size = 1 := by rw [← hvx, strOf_size]; rfl
      obtain ⟨C1, wc, hcv, hby, hbc, hsc⟩ := string_bytes wb vx (by omega)
      have hbl : byteList vx = [48 + i] := by rw [← hvx]; exact byteList_of (fun y hy => by rw [List.mem_singleton.1 hy]; omega)
      rw [hbl] at hby
      rw [hsz] at hcv hby
      obtain ⟨gd, hgd⟩ : ∃ g, wb.heap.size = g := ⟨_, rfl⟩
      rw [hgd] at hcv hby hsc
      obtain ⟨cP, hcP⟩ : ∃ c : Cl, (⟨0, 1, kx, [48 + i], some ⟨gd, 0, none⟩, C1, 3 * (i : Int) + 1, 3 * (i : Int) + 3, 3 * (i : Int) + 2, 0, [], none, 0, 0, none, 0⟩ : Cl) = c := ⟨_, rfl⟩
      have hPX : boxOf cP = #[.int .i64 0, .int .i64 1, .string kx, .slice (some ⟨gd, 0, none⟩) 1 C1, .int .i64 (3 * (i : Int) + 1), .int .i64 (3 * (i : Int) + 3), .int .i64 (3 * (i : Int) + 2), .int .i64 0, .slice none 0 0, .slice none 0 0] := by rw [← hcP]; rfl
      obtain ⟨wd, hwd, hsd, hrd, hbd⟩ := boxed wc cP _ hsc
      rw [hPX] at hwd
      have HWA := Lib.hid hwa
      have HWB := Lib.hid hwb
      have HWD := Lib.hid hwd
      have HGD := Lib.hid hgd
      have HKV := Lib.hid hv
      have HCV := Lib.hid hcv
      have HRD := Lib.hid hrd
      have HSD := Lib.hid hsd
      have HSC := Lib.hid hsc
      have HPX := Lib.hid hPX
      have HBY := Lib.hid hby
      have HCP := Lib.hid hcP
      have HBCD := Lib.hid hbd
      have HBRD := Lib.hid (hba.trans ((hbb.trans ((hbc.trans (hbd.mono hbc.size)).mono hbb.size)).mono hba.size))
      have HBRC := Lib.hid (hba.trans ((hbb.trans (hbc.mono hbb.size)).mono hba.size))
      have HGR := Lib.hid (show wr.heap.size ≤ gd by rw [← hgd]; exact Nat.le_trans hba.size hbb.size)
      have HVB := Lib.hid (show strOf [48 + i] = vx from hvx)
      have HVK := Lib.hid (show KeyOk vx by unfold KeyOk; omega)
      have x0 : (0 : Int) ≤ (x : Int) := by omega
      have x1 : (x : Int) ≤ 255 := by omega
      have c0d : wd.cell? ⟨ab, ao + i, none⟩ = some (.int .u8 (x : Nat)) := below_cell HBRD.out _ _ c0
      have HC0 := Lib.hid c0d
      clear c0d hbw hil hx e1 e2 hwa hba hv hwb hbb hsz hcv hby hbc hsc hbl hgd hcP hPX hwd hsd hrd hbd hvx hkx
      go_upto_region 9 with fail
      rw [HWA.out]
      clear hk
      have hv := HKV.out
      go_upto_region 10 with fail
      rw [HWB.out]
      clear hv
      have hcv := HCV.out
      go_upto_region 11 with fail
      rw [HWD.out, HSC.out]
      clear hcv
      have HMD := Lib.hid (HM.out.below HBS.out HBRD.out)
      have HGB := Lib.hid (show B < gd from Nat.lt_of_lt_of_le HM.out.map.lt HGR.out)
      by_cases hodd : x % 2 = 0
      · have e3 : ((x : Int) % 2 == 0) = true := by
          have : (x : Int) % 2 = 0 := by omega
          simpa using this
        clear hodd c0
        have c0 := HC0.out
        cases hmk : m kx with
        | some y =>
          obtain ⟨j, hj, hyd⟩ := HM.out.val _ _ hmk
          have hlk := HMD.out.map.look hMS hZS HKO.out (v := .string (strOf [48 + j])) (by unfold lastOf; rw [hmk]; simp only [Option.map_some, hyd])
          obtain ⟨wx, hwx⟩ : ∃ k, strOf [48 + j] = k := ⟨_, rfl⟩
          rw [hwx] at hlk
          have hsz : wx.size = 1 := by rw [← hwx, strOf_size]; rfl
          obtain ⟨C2, wf, hcv2, hby2, hbf, hsf⟩ := string_bytes wd wx (by omega)
          have hbl : byteList wx = [48 + j] := by rw [← hwx]; exact byteList_of (fun y hy => by rw [List.mem_singleton.1 hy]; omega)
          rw [hbl] at hby2
          rw [hsz, HSD.out] at hcv2 hby2
          have hrf := HRD.out.of_block (hbf.block _ HRD.out.lt)
          have HRF := Lib.hid hrf
          obtain ⟨cG, hcG⟩ : ∃ c : Cl, (⟨0, 2, kx, [], none, 0, 3 * (i : Int) + 1, 3 * (i : Int) + 3, 3 * (i : Int) + 2, 0, [48 + j], some ⟨gd + 1 + 1, 0, none⟩, C2, 0, none, 0⟩ : Cl) = c := ⟨_, rfl⟩
          have hGX : boxOf cG = #[.int .i64 0, .int .i64 2, .string kx, .slice none 0 0, .int .i64 (3 * (i : Int) + 1), .int .i64 (3 * (i : Int) + 3), .int .i64 (3 * (i : Int) + 2), .int .i64 0, .slice (some ⟨gd + 1 + 1, 0, none⟩) 1 C2, .slice none 0 0] := by rw [← hcG]; rfl
          obtain ⟨wg, hwg, hrg, htg, hsg⟩ := box_put hrf (.int .i64 0) (.int .i64 2) (.string kx) (.slice none 0 0) (.int .i64 (3 * (i : Int) + 1)) (.int .i64 (3 * (i : Int) + 3)) (.int .i64 (3 * (i : Int) + 2)) (.int .i64 0) (.slice (some ⟨gd + 1 + 1, 0, none⟩) 1 C2) (.slice none 0 0)
          rw [← hGX] at hrg
          have HBY2 := Lib.hid hby2
          have HCV2 := Lib.hid hcv2
          have HBF := Lib.hid hbf
          have HSF := Lib.hid hsf
          have HMK := Lib.hid hmk
          have HYD := Lib.hid hyd
          have HWG := Lib.hid hwg
          have HRG := Lib.hid hrg
          have HTG := Lib.hid htg
          have HSG := Lib.hid (show wg.heap.size = gd + 1 + 1 + 1 by rw [hsg, hsf, HSD.out])
          have HGX := Lib.hid hGX
          have HCG := Lib.hid hcG
          clear hwx hsz hcv2 hby2 hbf hsf hbl hmk hyd hrf hwg hrg htg hsg hGX hcG
          go_upto_region 13 with fail
          clear hlk
          have hcv2 := HCV2.out
          have hfr := HRF.out.frozen
          have d0 := HRF.out.cell (i := 0) (by omega)
          have d1 := HRF.out.cell (i := 1) (by omega)
          have d2 := HRF.out.cell (i := 2) (by omega)
          have d3 := HRF.out.cell (i := 3) (by omega)
          have d4 := HRF.out.cell (i := 4) (by omega)
          have d5 := HRF.out.cell (i := 5) (by omega)
          have d6 := HRF.out.cell (i := 6) (by omega)
          have d7 := HRF.out.cell (i := 7) (by omega)
          have d8 := HRF.out.cell (i := 8) (by omega)
          have d9 := HRF.out.cell (i := 9) (by omega)
          simp only [HPX.out] at d0 d1 d2 d3 d4 d5 d6 d7 d8 d9
          go_upto_region 14 with fail
          rw [HWG.out]
          clear hcv2 hfr c0 d0 d1 d2 d3 d4 d5 d6 d7 d8 d9
          have HN2 := Lib.hid (show Ln.next m cG = m by
            unfold Ln.next
            rw [if_neg (show ¬ cG.op = 1 by rw [← HCG.out]; show ¬ (2 : Int) = 1; omega)])
          have HMEX := Lib.hid (show MapV wg B (i + 1) (lastOf (Ln.next m cG)) from by
            rw [HN2.out]
            exact ((HMD.out.map.below HBF.out).turned HTG.out (by have := HGB.out; omega)).more (Nat.le_succ _))
          have HROW := Lib.hid ((HMD.out.row.below HBF.out).turned HTG.out (fun b q z => by
            have := (HM.out.row.lt b q).2
            have := HGR.out
            omega))
          have HLE := Lib.hid HM.out.len
          have HBRG := Lib.hid (show Below wr.heap.size wr wg from HBRD.out.trans ((HBF.out.mono HBRD.out.size).trans (HTG.out.below (fun y q => by rw [q]; have := HGR.out; omega) (Nat.le_trans HBRD.out.size HBF.out.size))))
          have HBSE := Lib.hid (show B ≤ wg.heap.size by have := HBS.out; have := HBRG.out.size; omega)
          have d0 := HRG.out.cell (i := 0) (by omega)
          have d1 := HRG.out.cell (i := 1) (by omega)
          have d2 := HRG.out.cell (i := 2) (by omega)
          have d3 := HRG.out.cell (i := 3) (by omega)
          have d4 := HRG.out.cell (i := 4) (by omega)
          have d5 := HRG.out.cell (i := 5) (by omega)
          have d6 := HRG.out.cell (i := 6) (by omega)
          have d7 := HRG.out.cell (i := 7) (by omega)
          have d8 := HRG.out.cell (i := 8) (by omega)
          have d9 := HRG.out.cell (i := 9) (by omega)
          simp only [HGX.out] at d0 d1 d2 d3 d4 d5 d6 d7 d8 d9
          go_wp2_with (at_builtin; refine wpList_append_row _ rfl (.tmp 92) (.tmp 94) 24 rfl B TCall zCall 136 Try.underlying24 infoCall rfl _ L rfl HROW.out _ cG _ rfl rfl (by rw [← HCG.out]; rfl) (by rw [HLE.out]; omega) HBSE.out ?_; intro v5 w5 hrow5 hg5 hb5 hat5)
          have HE := Lib.hid (show OrMid W B B v5 (i + 1) (L ++ [cG]) (Ln.next m cG) (fun y => K y ∨ y = gd + 1 + 1) w5 from
            OrMid.more HM.out HBS.out HBRG.out HMEX.out (Turned.refl _ _) hrow5 (Turned.grown hg5 (fun k q => q)) (hat5.imp id fun q => ⟨_, q, Nat.le_succ _⟩)
              (by rw [← HCG.out]; exact inIt_of (show 3 * (i : Int) + 1 ≤ 3 * (i : Int) + 2 by omega) (show 3 * (i : Int) + 2 ≤ 3 * (i : Int) + 3 by omega))
              (by
                unfold does
                rw [if_neg (show ¬ cG.op = 1 by rw [← HCG.out]; show ¬ (2 : Int) = 1; omega), decide_eq_false (show ¬ cG.to = 0 by rw [← HCG.out]; show ¬ 3 * (i : Int) + 3 = 0; omega), Bool.false_or]
                unfold got
                rw [if_pos (show cG.e = 0 by rw [← HCG.out]), show m cG.key = some y by rw [← HCG.out]; exact HMK.out]
                simp only [HYD.out]
                rw [← HCG.out]
                exact decide_eq_true rfl)
              (by rw [← HCG.out]; exact ⟨rfl, rfl, rfl⟩)
              (fun w' t => by
                have e9 := t.block (gd + 1 + 1) (by rw [HSG.out]; omega) (fun q => q rfl)
                have hb9 := bytes_keep (bytes_keep HBY2.out (HTG.out.block (gd + 1 + 1) (by rw [HSF.out, HSD.out]; omega) (by omega))) e9
                rw [← HCG.out]
                exact ⟨⟨nil_bytes w', hb9, i64c (z := 0) (by omega), i64c (z := 2) (by omega), i64c (z := 3 * (i : Int) + 1) (by omega), i64c (z := 3 * (i : Int) + 3) (by omega), i64c (z := 3 * (i : Int) + 2) (by omega), i64c (z := 0) (by omega)⟩, HKO.out, .inr rfl⟩)
              (by have := HGR.out; omega) (by rw [HSG.out]; omega)
              (fun s y q => by rw [HN2.out] at q; exact HM.out.val s y q))
          clear hrow5 hg5 hb5 hat5 d0 d1 d2 d3 d4 d5 d6 d7 d8 d9
          go_wp2
          go_roundw
          case rel => exact ⟨i + 1, by omega, by go_num, _, _, _, HE.out⟩
          case measure => simp [intOf]; omega
        | none =>
          have hlk := HMD.out.map.lookNo hMS hZS kx (by unfold lastOf; rw [hmk]; rfl)
          obtain ⟨C2, wf, hcv2, hby2, hbf, hsf⟩ := string_bytes wd ⟨#[]⟩ (by decide)
          have hsz : (⟨#[]⟩ : ByteArray).size = 0 := rfl
          have hbl : byteList ⟨#[]⟩ = [] := rfl
          rw [hbl] at hby2
          rw [hsz, HSD.out] at hcv2 hby2
          have hrf := HRD.out.of_block (hbf.block _ HRD.out.lt)
          have HRF := Lib.hid hrf
          obtain ⟨cG, hcG⟩ : ∃ c : Cl, (⟨0, 2, kx, [], none, 0, 3 * (i : Int) + 1, 3 * (i : Int) + 3, 3 * (i : Int) + 2, 7, [], some ⟨gd + 1 + 1, 0, none⟩, C2, 0, none, 0⟩ : Cl) = c := ⟨_, rfl⟩
          have hGX : boxOf cG = #[.int .i64 0, .int .i64 2, .string kx, .slice none 0 0, .int .i64 (3 * (i : Int) + 1), .int .i64 (3 * (i : Int) + 3), .int .i64 (3 * (i : Int) + 2), .int .i64 7, .slice (some ⟨gd + 1 + 1, 0, none⟩) 0 C2, .slice none 0 0] := by rw [← hcG]; rfl
          obtain ⟨wh, hwh, hrh, hth, hsh⟩ := box_put hrf (.int .i64 0) (.int .i64 2) (.string kx) (.slice none 0 0) (.int .i64 (3 * (i : Int) + 1)) (.int .i64 (3 * (i : Int) + 3)) (.int .i64 (3 * (i : Int) + 2)) (.int .i64 0) (.slice (some ⟨gd + 1 + 1, 0, none⟩) 0 C2) (.slice none 0 0)
          obtain ⟨wg, hwg⟩ : ∃ w, wh.setCell ⟨gd + 1, 7, none⟩ (.int .i64 7) = w := ⟨_, rfl⟩
          have hrg : wg.rowIs (gd + 1) TCall 10 (fun j => (boxOf cG).getD j undef) := by
            rw [← hwg, hGX]
            refine (hrh.set 7 _).congr fun i hi => ?_
            match i, hi with
            | 0, _ => rfl
            | 1, _ => rfl
            | 2, _ => rfl
            | 3, _ => rfl
            | 4, _ => rfl
            | 5, _ => rfl
            | 6, _ => rfl
            | 7, _ => rfl
            | 8, _ => rfl
            | 9, _ => rfl
          have htg : Turned (fun y => y = gd + 1) wf wg := by rw [← hwg]; exact hth.trans (Turned.set (F := fun y => y = gd + 1) _ rfl) (Grown.refl _ _)
          have hsg : wg.heap.size = wh.heap.size := by rw [← hwg]; simp [World.setCell]
          have HBY2 := Lib.hid hby2
          have HCV2 := Lib.hid hcv2
          have HBF := Lib.hid hbf
          have HSF := Lib.hid hsf
          have HMK := Lib.hid hmk
          have HWH := Lib.hid hwh
          have HRH := Lib.hid hrh
          have HWG := Lib.hid hwg
          have HRG := Lib.hid hrg
          have HTG := Lib.hid htg
          have HSG := Lib.hid (show wg.heap.size = gd + 1 + 1 + 1 by rw [hsg, hsh, hsf, HSD.out])
          have HGX := Lib.hid hGX
          have HCG := Lib.hid hcG
          clear hsz hcv2 hby2 hbf hsf hbl hmk hrf hwh hrh hth hsh hwg hrg htg hsg hGX hcG
          go_upto_region 13 with fail
          clear hlk
          have hcv2 := HCV2.out
          have hfr := HRF.out.frozen
          have d0 := HRF.out.cell (i := 0) (by omega)
          have d1 := HRF.out.cell (i := 1) (by omega)
          have d2 := HRF.out.cell (i := 2) (by omega)
          have d3 := HRF.out.cell (i := 3) (by omega)
          have d4 := HRF.out.cell (i := 4) (by omega)
          have d5 := HRF.out.cell (i := 5) (by omega)
          have d6 := HRF.out.cell (i := 6) (by omega)
          have d7 := HRF.out.cell (i := 7) (by omega)
          have d8 := HRF.out.cell (i := 8) (by omega)
          have d9 := HRF.out.cell (i := 9) (by omega)
          simp only [HPX.out] at d0 d1 d2 d3 d4 d5 d6 d7 d8 d9
          go_upto_region 14 with fail
          rw [HWH.out]
          clear hcv2 hfr c0 d0 d1 d2 d3 d4 d5 d6 d7 d8 d9
          have f7 := HRH.out.frozen 7
          have d7 := HRH.out.cell (i := 7) (by omega)
          go_upto_region 17 with fail
          rw [HWG.out]
          clear f7 d7
          have HN2 := Lib.hid (show Ln.next m cG = m by
            unfold Ln.next
            rw [if_neg (show ¬ cG.op = 1 by rw [← HCG.out]; show ¬ (2 : Int) = 1; omega)])
          have HMEX := Lib.hid (show MapV wg B (i + 1) (lastOf (Ln.next m cG)) from by
            rw [HN2.out]
            exact ((HMD.out.map.below HBF.out).turned HTG.out (by have := HGB.out; omega)).more (Nat.le_succ _))
          have HROW := Lib.hid ((HMD.out.row.below HBF.out).turned HTG.out (fun b q z => by
            have := (HM.out.row.lt b q).2
            have := HGR.out
            omega))
          have HLE := Lib.hid HM.out.len
          have HBRG := Lib.hid (show Below wr.heap.size wr wg from HBRD.out.trans ((HBF.out.mono HBRD.out.size).trans (HTG.out.below (fun y q => by rw [q]; have := HGR.out; omega) (Nat.le_trans HBRD.out.size HBF.out.size))))
          have HBSE := Lib.hid (show B ≤ wg.heap.size by have := HBS.out; have := HBRG.out.size; omega)
          have d0 := HRG.out.cell (i := 0) (by omega)
          have d1 := HRG.out.cell (i := 1) (by omega)
          have d2 := HRG.out.cell (i := 2) (by omega)
          have d3 := HRG.out.cell (i := 3) (by omega)
          have d4 := HRG.out.cell (i := 4) (by omega)
          have d5 := HRG.out.cell (i := 5) (by omega)
          have d6 := HRG.out.cell (i := 6) (by omega)
          have d7 := HRG.out.cell (i := 7) (by omega)
          have d8 := HRG.out.cell (i := 8) (by omega)
          have d9 := HRG.out.cell (i := 9) (by omega)
          simp only [HGX.out] at d0 d1 d2 d3 d4 d5 d6 d7 d8 d9
          go_wp2_with (at_builtin; refine wpList_append_row _ rfl (.tmp 92) (.tmp 94) 24 rfl B TCall zCall 136 Try.underlying24 infoCall rfl _ L rfl HROW.out _ cG _ rfl rfl (by rw [← HCG.out]; rfl) (by rw [HLE.out]; omega) HBSE.out ?_; intro v5 w5 hrow5 hg5 hb5 hat5)
          have HE := Lib.hid (show OrMid W B B v5 (i + 1) (L ++ [cG]) (Ln.next m cG) (fun y => K y ∨ y = gd + 1 + 1) w5 from
            OrMid.more HM.out HBS.out HBRG.out HMEX.out (Turned.refl _ _) hrow5 (Turned.grown hg5 (fun k q => q)) (hat5.imp id fun q => ⟨_, q, Nat.le_succ _⟩)
              (by rw [← HCG.out]; exact inIt_of (show 3 * (i : Int) + 1 ≤ 3 * (i : Int) + 2 by omega) (show 3 * (i : Int) + 2 ≤ 3 * (i : Int) + 3 by omega))
              (by
                unfold does
                rw [if_neg (show ¬ cG.op = 1 by rw [← HCG.out]; show ¬ (2 : Int) = 1; omega), decide_eq_false (show ¬ cG.to = 0 by rw [← HCG.out]; show ¬ 3 * (i : Int) + 3 = 0; omega), Bool.false_or]
                unfold got
                rw [if_neg (show ¬ cG.e = 0 by rw [← HCG.out]; show ¬ (7 : Int) = 0; omega), if_pos (show cG.e = 7 by rw [← HCG.out]), show m cG.key = none by rw [← HCG.out]; exact HMK.out]
                rfl)
              (by rw [← HCG.out]; exact ⟨rfl, rfl, rfl⟩)
              (fun w' t => by
                have e9 := t.block (gd + 1 + 1) (by rw [HSG.out]; omega) (fun q => q rfl)
                have hb9 := bytes_keep (bytes_keep HBY2.out (HTG.out.block (gd + 1 + 1) (by rw [HSF.out, HSD.out]; omega) (by omega))) e9
                rw [← HCG.out]
                exact ⟨⟨nil_bytes w', hb9, i64c (z := 0) (by omega), i64c (z := 2) (by omega), i64c (z := 3 * (i : Int) + 1) (by omega), i64c (z := 3 * (i : Int) + 3) (by omega), i64c (z := 3 * (i : Int) + 2) (by omega), i64c (z := 7) (by omega)⟩, HKO.out, .inr rfl⟩)
              (by have := HGR.out; omega) (by rw [HSG.out]; omega)
              (fun s y q => by rw [HN2.out] at q; exact HM.out.val s y q))
          clear hrow5 hg5 hb5 hat5 d0 d1 d2 d3 d4 d5 d6 d7 d8 d9
          go_wp2
          go_roundw
          case rel => exact ⟨i + 1, by omega, by go_num, _, _, _, HE.out⟩
          case measure => simp [intOf]; omega
      · have e3 : ((x : Int) % 2 == 0) = false := by
          have : (x : Int) % 2 ≠ 0 := by omega
          simpa using this
        clear hodd c0
        have c0 := HC0.out
        go_upto_region 17 with (at_mapUpdate; refine wpList_store_map _ rfl _ _ _ rfl hMS B i _ HMD.out.map (by omega) HKO.out _ rfl rfl rfl ?_; intro we hme hte hse)
        have HN2 := Lib.hid (show Ln.next m cP = put m cP by
          unfold Ln.next
          rw [if_pos (show cP.op = 1 by rw [← HCP.out]), if_pos (show cP.e = 0 by rw [← HCP.out])])
        have HMEX := Lib.hid (show MapV we B (i + 1) (lastOf (Ln.next m cP)) from hme.congr fun s => by
          rw [HN2.out]
          unfold lastOf put upd
          rw [show cP.key = kx by rw [← HCP.out], ← HVB.out]
          by_cases e : s = kx
          · rw [if_pos e, if_pos e]
            rw [← HCP.out]; rfl
          · rw [if_neg e, if_neg e])
        have HTE := Lib.hid hte
        have hre := HRD.out.of_block (hte.block _ HRD.out.lt (by have := HGB.out; omega))
        have HROW := Lib.hid (HMD.out.row.turned hte (fun b q z => HM.out.vb (by rw [q, z])))
        have HLE := Lib.hid HM.out.len
        have HBSE := Lib.hid (show B ≤ we.heap.size by have := HBS.out; have := HBRD.out.size; omega)
        clear hme hte hse c0
        have d0 := hre.cell (i := 0) (by omega)
        have d1 := hre.cell (i := 1) (by omega)
        have d2 := hre.cell (i := 2) (by omega)
        have d3 := hre.cell (i := 3) (by omega)
        have d4 := hre.cell (i := 4) (by omega)
        have d5 := hre.cell (i := 5) (by omega)
        have d6 := hre.cell (i := 6) (by omega)
        have d7 := hre.cell (i := 7) (by omega)
        have d8 := hre.cell (i := 8) (by omega)
        have d9 := hre.cell (i := 9) (by omega)
        simp only [HPX.out] at d0 d1 d2 d3 d4 d5 d6 d7 d8 d9
        clear hre
        go_wp2_with (at_builtin; refine wpList_append_row _ rfl (.tmp 92) (.tmp 94) 24 rfl B TCall zCall 136 Try.underlying24 infoCall rfl _ L rfl HROW.out _ cP _ rfl rfl (by rw [← HCP.out]; rfl) (by rw [HLE.out]; omega) HBSE.out ?_; intro v5 w5 hrow5 hg5 hb5 hat5)
        have HE := Lib.hid (show OrMid W B B v5 (i + 1) (L ++ [cP]) (Ln.next m cP) (fun y => K y ∨ y = gd) w5 from
          OrMid.more HM.out HBS.out HBRD.out HMEX.out HTE.out hrow5 (Turned.grown hg5 (fun k q => q)) (hat5.imp id fun q => ⟨_, q, Nat.le_succ _⟩)
            (by rw [← HCP.out]; exact inIt_of (show 3 * (i : Int) + 1 ≤ 3 * (i : Int) + 2 by omega) (show 3 * (i : Int) + 2 ≤ 3 * (i : Int) + 3 by omega))
            (if_pos (by rw [← HCP.out])) (by rw [← HCP.out]; exact ⟨rfl, rfl, rfl⟩)
            (fun w' t => by
              have e9 := t.block gd (by rw [HSD.out]; omega) (fun q => q rfl)
              have hb9 := bytes_keep (HBY.out.below HBCD.out) e9
              rw [← HCP.out]
              exact ⟨⟨hb9, nil_bytes w', i64c (z := 0) (by omega), i64c (z := 1) (by omega), i64c (z := 3 * (i : Int) + 1) (by omega), i64c (z := 3 * (i : Int) + 3) (by omega), i64c (z := 3 * (i : Int) + 2) (by omega), i64c (z := 0) (by omega)⟩, HKO.out, .inl rfl⟩)
            HGR.out (by rw [HSD.out]; omega)
            (fun s y q => by
              rw [HN2.out] at q
              unfold put at q
              split at q
              · cases q; exact ⟨i, by omega, by rw [← HCP.out]⟩
              · exact HM.out.val s y q))
        clear hrow5 hg5 hb5 hat5 d0 d1 d2 d3 d4 d5 d6 d7 d8 d9
        go_wp2
        go_roundw
        case rel => exact ⟨i + 1, by omega, by go_num, _, _, _, HE.out⟩
        case measure => simp [intOf]; omega
    · obtain rfl : i = N := by omega
      have hlen := HM.out.len
      have hN0 : 0 < L.length := by omega
      obtain ⟨g, C, rfl, -, hNC, hCm⟩ := HM.out.row.head hN0
      rw [hlen] at hNC ⊢
      have hV : Cls wr (.slice (some ⟨g, 0, none⟩) i C) L := by have := HM.out.row.cls; rwa [hlen] at this
      obtain ⟨tn, rfl⟩ := Int.eq_ofNat_of_zero_le ht0
      obtain ⟨un, rfl⟩ := Int.eq_ofNat_of_zero_le hu0
      obtain ⟨r, hr⟩ : ∃ r, tn % i = r := ⟨_, rfl⟩
      have hri : r < i := by rw [← hr]; exact Nat.mod_lt _ h0
      have e5 : (tn : Int) % (i : Int) = (r : Int) := by rw [← hr]; exact (Int.natCast_emod _ _).symm
      obtain ⟨j, hj⟩ : ∃ j, un % i = j := ⟨_, rfl⟩
      have hji : j < i := by rw [← hj]; exact Nat.mod_lt _ h0
      have e6 : (un : Int) % (i : Int) = (j : Int) := by rw [← hj]; exact (Int.natCast_emod _ _).symm
      obtain ⟨hs1, hs1c⟩ := calls_from (g := g) hri hNC
      obtain ⟨hs2, hs2c⟩ := calls_to (g := g) hri hNC
      obtain ⟨G, hG⟩ : ∃ G, wr.heap.size = G := ⟨_, rfl⟩
      obtain ⟨wA, hwA⟩ : ∃ w, (wr.alloc (.cells #[] TCall)).drew = w := ⟨_, rfl⟩
      have hbA : Below G wr wA := by rw [← hwA, ← hG]; exact (alB _ _).drew
      have hrowA : Row wA G TCall (.slice (some ⟨G, 0, none⟩) 0 0) [] := by
        rw [← hwA, ← hG]
        exact (Row.empty wr wr.heap.size TCall (Nat.le_refl _)).below (Go.Mem.below_drewN _ _ 1)
      obtain ⟨v1, w2, hrun1, hrow1, -, hb2⟩ := run_append_rows (P := Try.prog) wA G 24 24 TCall zCall 136 Try.underlying24 infoCall rfl _ _ hrowA _ _ _ (L.drop r) ((hs1c _ _ hV).below (by rw [hG]; exact hbA)) (by rw [List.length_drop]; simp; omega) (by rw [← hG]; exact (hG ▸ hbA.size))
      have hb02 : Below G wr w2 := hbA.trans hb2
      obtain ⟨v2, w3, hrun2, hrow2, -, hb3⟩ := run_append_rows (P := Try.prog) w2 G 24 24 TCall zCall 136 Try.underlying24 infoCall rfl _ _ hrow1 _ _ _ (L.take r) ((hs2c _ _ hV).below (by rw [hG]; exact hb02)) (by rw [List.nil_append, List.length_drop, List.length_take]; omega) (by have := hb02.size; omega)
      rw [List.nil_append] at hrow1 hrow2
      have hb03 : Below G wr w3 := hb02.trans hb3
      obtain ⟨A1, C1, hv1, -⟩ := hrow1.cls.shape
      obtain ⟨A2, C2, hv2, -⟩ := hrow2.cls.shape
      subst hv1 hv2
      obtain ⟨n1, hn1⟩ : ∃ n, (L.drop r).length = n := ⟨_, rfl⟩
      obtain ⟨n2, hn2⟩ : ∃ n, (L.drop r ++ L.take r).length = n := ⟨_, rfl⟩
      rw [hn1] at hrun1 hrun2 hrow1
      rw [hn2] at hrun2 hrow2
      -- the odd one
      obtain ⟨w4, hw4⟩ : ∃ w, w3.alloc (.cells #[] TCall) = w := ⟨_, rfl⟩
      obtain ⟨G3, hG3⟩ : ∃ G, w3.heap.size = G := ⟨_, rfl⟩
      have hb4 : Below w3.heap.size w3 w4 := by rw [← hw4]; exact alB _ _
      have hrow4 : Row w4 G3 TCall (.slice (some ⟨G3, 0, none⟩) 0 0) [] := by rw [← hw4, ← hG3]; exact Row.empty w3 w3.heap.size TCall (Nat.le_refl _)
      have hb04 : Below G wr w4 := hb03.trans (hb4.mono (by have := hb03.size; omega))
      obtain ⟨v5, w5, hrun5, hrow5, -, hb5⟩ := run_append_rows (P := Try.prog) w4 G3 24 24 TCall zCall 136 Try.underlying24 infoCall rfl _ _ hrow4 _ _ _ L (hV.below (by rw [hG]; exact hb04)) (by rw [hlen]; simp; omega) (by rw [← hG3]; exact hb4.size)
      rw [List.nil_append] at hrow5
      have hb35 : Below G3 w3 w5 := by rw [← hG3]; exact hb4.trans (by rw [hG3]; exact hb5)
      obtain ⟨g5, C5, rfl, hg5, -, -⟩ := hrow5.head hN0
      have hjl : j < L.length := by omega
      have c6 := hrow5.el hjl (p := 6) (by omega)
      have c4 := hrow5.el hjl (p := 4) (by omega)
      have f4 := hrow5.free (j * 10 + 4)
      have hrow6 := hrow5.put hjl (p := 4) (by omega) (u := .int .i64 (L[j].mo + 1)) (y := oddOf L[j]) rfl
      have htj := HM.out.tim j hjl
      have c6' : w5.cell? ⟨g5, j * 10 + 6, none⟩ = some (.int .i64 (3 * (j : Int) + 2)) := by rw [← htj.2.1]; exact c6
      have c4' : w5.cell? ⟨g5, j * 10 + 4, none⟩ = some (.int .i64 (3 * (j : Int) + 1)) := by rw [← htj.1]; exact c4
      rw [htj.2.1] at hrow6
      obtain ⟨w6, hw6⟩ : ∃ w, w5.setCell ⟨g5, j * 10 + 4, none⟩ (.int .i64 (3 * (j : Int) + 2 + 1)) = w := ⟨_, rfl⟩
      rw [hw6] at hrow6
      have hb36 : Below G3 w3 w6 := by
        rw [← hw6]
        exact hb35.trans ((Turned.set (F := fun b => b = g5) (w := w5) _ rfl).below (fun b q => by rw [q]; exact hg5) (by have := hb35.size; omega))
      have hb06 : Below wr.heap.size wr w6 := by rw [hG]; exact hb03.trans (hb36.mono (by have := hb03.size; omega))
      have hgoes : goes noMap L = true := by have := HM.out.eq []; rw [List.append_nil] at this; rw [this]; rfl
      have hP := HM.out.ok.here
      have HCA := Lib.hid (fun w' (q : Below wr.heap.size wr w') => check_all HM.out.tim hgoes (List.Perm.refl L) (by omega) hP q (hV.below q))
      have HCB := Lib.hid (fun w' (q : Below w6.heap.size w6 w') => check_all HM.out.tim hgoes (M := L.drop r ++ L.take r) (List.perm_append_comm.trans (by rw [List.take_append_drop])) (by omega) hP (hb06.trans (q.mono hb06.size)) ((hrow2.cls.below (by rw [hG3]; exact hb36)).below q))
      have HCC := Lib.hid (fun w' (q : Below w6.heap.size w6 w') => check_odd hjl HM.out.tim (by omega) hP (hb06.trans (q.mono hb06.size)) (hrow6.cls.below q))
      rw [hlen] at hrun5 HCC
      have HB6 := Lib.hid hb06
      have HBW := Lib.hid HM.out.bel
      rw [← hwA, ← hG] at hrun1
      have HR1 := Lib.hid hrun1
      have HR2 := Lib.hid hrun2
      have HR5 := Lib.hid hrun5
      have HWA := Lib.hid hwA
      have HW4 := Lib.hid hw4
      have HW6 := Lib.hid hw6
      have HG := Lib.hid hG
      have HG3 := Lib.hid hG3
      have HE6 := Lib.hid e6
      have i0 : (0 : Int) < (i : Int) := by omega
      have r0 : (r : Int) < (i : Int) := by omega
      have j0 : (j : Int) < (i : Int) := by omega
      have i20 : (i : Int) ≤ 20 := by omega
      have j20 : (j : Int) ≤ 20 := by omega
      clear hlen hN0 hV hr hj hs1c hs2c hG hwA hbA hrowA hrun1 hrow1 hb2 hb02 hrun2 hrow2 hb3 hb03 hn1 hn2 hw4 hG3 hb4 hrow4 hb04 hrun5 hrow5 hb5 hb35 hg5 hjl c6 c4 hrow6 htj hw6 hb36 hb06 hgoes hP e6
      go_upto_region 19 with fail
      rw [e5]
      clear e5
      go_region_law (first
        | (refine step_append_run _ _ _ rfl (.tmp 101) (.tmp 104) 24 24 rfl _ _ rfl rfl HR1.out ?_)
        | (refine step_append_run _ _ _ rfl (.tmp 105) (.tmp 108) 24 24 rfl _ _ rfl rfl HR2.out ?_))
      go_upto_region 21 with fail
      rw [HE6.out]
      go_upto_region 22 with (rw [HW4.out, HG3.out]; at_builtin; refine Lib.wpList_append_run _ rfl (.tmp 115) (.tmp 116) 24 24 rfl _ _ rfl rfl _ _ HR5.out ?_)
      go_upto_region 23 with fail
      rw [HW6.out]
      clear c6' c4' f4 i0 r0 j0
      go_wp2_with fail
      refine (answersC w6).mono ?_
      rintro _ w7 ⟨rfl, hb7⟩
      have HB7 := Lib.hid hb7
      clear hb7
      go_wp2_with fail
      refine (HCA.out _ (HB6.out.trans (HB7.out.mono HB6.out.size))).mono ?_
      rintro _ w8 ⟨rfl, hb8⟩
      have HB8 := Lib.hid (HB7.out.trans (hb8.mono HB7.out.size))
      clear hb8
      go_wp2_with fail
      refine (HCB.out _ HB8.out).mono ?_
      rintro _ w9 ⟨rfl, hb9⟩
      have HB9 := Lib.hid (HB8.out.trans (hb9.mono HB8.out.size))
      clear hb9
      go_wp2_with fail
      refine (HCC.out _ HB9.out).mono ?_
      rintro _ w10 ⟨rfl, hb10⟩
      have HB10 := Lib.hid (HB9.out.trans (hb10.mono HB9.out.size))
      clear hb10
      go_wp2
      go_ret
      refine ⟨rfl, ?_⟩
      rw [HBE.out]
      have hall := HB6.out.trans (HB10.out.mono HB6.out.size)
      exact HBW.out.trans (hall.mono (by have := HBW.out.size; rw [HBE.out] at this; exact this))
set_option maxRecDepth 100000 in
set_option maxHeartbeats 4000000 in
theorem LinearOrderC {W : World} {l : List Nat} {v : Value} (h : Bytes W v l) (t u : Int) (ht0 : 0 ≤ t) (ht1 : t ≤ 255) (hu0 : 0 ≤ u) (hu1 : u ≤ 255) :
    Calls Try.prog 3 #[v, .int .u8 t, .int .u8 u] W fun e w' => e = .returned (.bool true) ∧ Below W.heap.size W w' := by
  obtain ⟨A, C, rfl, -⟩ := h.shape
  by_cases hm : 0 < l.length ∧ l.length ≤ 20
  · exact orderMain h hm.1 hm.2 t u ht0 ht1 hu0 hu1
  · obtain ⟨N, hN⟩ : ∃ N, l.length = N := ⟨_, rfl⟩
    rw [hN] at hm ⊢
    clear h hN
    by_cases h0 : N = 0
    · subst h0
      clear hm
      go_enter Try.func3, Try.ntmps3
      go_wp2_with fail
      refine (answersC _).mono ?_
      rintro _ w2 ⟨rfl, hb2⟩
      have HB2 := Lib.hid hb2
      clear hb2
      go_wp2
      go_ret
      exact ⟨rfl, HB2.out⟩
    · have q0 : ((N : Int) == 0) = false := by
        have : (N : Int) ≠ 0 := by omega
        simpa using this
      have q20 : (20 : Int) < (N : Int) := by omega
      clear hm h0
      go_enter Try.func3, Try.ntmps3
      go_wp2_with fail
      refine (answersC _).mono ?_
      rintro _ w2 ⟨rfl, hb2⟩
      have HB2 := Lib.hid hb2
      clear hb2
      go_wp2
      go_ret
      exact ⟨rfl, HB2.out⟩
end Go.Proofs.Ytkibnpienbchaaa.Lnr
