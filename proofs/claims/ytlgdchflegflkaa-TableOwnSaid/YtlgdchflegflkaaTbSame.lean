/- The law's answer whether a table has just what the document's has, as a walk. -/
import Derived.Test.YtlgdchflegflkaaTbSameM
namespace Go.Proofs.Ytlgdchflegflkaa.Tbl
set_option linter.unusedVariables false
open Go.ChangeShapes Go.WideShapes Go.ChangeAt Go.RowKit
open Go.Mem RecM
set_option maxRecDepth 100000 in
set_option maxHeartbeats 16000000 in
theorem sameTC {PD : Thing} (I : TbI PD) {W w : World} {p r : Nat} {t : Tb.TabD} {G : Nat → Prop} (h : MineT PD W w p t) (hv : RT w G r t) (hf : Few t) :
    Calls Try.prog 14 #[.pointer (some ⟨p, 0, none⟩), .pointer (some ⟨r, 0, none⟩)] w fun e w' => e = .returned (.bool true) ∧ Below w.heap.size w w' := by
  have HM := Lib.hid h
  have hok := h.few I
  have HOK := Lib.hid hok
  have HF := Lib.hid hf
  have HRT := Lib.hid hv
  obtain ⟨K, VO, S, hh⟩ := hv
  obtain ⟨AV, CV, rfl, gV1, gV2, -⟩ := hh.objs.len
  obtain ⟨AS, CS, rfl, gS1, gS2, -⟩ := hh.sts.here.shape
  have HH := Lib.hid hh
  have c2 : w.cell? ⟨r, 2, none⟩ = some (.slice AV t.objs.length CV) := hh.cell (i := 2) (by omega)
  have c3 : w.cell? ⟨r, 3, none⟩ = some (.slice AS t.states.length CS) := hh.cell (i := 3) (by omega)
  have c4 : w.cell? ⟨r, 4, none⟩ = some (.int .i64 t.epoch) := hh.cell (i := 4) (by omega)
  have c5 : w.cell? ⟨r, 5, none⟩ = some (.int .i64 t.last) := hh.cell (i := 5) (by omega)
  have HI := Lib.hid (show I64 t.last ∧ I64 t.epoch ∧ t.states.length ≤ 1000 from ⟨⟨by have := hok.last0; omega, by have := hok.last1; omega⟩, ⟨by have := hok.ep0; omega, by have := hok.ep1; omega⟩, by have := hok.drv.2; omega⟩)
  obtain ⟨ep, hep⟩ : ∃ x, t.epoch = x := ⟨_, rfl⟩
  obtain ⟨la, hla⟩ : ∃ x, t.last = x := ⟨_, rfl⟩
  obtain ⟨N, hN⟩ : ∃ x, t.objs.length = x := ⟨_, rfl⟩
  have HN := Lib.hid hN
  have HEP := Lib.hid hep
  have HLA := Lib.hid hla
  have hfew : N ≤ 1000 := by rw [← hN]; exact hf
  have HLT := Lib.hid (fun i (hi : i ≤ N) => Tb.lenTo_le hok (i := i) (by rw [hN]; exact hi))
  have HLA2 := Lib.hid (Tb.lenTo_all hN)
  rw [hN] at c2 gV1
  rw [hep] at c4
  rw [hla] at c5
  clear h hok hf hh hep hla hN
  go_enter Try.func14, Try.ntmps14
  go_wp2_with fail
  refine (HM.out.keysC I HF.out).mono ?_
  rintro _ w2 ⟨VK, rfl, hk, hb2⟩
  obtain ⟨AK, CK, rfl, gK1, gK2, -⟩ := hk.shape
  rw [List.length_map, HN.out] at gK1 hk ⊢
  have HK := Lib.hid hk
  have HB2 := Lib.hid hb2
  have HC := Lib.hid (show ∀ w', Below w2.heap.size w2 w' → w'.cell? ⟨r, 2, none⟩ = some (.slice AV N CV) ∧ w'.cell? ⟨r, 3, none⟩ = some (.slice AS t.states.length CS) ∧ w'.cell? ⟨r, 4, none⟩ = some (.int .i64 ep) ∧ w'.cell? ⟨r, 5, none⟩ = some (.int .i64 la) from
    fun w' q => ⟨below_cell q _ _ (below_cell hb2 _ _ c2), below_cell q _ _ (below_cell hb2 _ _ c3), below_cell q _ _ (below_cell hb2 _ _ c4), below_cell q _ _ (below_cell hb2 _ _ c5)⟩)
  have HMB := Lib.hid (show ∀ w', Below w2.heap.size w2 w' → MineT PD W w' p t from fun w' q => (HM.out.below I hb2).below I q)
  have HRB := Lib.hid (show ∀ w', Below w2.heap.size w2 w' → RTAt w' G K r (.slice AV t.objs.length CV) (.slice AS t.states.length CS) t from fun w' q => (HH.out.below hb2).below q)
  have HRT2 := Lib.hid (show ∀ w', Below w2.heap.size w2 w' → RT w' G r t from fun w' q => (HRT.out.below hb2).below q)
  have hd0 : Below w2.heap.size w2 w2.drew := Go.Mem.below_drewN _ w2 1
  have f1 : (N != N) = false := by simp
  have f2 : (ep != ep) = false := by simp
  have f3 : (la != la) = false := by simp
  clear hk hb2 c2 c3 c4 c5
  go_wp2_with fail
  go_region_held3 (fun w' => Below w2.heap.size w2 w' ∧ w'.cell? ⟨r, 2, none⟩ = some (.slice AV N CV) ∧ w'.cell? ⟨r, 3, none⟩ = some (.slice AS t.states.length CS) ∧ w'.cell? ⟨r, 4, none⟩ = some (.int .i64 ep) ∧ w'.cell? ⟨r, 5, none⟩ = some (.int .i64 la))
    (first | with_reducible exact ⟨hd7, HC.out _ hd7⟩ | with_reducible exact ⟨hd6, HC.out _ hd6⟩ | with_reducible exact ⟨hd5, HC.out _ hd5⟩ | with_reducible exact ⟨hd4, HC.out _ hd4⟩ | with_reducible exact ⟨hd3, HC.out _ hd3⟩ | with_reducible exact ⟨hd2, HC.out _ hd2⟩ | with_reducible exact ⟨hd1, HC.out _ hd1⟩ | with_reducible exact ⟨hd0, HC.out _ hd0⟩)
    (first | (go_at_call 23; (with_reducible refine ((HMB.out _ hd0).statesC I).mono ?_); rintro _ w3 ⟨VS, rfl, hs3, hb3⟩; obtain ⟨A3, C3, rfl, -, -, -⟩ := hs3.shape; have HS3 := Lib.hid hs3; have hd1 := nxt hd0 hb3 (Nat.le_refl _); clear hb3 hs3)
            | (go_at_call 33; (with_reducible refine (Rec.intsC t.states t.states _ _ _ HS3.out (HRB.out _ hd1).sts.here).mono ?_); rintro _ w4 ⟨rfl, n4, hw4⟩; rw [Rec.eqB_yes rfl]; have hd2 : Below w2.heap.size w2 w4 := (by rw [hw4]; exact hd1.trans (Go.Mem.below_drewN _ _ _)); clear hw4 HS3)
            | (go_at_call 25; (with_reducible refine ((HMB.out _ hd2).epochC I).mono ?_); rintro _ w5 ⟨rfl, hb5⟩; rw [HEP.out]; have hd3 := nxt hd2 hb5 (Nat.le_refl _); clear hb5)
            | (go_at_call 26; (with_reducible refine ((HMB.out _ hd3).lastC I).mono ?_); rintro _ w6 ⟨rfl, hb6⟩; rw [HLA.out]; have hd4 := nxt hd3 hb6 (Nat.le_refl _); clear hb6)
            | (go_at_call 15; (with_reducible refine ((HMB.out _ hd4).allC I HF.out).mono ?_); rintro _ w7 ⟨V7, rfl, hr7, hb7⟩; have HV7 := Lib.hid hr7; obtain ⟨As, Ao, Ad, Cs, Co, Cd, rfl, -⟩ := hr7; unfold recVal at HV7 ⊢; have hd5 := nxt hd4 hb7 (Nat.le_refl _); clear hb7)
            | (go_at_call 34; (with_reducible refine (refAllC (HRT2.out _ hd5) (by rw [HN.out]; omega) HI.out.1 HI.out.2.1 HI.out.2.2).mono ?_); rintro _ w8 ⟨V8, rfl, hr8, hb8⟩; have HV8 := Lib.hid hr8; have HV7 := Lib.hid (RecV.below HV7.out hb8); obtain ⟨As8, Ao8, Ad8, Cs8, Co8, Cd8, rfl, -⟩ := hr8; unfold recVal at HV8 ⊢; have hd6 := nxt hd5 hb8 (Nat.le_refl _); clear hb8)
            | (go_at_call 27; (with_reducible refine (Rec.refSame HV7.out HV8.out).mono ?_); rintro _ w9 ⟨rfl, hb9⟩; rw [Rec.eqB_yes rfl]; have hd7 := nxt hd6 hb9 (Nat.le_refl _); clear hb9 HV7 HV8))
  all_goals
    have HD7 := Lib.hid hd7
    clear hd0 hd1 hd2 hd3 hd4 hd5 hd6 hd7 f1 f2 f3
    go_wp2_with fail
    go_loopw [6, 7] (fun d c wr => ∃ i : Nat, i ≤ N ∧ c = .int .i64 i ∧ d = .int .i64 (Tb.lenTo t.objs i) ∧ Below w2.heap.size w2 wr) (fun _ c _ => N - (intOf c).toNat)
    case atStart => exact ⟨0, Nat.zero_le _, rfl, rfl, HD7.out⟩
    case round =>
      obtain ⟨i, hi, rfl, rfl, hb⟩ := hrel
      have HB := Lib.hid hb
      have HLI := Lib.hid (HLT.out i hi)
      by_cases hlt : i < N
      · have hil : i < t.objs.length := by rw [HN.out]; exact hlt
        obtain ⟨bK, oK, rfl, a0⟩ := (HK.out.below hb).at (i := i) (by rw [List.length_map]; exact hil)
        rw [List.getElem_map] at a0
        have ha2 := (HC.out _ hb).1
        obtain ⟨gV, A', C', rfl, v0, -, -, -, -⟩ := BuiltX.val (HRB.out _ hb).objs hil
        have hfi := Tb.find_obj HOK.out.all.2.1 hil
        have HON := Lib.hid (show ∀ w', Below w2.heap.size w2 w' → Objs w' (.slice (some ⟨gV, 0 + i * 4, none⟩) 1 (CV - i)) [t.objs[i]] from fun w' q => Objs.one (show Objs w' _ _ from (HRB.out _ q).objs.cells) hil (by omega) gV2)
        have hoc := (HMB.out _ hb).objectC I HF.out t.objs[i].key
        rw [hfi] at hoc
        have HLS := Lib.hid (Tb.lenTo_succ hil)
        have hm96 := Tb.len96 HOK.out.k1 (HOK.out.all.1 _ (List.getElem_mem hil)).1
        obtain ⟨x, hx⟩ : ∃ x, t.objs[i] = x := ⟨_, rfl⟩
        rw [hx] at a0 v0 hoc HON HLS hm96
        have hoc2 : Calls Try.prog 18 #[.pointer (some ⟨p, 0, none⟩), .string x.key] wr fun e w' => ∃ A' C', e = .returned (.tuple #[.agg #[.string x.key, .int .i64 x.id, .int .i64 x.size, .slice A' x.stripes.length C'], .bool true]) ∧ Stps w' (.slice A' x.stripes.length C') x.stripes ∧ (I64 x.id ∧ I64 x.size ∧ KeyOk x.key ∧ LenOk x.stripes.length) ∧ Below wr.heap.size wr w' := hoc.mono fun e w' ⟨V, o, e1, hV, ho, hb⟩ => by
          have e2 := ho x rfl
          subst e2
          obtain ⟨A', C', rfl, h1, h2, h3, h4, h5⟩ := hV
          exact ⟨A', C', e1, h1, ⟨h2, h3, h4, h5⟩, hb⟩
        have HOC := Lib.hid hoc2
        obtain ⟨M, hM⟩ : ∃ M, x.stripes.length = M := ⟨_, rfl⟩
        have HMN := Lib.hid hM
        rw [hM] at HOC HLS hm96
        obtain ⟨l0, hl0⟩ : ∃ l0, Tb.lenTo t.objs i = l0 := ⟨_, rfl⟩
        rw [hl0] at HLI HLS ⊢
        have q1 : (0 : Int) ≤ (i : Int) := by omega
        have q2 : (i : Int) < (N : Int) := by omega
        clear hx hil hoc hoc2 hM hl0 hb hfi
        go_wp2_with fail
        refine HOC.out.mono ?_
        rintro _ w3 ⟨A3, C3, rfl, hs3, hi3, hb3⟩
        have hb23 : Below w2.heap.size w2 w3 := HB.out.trans (hb3.mono HB.out.size)
        go_upto_region 9 with (fail)
        obtain ⟨wb, hwb⟩ : ∃ wb, w3.alloc (.cells #[.string x.key, .int .i64 x.id, .int .i64 x.size, .slice A3 M C3] TObj) = wb := ⟨_, rfl⟩
        have hbb : Below w3.heap.size w3 wb := by rw [← hwb]; exact (Below.refl _ _).alloc (Nat.le_refl _) _
        have hrow5 : wb.rowIs w3.heap.size TObj 4 (fun j => #[Value.string x.key, .int .i64 x.id, .int .i64 x.size, .slice A3 M C3].getD j undef) := by rw [← hwb]; exact row_of _ _ _
        have hb2b : Below w2.heap.size w2 wb := hb23.trans (hbb.mono hb23.size)
        obtain ⟨g5, hg5⟩ : ∃ g, w3.heap.size = g := ⟨_, rfl⟩
        rw [hg5] at hrow5
        rw [hg5]
        rw [hwb]
        have hb3b : Below wr.heap.size wr wb := hb3.trans (hbb.mono hb3.size)
        have p0 : wb.cell? ⟨g5, 0, none⟩ = some (.string x.key) := hrow5.cell (i := 0) (by omega)
        have p1 : wb.cell? ⟨g5, 1, none⟩ = some (.int .i64 x.id) := hrow5.cell (i := 1) (by omega)
        have p2 : wb.cell? ⟨g5, 2, none⟩ = some (.int .i64 x.size) := hrow5.cell (i := 2) (by omega)
        have p3 : wb.cell? ⟨g5, 3, none⟩ = some (.slice A3 M C3) := hrow5.cell (i := 3) (by omega)
        have HCB := Lib.hid (show ∀ w', Below wb.heap.size wb w' → w'.cell? ⟨bK, oK + i, none⟩ = some (.string x.key) ∧ w'.cell? ⟨r, 2, none⟩ = some (.slice (some ⟨gV, 0, none⟩) N CV) ∧ w'.cell? ⟨gV, i * 4, none⟩ = some (.string x.key) ∧ w'.cell? ⟨g5, 0, none⟩ = some (.string x.key) ∧ w'.cell? ⟨g5, 1, none⟩ = some (.int .i64 x.id) ∧ w'.cell? ⟨g5, 2, none⟩ = some (.int .i64 x.size) ∧ w'.cell? ⟨g5, 3, none⟩ = some (.slice A3 M C3) from
          fun w' q => ⟨below_cell q _ _ (below_cell hb3b _ _ a0), below_cell q _ _ (below_cell hb3b _ _ ha2), below_cell q _ _ (below_cell hb3b _ _ v0), below_cell q _ _ p0, below_cell q _ _ p1, below_cell q _ _ p2, below_cell q _ _ p3⟩)
        have hd0 : Below wb.heap.size wb wb.drew := Go.Mem.below_drewN _ wb 1
        have hdal : Below wb.drew.heap.size wb.drew (wb.drew.alloc (.cells #[.string x.key, .int .i64 x.id, .int .i64 x.size, .slice A3 M C3] TObj)) := (Below.refl _ _).alloc (Nat.le_refl _) _
        have hd1 : Below wb.heap.size wb (wb.alloc (.cells #[.string x.key, .int .i64 x.id, .int .i64 x.size, .slice A3 M C3] 46)).drew := hd0.trans (hdal.mono hd0.size)
        have hnc : ¬ CV = i := by omega
        have hst : Stps (wb.drew.alloc (.cells #[.string x.key, .int .i64 x.id, .int .i64 x.size, .slice A3 M C3] TObj)) (.slice A3 x.stripes.length C3) x.stripes := by
          rw [HMN.out]
          exact (hs3.below hbb).below hd1
        have hal := obj_alone (w := wb.drew) (w' := wb.drew.alloc (.cells #[.string x.key, .int .i64 x.id, .int .i64 x.size, .slice A3 M C3] TObj)) (T := TObj) (o := x) (A := A3) (C := C3) (by rw [HMN.out]; exact Below.refl _ _) hst hi3.1 hi3.2.1 hi3.2.2.1 (by rw [HMN.out]; exact hi3.2.2.2)
        have hcall := Rec.objectsC [x] [x] _ _ _ hal (HON.out _ (hb2b.trans (hd1.mono hb2b.size)))
        rw [Rec.eqB_yes rfl, Nat.zero_add] at hcall
        have HCALL := Lib.hid (show Calls Try.prog 19 #[.slice (some ⟨wb.heap.size, 0, none⟩) 1 1, .slice (some ⟨gV, i * 4, none⟩) 1 (CV - i)] (wb.alloc (.cells #[.string x.key, .int .i64 x.id, .int .i64 x.size, .slice A3 M C3] 46)).drew fun e w' => e = .returned (.bool true) ∧ ∃ n, w' = (wb.alloc (.cells #[.string x.key, .int .i64 x.id, .int .i64 x.size, .slice A3 M C3] 46)).drew.drewN n from hcall)
        have HB2B := Lib.hid hb2b
        have e9 : (x.key.toList == x.key.toList) = true := by simp
        have q3 : IntKind.i64.wrap ((i : Int) + 1) = (i : Int) + 1 := IntWalk.i64_in _ (by omega)
        have q4 : (0 : Int) ≤ (i : Int) + 1 := by omega
        have q5 : ((i : Int) + 1).toNat = i + 1 := by omega
        have q6 : (i : Int) + 1 ≤ (CV : Int) := by omega
        clear a0 ha2 v0 hs3 hi3 hb3 hb23 hbb hrow5 hb2b hb3b hwb hg5 p0 p1 p2 p3 hst hal hcall hdal
        go_region_held3 (fun w' => w'.cell? ⟨bK, oK + i, none⟩ = some (.string x.key) ∧ w'.cell? ⟨r, 2, none⟩ = some (.slice (some ⟨gV, 0, none⟩) N CV) ∧ w'.cell? ⟨gV, i * 4, none⟩ = some (.string x.key) ∧ w'.cell? ⟨g5, 0, none⟩ = some (.string x.key) ∧ w'.cell? ⟨g5, 1, none⟩ = some (.int .i64 x.id) ∧ w'.cell? ⟨g5, 2, none⟩ = some (.int .i64 x.size) ∧ w'.cell? ⟨g5, 3, none⟩ = some (.slice A3 M C3))
          (first | with_reducible exact HCB.out _ hd2 | with_reducible exact HCB.out _ hd1 | with_reducible exact HCB.out _ hd0)
          ((go_at_call 19; (with_reducible refine HCALL.out.mono ?_); rintro _ w5 ⟨rfl, n5, hw5⟩; have hd2 : Below wb.heap.size wb w5 := (by rw [hw5]; exact hd1.trans (Go.Mem.below_drewN _ _ _)); clear hw5))
        all_goals
          obtain ⟨-, -, -, y0, y1, y2, y3⟩ := HCB.out _ hd2
          have HB5 := Lib.hid (HB2B.out.trans (hd2.mono HB2B.out.size))
          have hl0 : l0 ≤ 96000 := by have := HLI.out; omega
          clear hd0 hd1 hd2 q3 q4 q5 q6 e9 hnc
          go_wp2_with fail
          go_roundw
          case rel => exact ⟨i + 1, by omega, by go_num, by rw [HLS.out]; go_num, HB5.out⟩
          case measure => simp [intOf]; omega
      · obtain rfl : i = N := by omega
        rw [HLA2.out]
        clear hlt hi HLI
        go_wp2_with fail
        refine ((HMB.out _ HB.out).stripesC I HF.out).mono ?_
        rintro _ wl ⟨VL, rfl, htold, hbl⟩
        obtain ⟨AL, CL, rfl, gL1, gL2, -⟩ := htold.here.shape
        have HL := Lib.hid htold.here
        obtain ⟨NL, hNL⟩ : ∃ x, (Tb.rowS t).length = x := ⟨_, rfl⟩
        have HNL := Lib.hid hNL
        rw [hNL] at gL1 HL ⊢
        have HBL := Lib.hid (show Below w2.heap.size w2 wl from HB.out.trans (hbl.mono HB.out.size))
        have hNL2 : NL ≤ 96000 := by
          have h1 := HLT.out i (Nat.le_refl _)
          rw [HLA2.out, hNL] at h1
          omega
        clear htold hbl hNL
        have HBL0 := Lib.hid (Below.refl wl.heap.size wl)
        go_wp2_with fail
        go_loopw [11] (fun c wr => ∃ k : Nat, k ≤ NL ∧ c = .int .i64 k ∧ Below wl.heap.size wl wr) (fun c _ => NL - (intOf c).toNat)
        case atStart => exact ⟨0, Nat.zero_le _, rfl, HBL0.out⟩
        case round =>
          obtain ⟨k, hk, rfl, hb⟩ := hrel
          have HB1 := Lib.hid hb
          by_cases hlt : k < NL
          · have hkl : k < (Tb.rowS t).length := by rw [HNL.out]; exact hlt
            obtain ⟨bL, oL, A', C', rfl, a0, -, -, -, ai, -⟩ := (HL.out.below hb).at hkl
            have HONE := Lib.hid (show ∀ w', Below wl.heap.size wl w' → Stps w' (.slice (some ⟨bL, oL + k * 3, none⟩) 1 (CL - k)) [(Tb.rowS t)[k]] from fun w' q => Stps.one (Stps.below HL.out q) hkl (by omega) gL2)
            have hrs := refStripeC (w := wr) (HRT2.out _ (HBL.out.trans (hb.mono HBL.out.size))) HOK.out (Tb.rowS t)[k].id ai
            rw [Tb.row_find HOK.out hkl] at hrs
            have HPREV := Lib.hid (show 0 < k → ∃ j1 y, j1 + 1 = k ∧ wr.cell? ⟨bL, oL + j1 * 3, none⟩ = some (.int .i64 y) ∧ y < (Tb.rowS t)[k].id from fun q => by
              have hj : k - 1 < (Tb.rowS t).length := by omega
              obtain ⟨b', o', _, _, e, a, -⟩ := (HL.out.below hb).at hj
              cases e
              exact ⟨k - 1, _, by omega, a, Tb.row_lt HOK.out hj hkl (by omega)⟩)
            obtain ⟨x, hx⟩ : ∃ x, (Tb.rowS t)[k] = x := ⟨_, rfl⟩
            rw [hx] at a0 ai HONE hrs HPREV
            have hrs2 : Calls Try.prog 17 #[.pointer (some ⟨r, 0, none⟩), .int .i64 x.id] wr fun e w' => ∃ A' C', e = .returned (.tuple #[.agg #[.int .i64 x.id, .int .i64 x.ep, .slice A' x.locs.length C'], .bool true]) ∧ Ints w' (.slice A' x.locs.length C') x.locs ∧ (I64 x.id ∧ I64 x.ep ∧ LenOk x.locs.length) ∧ Below wr.heap.size wr w' := hrs.mono fun e w' ⟨V, e1, hV, hb⟩ => by
              obtain ⟨A', C', rfl, h1, h2⟩ := hV
              exact ⟨A', C', e1, h1, h2, hb⟩
            have HRS := Lib.hid hrs2
            obtain ⟨M, hM⟩ : ∃ M, x.locs.length = M := ⟨_, rfl⟩
            have HMN := Lib.hid hM
            rw [hM] at HRS
            have q1 : (0 : Int) ≤ (k : Int) := by omega
            have q2 : (k : Int) < (NL : Int) := by omega
            clear hx hkl hrs hrs2 hM ai
            go_wp2_with fail
            refine HRS.out.mono ?_
            rintro _ w3 ⟨A3, C3, rfl, hs3, hi3, hb3⟩
            go_upto_region 17 with (fail)
            obtain ⟨wb, hwb⟩ : ∃ wb, w3.alloc (.cells #[.int .i64 x.id, .int .i64 x.ep, .slice A3 M C3] TStp) = wb := ⟨_, rfl⟩
            have hbb : Below w3.heap.size w3 wb := by rw [← hwb]; exact (Below.refl _ _).alloc (Nat.le_refl _) _
            have hrow5 : wb.rowIs w3.heap.size TStp 3 (fun j => #[Value.int .i64 x.id, .int .i64 x.ep, .slice A3 M C3].getD j undef) := by rw [← hwb]; exact row_of _ _ _
            have hlb : Below wl.heap.size wl wb := HB1.out.trans ((hb3.trans (hbb.mono hb3.size)).mono HB1.out.size)
            obtain ⟨g5, hg5⟩ : ∃ g, w3.heap.size = g := ⟨_, rfl⟩
            rw [hg5] at hrow5
            rw [hg5]
            rw [hwb]
            have hb3b : Below wr.heap.size wr wb := hb3.trans (hbb.mono hb3.size)
            have p0 : wb.cell? ⟨g5, 0, none⟩ = some (.int .i64 x.id) := hrow5.cell (i := 0) (by omega)
            have p1 : wb.cell? ⟨g5, 1, none⟩ = some (.int .i64 x.ep) := hrow5.cell (i := 1) (by omega)
            have p2 : wb.cell? ⟨g5, 2, none⟩ = some (.slice A3 M C3) := hrow5.cell (i := 2) (by omega)
            have HCB := Lib.hid (show ∀ w', Below wb.heap.size wb w' → w'.cell? ⟨bL, oL + k * 3, none⟩ = some (.int .i64 x.id) ∧ w'.cell? ⟨g5, 0, none⟩ = some (.int .i64 x.id) ∧ w'.cell? ⟨g5, 1, none⟩ = some (.int .i64 x.ep) ∧ w'.cell? ⟨g5, 2, none⟩ = some (.slice A3 M C3) from
              fun w' q => ⟨below_cell q _ _ (below_cell hb3b _ _ a0), below_cell q _ _ p0, below_cell q _ _ p1, below_cell q _ _ p2⟩)
            have hd0 : Below wb.heap.size wb wb.drew := Go.Mem.below_drewN _ wb 1
            have hdal : Below wb.drew.heap.size wb.drew (wb.drew.alloc (.cells #[.int .i64 x.id, .int .i64 x.ep, .slice A3 M C3] TStp)) := (Below.refl _ _).alloc (Nat.le_refl _) _
            have hd1 : Below wb.heap.size wb (wb.alloc (.cells #[.int .i64 x.id, .int .i64 x.ep, .slice A3 M C3] 42)).drew := hd0.trans (hdal.mono hd0.size)
            have hnc : ¬ CL = k := by omega
            have hint : Ints (wb.drew.alloc (.cells #[.int .i64 x.id, .int .i64 x.ep, .slice A3 M C3] TStp)) (.slice A3 x.locs.length C3) x.locs := by
              rw [HMN.out]
              exact (hs3.below hbb).below hd1
            have hal := stp_alone (w := wb.drew) (w' := wb.drew.alloc (.cells #[.int .i64 x.id, .int .i64 x.ep, .slice A3 M C3] TStp)) (T := TStp) (F := fun _ => False) (s := x) (A := A3) (C := C3) (fun b q => q.elim) (by rw [HMN.out]; exact Turned.refl _ _) hint hi3.1 hi3.2.1 (by rw [HMN.out]; exact hi3.2.2)
            have hcall := Rec.stripesC [x] [x] _ _ _ (HONE.out _ (hlb.trans (hd1.mono hlb.size))) hal
            rw [Rec.eqB_yes rfl] at hcall
            have HCALL := Lib.hid (show Calls Try.prog 20 #[.slice (some ⟨bL, oL + k * 3, none⟩) 1 (CL - k), .slice (some ⟨wb.heap.size, 0, none⟩) 1 1] (wb.alloc (.cells #[.int .i64 x.id, .int .i64 x.ep, .slice A3 M C3] 42)).drew fun e w' => e = .returned (.bool true) ∧ ∃ n, w' = (wb.alloc (.cells #[.int .i64 x.id, .int .i64 x.ep, .slice A3 M C3] 42)).drew.drewN n from hcall)
            have HLB := Lib.hid hlb
            have q3 : IntKind.i64.wrap ((k : Int) + 1) = (k : Int) + 1 := IntWalk.i64_in _ (by omega)
            have q4 : (0 : Int) ≤ (k : Int) + 1 := by omega
            have q5 : ((k : Int) + 1).toNat = k + 1 := by omega
            have q6 : (k : Int) + 1 ≤ (CL : Int) := by omega
            have HA6 := Lib.hid (fun j y (q : wr.cell? ⟨bL, oL + j * 3, none⟩ = some (.int .i64 y)) => below_cell (hb3b.trans (hd0.mono hb3b.size)) _ _ q)
            have HA61 := Lib.hid (fun j y (q : wr.cell? ⟨bL, oL + j * 3, none⟩ = some (.int .i64 y)) w' (z : Below wb.heap.size wb w') => below_cell z _ _ (below_cell hb3b _ _ q))
            clear a0 hs3 hi3 hb3 hbb hrow5 hlb hb3b hwb hg5 p0 p1 p2 hint hal hcall hdal hb
            by_cases hk0 : k = 0
            · have f2 : decide (0 < k) = false := decide_eq_false (by omega)
              have f3 : decide ((0 : Int) < (k : Int)) = false := decide_eq_false (by omega)
              clear hk0
              refine wp_region_noPanic ?_
              refine wp_region_held_drew (S := (fun w' => w'.cell? ⟨bL, oL + k * 3, none⟩ = some (.int .i64 x.id) ∧ w'.cell? ⟨g5, 0, none⟩ = some (.int .i64 x.id) ∧ w'.cell? ⟨g5, 1, none⟩ = some (.int .i64 x.ep) ∧ w'.cell? ⟨g5, 2, none⟩ = some (.slice A3 M C3))) (by kernel_rfl) ?_ (fun hHeld => ?_)
              · exact HCB.out _ hd0
              refine wpAnyH_take (i := 0) (oi := ?oiz11) (v := ?vz11) ?h1z11 (by kernel_rfl) (by kernel_rfl) (by kernel_rfl) (fun _ _ _ h => h) ?hyz11 (by assumption) ?_
              case h1z11 => (simp only [List.getElem?_toArray, List.getElem?_cons_zero]; rfl)
              case hyz11 => first | (refine Or.inr ⟨rfl, ?_⟩; rfl) | (refine Or.inl ⟨rfl, ?_⟩; intro w hSw; (try dsimp only at hSw); go_simp; done) | (refine Or.inl ⟨rfl, ?_⟩; intro w hSw; (try dsimp only at hSw); go_simp; with_reducible rfl)
              try simp only [Act.put, List.setIfInBounds_toArray, List.set_cons_zero, List.set_cons_succ]
              refine wpAnyH_take (i := 1) (oi := ?oiz12) (v := ?vz12) ?h1z12 (by kernel_rfl) (by kernel_rfl) (by kernel_rfl) (fun _ _ _ h => h) ?hyz12 (by assumption) ?_
              case h1z12 => (simp only [List.getElem?_toArray, List.getElem?_cons_succ, List.getElem?_cons_zero]; rfl)
              case hyz12 => first | (refine Or.inr ⟨rfl, ?_⟩; rfl) | (refine Or.inl ⟨rfl, ?_⟩; intro w hSw; (try dsimp only at hSw); go_simp; done) | (refine Or.inl ⟨rfl, ?_⟩; intro w hSw; (try dsimp only at hSw); go_simp; with_reducible rfl)
              try simp only [Act.put, List.setIfInBounds_toArray, List.set_cons_zero, List.set_cons_succ]
              refine wpAnyH_take (i := 2) (oi := ?oiz13) (v := ?vz13) ?h1z13 (by kernel_rfl) (by kernel_rfl) (by kernel_rfl) (fun _ _ _ h => h) ?hyz13 (by assumption) ?_
              case h1z13 => (simp only [List.getElem?_toArray, List.getElem?_cons_succ, List.getElem?_cons_zero]; rfl)
              case hyz13 => first | (refine Or.inr ⟨rfl, ?_⟩; rfl) | (refine Or.inl ⟨rfl, ?_⟩; intro w hSw; (try dsimp only at hSw); go_simp; done) | (refine Or.inl ⟨rfl, ?_⟩; intro w hSw; (try dsimp only at hSw); go_simp; with_reducible rfl)
              try simp only [Act.put, List.setIfInBounds_toArray, List.set_cons_zero, List.set_cons_succ]
              refine wpAnyH_take (i := 3) (oi := ?oiz14) (v := ?vz14) ?h1z14 (by kernel_rfl) (by kernel_rfl) (by kernel_rfl) (fun _ _ _ h => h) ?hyz14 (by assumption) ?_
              case h1z14 => (simp only [List.getElem?_toArray, List.getElem?_cons_succ, List.getElem?_cons_zero]; rfl)
              case hyz14 => first | (refine Or.inr ⟨rfl, ?_⟩; rfl) | (refine Or.inl ⟨rfl, ?_⟩; intro w hSw; (try dsimp only at hSw); go_simp; done) | (refine Or.inl ⟨rfl, ?_⟩; intro w hSw; (try dsimp only at hSw); go_simp; with_reducible rfl)
              try simp only [Act.put, List.setIfInBounds_toArray, List.set_cons_zero, List.set_cons_succ]
              refine wpAnyH_take (i := 4) (oi := ?oiz15) (v := ?vz15) ?h1z15 (by kernel_rfl) (by kernel_rfl) (by kernel_rfl) (fun _ _ _ h => h) ?hyz15 (by assumption) ?_
              case h1z15 => (simp only [List.getElem?_toArray, List.getElem?_cons_succ, List.getElem?_cons_zero]; rfl)
              case hyz15 => first | (refine Or.inr ⟨rfl, ?_⟩; rfl) | (refine Or.inl ⟨rfl, ?_⟩; intro w hSw; (try dsimp only at hSw); go_simp; done) | (refine Or.inl ⟨rfl, ?_⟩; intro w hSw; (try dsimp only at hSw); go_simp; with_reducible rfl)
              try simp only [Act.put, List.setIfInBounds_toArray, List.set_cons_zero, List.set_cons_succ]
              refine wpAnyH_take (i := 5) (oi := ?oiz16) (v := ?vz16) ?h1z16 (by kernel_rfl) (by kernel_rfl) (by kernel_rfl) (fun _ _ _ h => h) ?hyz16 (by assumption) ?_
              case h1z16 => (simp only [List.getElem?_toArray, List.getElem?_cons_succ, List.getElem?_cons_zero]; rfl)
              case hyz16 => first | (refine Or.inr ⟨rfl, ?_⟩; rfl) | (refine Or.inl ⟨rfl, ?_⟩; intro w hSw; (try dsimp only at hSw); go_simp; done) | (refine Or.inl ⟨rfl, ?_⟩; intro w hSw; (try dsimp only at hSw); go_simp; with_reducible rfl)
              try simp only [Act.put, List.setIfInBounds_toArray, List.set_cons_zero, List.set_cons_succ]
              refine wpAnyH_take (i := 6) (oi := ?oiz17) (v := ?vz17) ?h1z17 (by kernel_rfl) (by kernel_rfl) (by kernel_rfl) (fun _ _ _ h => h) ?hyz17 (by assumption) ?_
              case h1z17 => (simp only [List.getElem?_toArray, List.getElem?_cons_succ, List.getElem?_cons_zero]; rfl)
              case hyz17 => first | (refine Or.inr ⟨rfl, ?_⟩; rfl) | (refine Or.inl ⟨rfl, ?_⟩; intro w hSw; (try dsimp only at hSw); go_simp; done) | (refine Or.inl ⟨rfl, ?_⟩; intro w hSw; (try dsimp only at hSw); go_simp; with_reducible rfl)
              try simp only [Act.put, List.setIfInBounds_toArray, List.set_cons_zero, List.set_cons_succ]
              refine wpAnyH_take (i := 7) (oi := ?oiz18) (v := ?vz18) ?h1z18 (by kernel_rfl) (by kernel_rfl) (by kernel_rfl) (fun _ _ _ h => h) ?hyz18 (by assumption) ?_
              case h1z18 => (simp only [List.getElem?_toArray, List.getElem?_cons_succ, List.getElem?_cons_zero]; rfl)
              case hyz18 => first | (refine Or.inr ⟨rfl, ?_⟩; rfl) | (refine Or.inl ⟨rfl, ?_⟩; intro w hSw; (try dsimp only at hSw); go_simp; done) | (refine Or.inl ⟨rfl, ?_⟩; intro w hSw; (try dsimp only at hSw); go_simp; with_reducible rfl)
              try simp only [Act.put, List.setIfInBounds_toArray, List.set_cons_zero, List.set_cons_succ]
              refine wpAnyH_take (i := 8) (oi := ?oiz19) (v := ?vz19) ?h1z19 (by kernel_rfl) (by kernel_rfl) (by kernel_rfl) (fun _ _ _ h => h) ?hyz19 (by assumption) ?_
              case h1z19 => (simp only [List.getElem?_toArray, List.getElem?_cons_succ, List.getElem?_cons_zero]; rfl)
              case hyz19 => first | (refine Or.inr ⟨rfl, ?_⟩; rfl) | (refine Or.inl ⟨rfl, ?_⟩; intro w hSw; (try dsimp only at hSw); go_simp; done) | (refine Or.inl ⟨rfl, ?_⟩; intro w hSw; (try dsimp only at hSw); go_simp; with_reducible rfl)
              try simp only [Act.put, List.setIfInBounds_toArray, List.set_cons_zero, List.set_cons_succ]
              refine wpAnyH_take (i := 9) (oi := ?oiz20) (v := ?vz20) ?h1z20 (by kernel_rfl) (by kernel_rfl) (by kernel_rfl) (fun _ _ _ h => h) ?hyz20 (by assumption) ?_
              case h1z20 => (simp only [List.getElem?_toArray, List.getElem?_cons_succ, List.getElem?_cons_zero]; rfl)
              case hyz20 => first | (refine Or.inr ⟨rfl, ?_⟩; rfl) | (refine Or.inl ⟨rfl, ?_⟩; intro w hSw; (try dsimp only at hSw); go_simp; done) | (refine Or.inl ⟨rfl, ?_⟩; intro w hSw; (try dsimp only at hSw); go_simp; with_reducible rfl)
              try simp only [Act.put, List.setIfInBounds_toArray, List.set_cons_zero, List.set_cons_succ]
              refine wpAnyH_take (i := 10) (oi := ?oiz21) (v := ?vz21) ?h1z21 (by kernel_rfl) (by kernel_rfl) (by kernel_rfl) (fun _ _ _ h => h) ?hyz21 (by assumption) ?_
              case h1z21 => (simp only [List.getElem?_toArray, List.getElem?_cons_succ, List.getElem?_cons_zero]; rfl)
              case hyz21 => first | (refine Or.inr ⟨rfl, ?_⟩; rfl) | (refine Or.inl ⟨rfl, ?_⟩; intro w hSw; (try dsimp only at hSw); go_simp; done) | (refine Or.inl ⟨rfl, ?_⟩; intro w hSw; (try dsimp only at hSw); go_simp; with_reducible rfl)
              try simp only [Act.put, List.setIfInBounds_toArray, List.set_cons_zero, List.set_cons_succ]
              refine wpAnyH_take (i := 11) (oi := ?oiz22) (v := ?vz22) ?h1z22 (by kernel_rfl) (by kernel_rfl) (by kernel_rfl) (fun _ _ _ h => h) ?hyz22 (by assumption) ?_
              case h1z22 => (simp only [List.getElem?_toArray, List.getElem?_cons_succ, List.getElem?_cons_zero]; rfl)
              case hyz22 => first | (refine Or.inr ⟨rfl, ?_⟩; rfl) | (refine Or.inl ⟨rfl, ?_⟩; intro w hSw; (try dsimp only at hSw); go_simp; done) | (refine Or.inl ⟨rfl, ?_⟩; intro w hSw; (try dsimp only at hSw); go_simp; with_reducible rfl)
              try simp only [Act.put, List.setIfInBounds_toArray, List.set_cons_zero, List.set_cons_succ]
              refine wpAnyH_take (i := 12) (oi := ?oiz23) (v := ?vz23) ?h1z23 (by kernel_rfl) (by kernel_rfl) (by kernel_rfl) (fun _ _ _ h => h) ?hyz23 (by assumption) ?_
              case h1z23 => (simp only [List.getElem?_toArray, List.getElem?_cons_succ, List.getElem?_cons_zero]; rfl)
              case hyz23 => first | (refine Or.inr ⟨rfl, ?_⟩; rfl) | (refine Or.inl ⟨rfl, ?_⟩; intro w hSw; (try dsimp only at hSw); go_simp; done) | (refine Or.inl ⟨rfl, ?_⟩; intro w hSw; (try dsimp only at hSw); go_simp; with_reducible rfl)
              try simp only [Act.put, List.setIfInBounds_toArray, List.set_cons_zero, List.set_cons_succ]
              refine wpAnyH_take (i := 13) (oi := ?oiz24) (v := ?vz24) ?h1z24 (by kernel_rfl) (by kernel_rfl) (by kernel_rfl) (fun _ _ _ h => h) ?hyz24 (by assumption) ?_
              case h1z24 => (simp only [List.getElem?_toArray, List.getElem?_cons_succ, List.getElem?_cons_zero]; rfl)
              case hyz24 => first | (refine Or.inr ⟨rfl, ?_⟩; rfl) | (refine Or.inl ⟨rfl, ?_⟩; intro w hSw; (try dsimp only at hSw); go_simp; done) | (refine Or.inl ⟨rfl, ?_⟩; intro w hSw; (try dsimp only at hSw); go_simp; with_reducible rfl)
              try simp only [Act.put, List.setIfInBounds_toArray, List.set_cons_zero, List.set_cons_succ]
              refine wpAnyH_take (i := 14) (oi := ?oiz25) (v := ?vz25) ?h1z25 (by kernel_rfl) (by kernel_rfl) (by kernel_rfl) (fun _ _ _ h => h) ?hyz25 (by assumption) ?_
              case h1z25 => (simp only [List.getElem?_toArray, List.getElem?_cons_succ, List.getElem?_cons_zero]; rfl)
              case hyz25 => first | (refine Or.inr ⟨rfl, ?_⟩; rfl) | (refine Or.inl ⟨rfl, ?_⟩; intro w hSw; (try dsimp only at hSw); go_simp; done) | (refine Or.inl ⟨rfl, ?_⟩; intro w hSw; (try dsimp only at hSw); go_simp; with_reducible rfl)
              try simp only [Act.put, List.setIfInBounds_toArray, List.set_cons_zero, List.set_cons_succ]
              refine wpAnyH_take (i := 15) (oi := ?oiz26) (v := ?vz26) ?h1z26 (by kernel_rfl) (by kernel_rfl) (by kernel_rfl) (fun _ _ _ h => h) ?hyz26 (by assumption) ?_
              case h1z26 => (simp only [List.getElem?_toArray, List.getElem?_cons_succ, List.getElem?_cons_zero]; rfl)
              case hyz26 => first | (refine Or.inr ⟨rfl, ?_⟩; rfl) | (refine Or.inl ⟨rfl, ?_⟩; intro w hSw; (try dsimp only at hSw); go_simp; done) | (refine Or.inl ⟨rfl, ?_⟩; intro w hSw; (try dsimp only at hSw); go_simp; with_reducible rfl)
              try simp only [Act.put, List.setIfInBounds_toArray, List.set_cons_zero, List.set_cons_succ]
              refine wpAnyH_take (i := 16) (oi := ?oiz27) (v := ?vz27) ?h1z27 (by kernel_rfl) (by kernel_rfl) (by kernel_rfl) (fun _ _ _ h => h) ?hyz27 (by assumption) ?_
              case h1z27 => (simp only [List.getElem?_toArray, List.getElem?_cons_succ, List.getElem?_cons_zero]; rfl)
              case hyz27 => first | (refine Or.inr ⟨rfl, ?_⟩; rfl) | (refine Or.inl ⟨rfl, ?_⟩; intro w hSw; (try dsimp only at hSw); go_simp; done) | (refine Or.inl ⟨rfl, ?_⟩; intro w hSw; (try dsimp only at hSw); go_simp; with_reducible rfl)
              try simp only [Act.put, List.setIfInBounds_toArray, List.set_cons_zero, List.set_cons_succ]
              refine wpAnyH_take (i := 17) (oi := ?oiz28) (v := ?vz28) ?h1z28 (by kernel_rfl) (by kernel_rfl) (by kernel_rfl) (fun _ _ _ h => h) ?hyz28 (by assumption) ?_
              case h1z28 => (simp only [List.getElem?_toArray, List.getElem?_cons_succ, List.getElem?_cons_zero]; rfl)
              case hyz28 => first | (refine Or.inr ⟨rfl, ?_⟩; rfl) | (refine Or.inl ⟨rfl, ?_⟩; intro w hSw; (try dsimp only at hSw); go_simp; done) | (refine Or.inl ⟨rfl, ?_⟩; intro w hSw; (try dsimp only at hSw); go_simp; with_reducible rfl)
              try simp only [Act.put, List.setIfInBounds_toArray, List.set_cons_zero, List.set_cons_succ]
              refine wpAnyH_take (i := 18) (oi := ?oiz29) (v := ?vz29) ?h1z29 (by kernel_rfl) (by kernel_rfl) (by kernel_rfl) (fun _ _ _ h => h) ?hyz29 (by assumption) ?_
              case h1z29 => (simp only [List.getElem?_toArray, List.getElem?_cons_succ, List.getElem?_cons_zero]; rfl)
              case hyz29 => first | (refine Or.inr ⟨rfl, ?_⟩; rfl) | (refine Or.inl ⟨rfl, ?_⟩; intro w hSw; (try dsimp only at hSw); go_simp; done) | (refine Or.inl ⟨rfl, ?_⟩; intro w hSw; (try dsimp only at hSw); go_simp; with_reducible rfl)
              try simp only [Act.put, List.setIfInBounds_toArray, List.set_cons_zero, List.set_cons_succ]
              refine wpAnyH_take (i := 19) (oi := ?oiz30) (v := ?vz30) ?h1z30 (by kernel_rfl) (by kernel_rfl) (by kernel_rfl) (fun _ _ _ h => h) ?hyz30 (by assumption) ?_
              case h1z30 => (simp only [List.getElem?_toArray, List.getElem?_cons_succ, List.getElem?_cons_zero]; rfl)
              case hyz30 => first | (refine Or.inr ⟨rfl, ?_⟩; rfl) | (refine Or.inl ⟨rfl, ?_⟩; intro w hSw; (try dsimp only at hSw); go_simp; done) | (refine Or.inl ⟨rfl, ?_⟩; intro w hSw; (try dsimp only at hSw); go_simp; with_reducible rfl)
              try simp only [Act.put, List.setIfInBounds_toArray, List.set_cons_zero, List.set_cons_succ]
              refine wpAnyH_take (i := 20) (oi := ?oiz31) (v := ?vz31) ?h1z31 (by kernel_rfl) (by kernel_rfl) (by kernel_rfl) (fun _ _ _ h => h) ?hyz31 (by assumption) ?_
              case h1z31 => (simp only [List.getElem?_toArray, List.getElem?_cons_succ, List.getElem?_cons_zero]; rfl)
              case hyz31 => first | (refine Or.inr ⟨rfl, ?_⟩; rfl) | (refine Or.inl ⟨rfl, ?_⟩; intro w hSw; (try dsimp only at hSw); go_simp; done) | (refine Or.inl ⟨rfl, ?_⟩; intro w hSw; (try dsimp only at hSw); go_simp; with_reducible rfl)
              try simp only [Act.put, List.setIfInBounds_toArray, List.set_cons_zero, List.set_cons_succ]
              refine wpAnyH_take (i := 21) (oi := ?oiz32) (v := ?vz32) ?h1z32 (by kernel_rfl) (by kernel_rfl) (by kernel_rfl) (fun _ _ _ h => h) ?hyz32 (by assumption) ?_
              case h1z32 => (simp only [List.getElem?_toArray, List.getElem?_cons_succ, List.getElem?_cons_zero]; rfl)
              case hyz32 => first | (refine Or.inr ⟨rfl, ?_⟩; rfl) | (refine Or.inl ⟨rfl, ?_⟩; intro w hSw; (try dsimp only at hSw); go_simp; done) | (refine Or.inl ⟨rfl, ?_⟩; intro w hSw; (try dsimp only at hSw); go_simp; with_reducible rfl)
              try simp only [Act.put, List.setIfInBounds_toArray, List.set_cons_zero, List.set_cons_succ]
              refine wpAnyH_take (i := 22) (oi := ?oiz33) (v := ?vz33) ?h1z33 (by kernel_rfl) (by kernel_rfl) (by kernel_rfl) (fun _ _ _ h => h) ?hyz33 (by assumption) ?_
              case h1z33 => (simp only [List.getElem?_toArray, List.getElem?_cons_succ, List.getElem?_cons_zero]; rfl)
              case hyz33 => first | (refine Or.inr ⟨rfl, ?_⟩; rfl) | (refine Or.inl ⟨rfl, ?_⟩; intro w hSw; (try dsimp only at hSw); go_simp; done) | (refine Or.inl ⟨rfl, ?_⟩; intro w hSw; (try dsimp only at hSw); go_simp; with_reducible rfl)
              try simp only [Act.put, List.setIfInBounds_toArray, List.set_cons_zero, List.set_cons_succ]
              refine wpAnyH_take (i := 23) (oi := ?oiz34) (v := ?vz34) ?h1z34 (by kernel_rfl) (by kernel_rfl) (by kernel_rfl) (fun _ _ _ h => h) ?hyz34 (by assumption) ?_
              case h1z34 => (simp only [List.getElem?_toArray, List.getElem?_cons_succ, List.getElem?_cons_zero]; rfl)
              case hyz34 => first | (refine Or.inr ⟨rfl, ?_⟩; rfl) | (refine Or.inl ⟨rfl, ?_⟩; intro w hSw; (try dsimp only at hSw); go_simp; done) | (refine Or.inl ⟨rfl, ?_⟩; intro w hSw; (try dsimp only at hSw); go_simp; with_reducible rfl)
              try simp only [Act.put, List.setIfInBounds_toArray, List.set_cons_zero, List.set_cons_succ]
              refine wpAnyH_take (i := 24) (oi := ?oiz35) (v := ?vz35) ?h1z35 (by kernel_rfl) (by kernel_rfl) (by kernel_rfl) (fun _ _ _ h => h) ?hyz35 (by assumption) ?_
              case h1z35 => (simp only [List.getElem?_toArray, List.getElem?_cons_succ, List.getElem?_cons_zero]; rfl)
              case hyz35 => first | (refine Or.inr ⟨rfl, ?_⟩; rfl) | (refine Or.inl ⟨rfl, ?_⟩; intro w hSw; (try dsimp only at hSw); go_simp; done) | (refine Or.inl ⟨rfl, ?_⟩; intro w hSw; (try dsimp only at hSw); go_simp; with_reducible rfl)
              try simp only [Act.put, List.setIfInBounds_toArray, List.set_cons_zero, List.set_cons_succ]
              refine wpAnyH_take (i := 25) (oi := ?oiz36) (v := ?vz36) ?h1z36 (by kernel_rfl) (by kernel_rfl) (by kernel_rfl) (fun _ _ _ h => h) ?hyz36 (by assumption) ?_
              case h1z36 => (simp only [List.getElem?_toArray, List.getElem?_cons_succ, List.getElem?_cons_zero]; rfl)
              case hyz36 => first | (refine Or.inr ⟨rfl, ?_⟩; rfl) | (refine Or.inl ⟨rfl, ?_⟩; intro w hSw; (try dsimp only at hSw); go_simp; done) | (refine Or.inl ⟨rfl, ?_⟩; intro w hSw; (try dsimp only at hSw); go_simp; with_reducible rfl)
              try simp only [Act.put, List.setIfInBounds_toArray, List.set_cons_zero, List.set_cons_succ]
              refine wpAnyH_take (i := 26) (oi := ?oiz37) (v := ?vz37) ?h1z37 (by kernel_rfl) (by kernel_rfl) (by kernel_rfl) (fun _ _ _ h => h) ?hyz37 (by assumption) ?_
              case h1z37 => (simp only [List.getElem?_toArray, List.getElem?_cons_succ, List.getElem?_cons_zero]; rfl)
              case hyz37 => first | (refine Or.inr ⟨rfl, ?_⟩; rfl) | (refine Or.inl ⟨rfl, ?_⟩; intro w hSw; (try dsimp only at hSw); go_simp; done) | (refine Or.inl ⟨rfl, ?_⟩; intro w hSw; (try dsimp only at hSw); go_simp; with_reducible rfl)
              try simp only [Act.put, List.setIfInBounds_toArray, List.set_cons_zero, List.set_cons_succ]
              refine wpAnyH_ready (rs := [27]) (by kernel_rfl) (by simp) ?_
              refine AllReadyH.cons (o := ?oiz38) ?h1z38 (fun K hK => ?_) ?morez38
              case h1z38 => (simp only [List.getElem?_toArray, List.getElem?_cons_succ, List.getElem?_cons_zero]; rfl)
              case morez38 => exact AllReadyH.nil
              go_simp
              clear hHeld
              refine hK.out _ _ ?_ (fun hHeld => ?_)
              · exact HCB.out _ hd1
              clear hK K
              try simp only [Act.put, List.setIfInBounds_toArray, List.set_cons_zero, List.set_cons_succ]
              refine wpAnyH_ready (rs := [28]) (by kernel_rfl) (by simp) ?_
              refine AllReadyH.cons (o := ?oiz39) ?h1z39 (fun K hK => ?_) ?morez39
              case h1z39 => (simp only [List.getElem?_toArray, List.getElem?_cons_succ, List.getElem?_cons_zero]; rfl)
              case morez39 => exact AllReadyH.nil
              go_simp
              go_at_call 20
              refine HCALL.out.mono ?_
              rintro _ w5 ⟨rfl, n5, hw5⟩
              have hd2 : Below wb.heap.size wb w5 := (by rw [hw5]; exact hd1.trans (Go.Mem.below_drewN _ _ _))
              clear hw5
              clear hHeld
              refine hK.out _ _ ?_ (fun hHeld => ?_)
              · exact HCB.out _ hd2
              clear hK K
              try simp only [Act.put, List.setIfInBounds_toArray, List.set_cons_zero, List.set_cons_succ]
              refine wpAnyH_take (i := 29) (oi := ?oiz40) (v := ?vz40) ?h1z40 (by kernel_rfl) (by kernel_rfl) (by kernel_rfl) (fun _ _ _ h => h) ?hyz40 (by assumption) ?_
              case h1z40 => (simp only [List.getElem?_toArray, List.getElem?_cons_succ, List.getElem?_cons_zero]; rfl)
              case hyz40 => first | (refine Or.inr ⟨rfl, ?_⟩; rfl) | (refine Or.inl ⟨rfl, ?_⟩; intro w hSw; (try dsimp only at hSw); go_simp; done) | (refine Or.inl ⟨rfl, ?_⟩; intro w hSw; (try dsimp only at hSw); go_simp; with_reducible rfl)
              try simp only [Act.put, List.setIfInBounds_toArray, List.set_cons_zero, List.set_cons_succ]
              refine wpAnyH_take (i := 30) (oi := ?oiz41) (v := ?vz41) ?h1z41 (by kernel_rfl) (by kernel_rfl) (by kernel_rfl) (fun _ _ _ h => h) ?hyz41 (by assumption) ?_
              case h1z41 => (simp only [List.getElem?_toArray, List.getElem?_cons_succ, List.getElem?_cons_zero]; rfl)
              case hyz41 => first | (refine Or.inr ⟨rfl, ?_⟩; rfl) | (refine Or.inl ⟨rfl, ?_⟩; intro w hSw; (try dsimp only at hSw); go_simp; done) | (refine Or.inl ⟨rfl, ?_⟩; intro w hSw; (try dsimp only at hSw); go_simp; with_reducible rfl)
              try simp only [Act.put, List.setIfInBounds_toArray, List.set_cons_zero, List.set_cons_succ]
              refine wpAnyH_done (by kernel_rfl) ?_ _
              refine NoPanic.normal ?_
              clear hHeld
              have HB5 := Lib.hid (HLB.out.trans (hd2.mono HLB.out.size))
              clear hd0 hd1 hd2 q3 q4 q5 q6 hnc f2 f3
              go_wp2_with fail
              go_roundw
              case rel => exact ⟨k + 1, by omega, by go_num, HB5.out⟩
              case measure => simp [intOf]; omega
            · obtain ⟨j1, y, hj1, a6, hy⟩ := HPREV.out (by omega)
              have f2 : decide (0 < k) = true := decide_eq_true (by omega)
              have f3 : decide ((0 : Int) < (k : Int)) = true := decide_eq_true (by omega)
              have f4 : decide (x.id ≤ y) = false := decide_eq_false (by omega)
              have hwj : IntKind.i64.wrap ((k : Int) - 1) = (j1 : Int) := by rw [IntWalk.i64_in _ (by omega)]; omega
              have q7 : (0 : Int) ≤ (j1 : Int) := by omega
              have q8 : (j1 : Int) < (NL : Int) := by omega
              have q9 : j1 < NL := by omega
              have HA7 := Lib.hid (HA61.out j1 y a6)
              clear hk0 hj1 hy a6
              go_region_held3 (fun w' => w'.cell? ⟨bL, oL + j1 * 3, none⟩ = some (.int .i64 y) ∧ w'.cell? ⟨bL, oL + k * 3, none⟩ = some (.int .i64 x.id) ∧ w'.cell? ⟨g5, 0, none⟩ = some (.int .i64 x.id) ∧ w'.cell? ⟨g5, 1, none⟩ = some (.int .i64 x.ep) ∧ w'.cell? ⟨g5, 2, none⟩ = some (.slice A3 M C3))
                (first | with_reducible exact ⟨HA7.out _ hd2, HCB.out _ hd2⟩ | with_reducible exact ⟨HA7.out _ hd1, HCB.out _ hd1⟩ | with_reducible exact ⟨HA7.out _ hd0, HCB.out _ hd0⟩)
                ((go_at_call 20; (with_reducible refine HCALL.out.mono ?_); rintro _ w5 ⟨rfl, n5, hw5⟩; have hd2 : Below wb.heap.size wb w5 := (by rw [hw5]; exact hd1.trans (Go.Mem.below_drewN _ _ _)); clear hw5))
              all_goals
                have HB5 := Lib.hid (HLB.out.trans (hd2.mono HLB.out.size))
                clear hd0 hd1 hd2 q3 q4 q5 q6 q7 q8 q9 hwj hnc f2 f3 f4
                go_wp2_with fail
                go_roundw
                case rel => exact ⟨k + 1, by omega, by go_num, HB5.out⟩
                case measure => simp [intOf]; omega
          · obtain rfl : k = NL := by omega
            have e1 : ((k : Int) == (k : Int)) = true := by simp
            have HFB := Lib.hid (show Below w.heap.size w wr from HB2.out.trans ((HBL.out.trans (hb.mono HBL.out.size)).mono HB2.out.size))
            clear hlt hb
            go_wp2_with fail
            go_ret
            exact ⟨rfl, HFB.out⟩
end Go.Proofs.Ytlgdchflegflkaa.Tbl
