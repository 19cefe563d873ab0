/- The document's Apply of a RecMove, as a walk. -/
import Derived.Test.YtlgdchflegflkaaTbAp3m
import Derived.StillTailTactics
import Derived.Deep.CutRange
namespace Go.Proofs.Ytlgdchflegflkaa.Tbl
set_option linter.unusedVariables false
open Go.ChangeShapes Go.WideShapes Go.ChangeAt Go.RowKit
open Go.Mem RecM
set_option maxRecDepth 100000 in
set_option maxHeartbeats 16000000 in
theorem apply_move {w : World} {G : Nat → Prop} {r : Nat} {t : Tb.TabD} (h : RT w G r t) (hok : t.Ok) (hfew : t.objs.length ≤ 1000) (rd : RecD) (V : Value) (hV : RecV w V rd) (hk : rd.kind = 3) (hnl : ∀ s ∈ rd.stripes, s.locs.length ≤ 1000000) :
    Calls Try.prog 13 #[.pointer (some ⟨r, 0, none⟩), V] w (ApPost w G r t rd) := by
  obtain ⟨As, Ao, Ad, Cs, Co, Cd, rfl, hr⟩ := hV
  have HLEN := Lib.hid (@Tb.ap3_len t rd hk)
  have HWRONG := Lib.hid (Tb.ap3_wrong (t := t) (r := rd) hk)
  have HNONE := Lib.hid (Tb.ap3_none (t := t) (r := rd) hk)
  have HYES := Lib.hid (Tb.ap3_yes (t := t) (r := rd) hk)
  obtain ⟨kind, id, size, key, ss, os, ds⟩ := rd
  dsimp only at HLEN HWRONG HNONE HYES hk hnl
  subst hk
  obtain ⟨K, VO, S, hh⟩ := h
  have c0 : w.cell? ⟨r, 0, none⟩ = some (.int .i64 t.k) := hh.cell (i := 0) (by omega)
  have c1 : w.cell? ⟨r, 1, none⟩ = some (.int .i64 (t.n - t.k)) := hh.cell (i := 1) (by omega)
  have c2 : w.cell? ⟨r, 2, none⟩ = some VO := hh.cell (i := 2) (by omega)
  have c5 : w.cell? ⟨r, 5, none⟩ = some (.int .i64 t.last) := hh.cell (i := 5) (by omega)
  obtain ⟨AV, CV, rfl, gV1, gV2, -⟩ := hh.objs.len
  obtain ⟨w1, hw1⟩ : ∃ w1, w1 = w.alloc (.cells #[.int .i64 3, .int .i64 id, .int .i64 size, .string key, .slice As ss.length Cs, .slice Ao os.length Co, .slice Ad ds.length Cd] 36) := ⟨_, rfl⟩
  have hx : Below w.heap.size w w1 := by rw [hw1]; exact (Below.refl _ _).alloc (Nat.le_refl _) _
  have hrow : w1.rowIs w.heap.size 36 7 (fun i => #[Value.int .i64 3, .int .i64 id, .int .i64 size, .string key, .slice As ss.length Cs, .slice Ao os.length Co, .slice Ad ds.length Cd].getD i undef) := by rw [hw1]; exact row_of w _ _
  have d0 := below_cell hx _ _ c0
  have d1 := below_cell hx _ _ c1
  have d2 := below_cell hx _ _ c2
  have d5 := below_cell hx _ _ c5
  have b0 : w1.cell? ⟨w.heap.size, 0, none⟩ = some (.int .i64 3) := hrow.cell (i := 0) (by omega)
  have b1 : w1.cell? ⟨w.heap.size, 1, none⟩ = some (.int .i64 id) := hrow.cell (i := 1) (by omega)
  have b4 : w1.cell? ⟨w.heap.size, 4, none⟩ = some (.slice As ss.length Cs) := hrow.cell (i := 4) (by omega)
  have hss : Stps w1 (.slice As ss.length Cs) ss := hr.s.below hx
  obtain ⟨gs1, gs2⟩ : ss.length ≤ Cs ∧ Cs ≤ 9223372036854775807 := by
    obtain ⟨A9, C9, e, g1, g2, -⟩ := hss.shape
    cases e
    exact ⟨g1, g2⟩
  obtain ⟨la, hla⟩ : ∃ x, t.last = x := ⟨_, rfl⟩
  obtain ⟨N, hN⟩ : ∃ x, t.objs.length = x := ⟨_, rfl⟩
  have HN := Lib.hid hN
  obtain ⟨B, hB⟩ : ∃ B, w.heap.size = B := ⟨_, rfl⟩
  have HBE := Lib.hid hB
  have HX := Lib.hid hx
  have HH := Lib.hid hh
  have HOK := Lib.hid hok
  rw [hN] at d2 gV1 hfew
  rw [hla] at d5
  rw [hB] at b0 b1 b4 hrow
  have HW1 := Lib.hid hw1
  unfold recVal
  dsimp only
  have HSA1 := Lib.hid (show ∀ w', Below w1.heap.size w1 w' → After w G r t w' from fun w' q => ap_same ⟨K, _, _, HH.out⟩ (HX.out.trans (q.mono HX.out.size)))
  clear hh hok c0 c1 c2 c5 hx hw1 hB hN hla hrow hr
  go_enter Try.func13, Try.ntmps13
  go_upto_region 1 with (fail)
  rw [← HW1.out, HBE.out]
  go_upto_region 2 with (fail)
  go_upto_if 27 with (fail)
  go_cut [5] from 24 to 29 (fun l wx => (∃ z : Int, l = .int .i64 z) ∧ w1 = wx)
  case first =>
    rcases (by omega : la < id ∨ id ≤ la) with hl | hl
    all_goals
      go_wp2_with fail
      go_meet
      case rel => exact ⟨⟨_, rfl⟩, rfl⟩
  case rest =>
    obtain ⟨⟨z, rfl⟩, rfl⟩ := hcut
    by_cases k1 : ss.length = 1
    · obtain ⟨s, rfl⟩ := List.length_eq_one_iff.1 k1
      have HWR := Lib.hid (HWRONG.out s rfl)
      have HNO := Lib.hid (HNONE.out s rfl)
      have HYE := Lib.hid (HYES.out s rfl)
      obtain ⟨bs, os1, A1, C1, rfl, a0, a1, a2, hl1, hs1⟩ := hss.at (i := 0) (by simp)
      simp only [List.getElem_cons_zero, Nat.zero_mul, Nat.add_zero] at a0 a1 a2 hl1 hs1
      have HST := Lib.hid (show ∀ w', Below w1.heap.size w1 w' → StpIs w' (.agg #[.int .i64 s.id, .int .i64 s.ep, .slice A1 s.locs.length C1]) s from fun w' q => ⟨A1, C1, rfl, hl1.below q, hs1.1, hs1.2.1, hs1.2.2⟩)
      have HSS := Lib.hid hss
      have hrc := rightC (w := w1) d0 d1 (by have := HH.out.k0; omega) HH.out.k1 HH.out.m0 HH.out.m1 s _ (HST.out _ (Below.refl _ _))
      rw [show t.k + (t.n - t.k) = t.n by omega] at hrc
      have HL1 := Lib.hid (hnl s (by simp))
      have HI1 := Lib.hid hs1
      clear hss hl1 hs1 k1 hnl HLEN HWRONG HNONE HYES
      simp only [List.length_cons, List.length_nil, Nat.zero_add] at b4 gs1 ⊢
      by_cases k2 : Tb.StpOk t.n s
      · rw [decide_eq_true k2] at hrc
        have HRC := Lib.hid hrc
        have HK2 := Lib.hid k2
        clear k2 hrc HWR
        go_wp2_with fail
        refine HRC.out.mono ?_
        rintro _ w2 ⟨rfl, hb2⟩
        have HB2 := Lib.hid hb2
        have s2 := below_cell hb2 _ _ d2
        have s4 := below_cell hb2 _ _ b4
        have s5 := below_cell hb2 _ _ a0
        have HSA2 := Lib.hid (show ∀ w', Below w2.heap.size w2 w' → After w G r t w' from fun w' q => HSA1.out _ (hb2.trans (q.mono hb2.size)))
        have HBW2 := Lib.hid (show Below w.heap.size w w2 from HX.out.trans (hb2.mono HX.out.size))
        clear hb2 d0 d1 d2 d5 b0 b1 b4 a0 a1 a2
        go_wp2_with fail
        go_loopw [13] (fun c wr => ∃ i : Nat, i ≤ N ∧ c = .int .i64 i ∧ (∀ j (hj : j < t.objs.length), j < i → ∀ m (hm : m < t.objs[j].stripes.length), ¬ t.objs[j].stripes[m].id = s.id) ∧ ∃ n, wr = w2.drewN n) (fun c _ => N - (intOf c).toNat)
        case atStart => exact ⟨0, Nat.zero_le _, rfl, fun _ _ q => absurd q (by omega), 0, rfl⟩
        case round =>
          obtain ⟨i, hi, rfl, hs, n1, rfl⟩ := hrel
          have HS := Lib.hid hs
          by_cases hlt : i < N
          · have hil : i < t.objs.length := by rw [HN.out]; exact hlt
            obtain ⟨gV, A', C', rfl, c0, c1, c2, c3, hon⟩ := BuiltX.val HH.out.objs hil
            replace c0 := below_cell HBW2.out _ _ c0
            replace c1 := below_cell HBW2.out _ _ c1
            replace c2 := below_cell HBW2.out _ _ c2
            replace c3 := below_cell HBW2.out _ _ c3
            have hoi : ObjIs w2 (.agg #[.string t.objs[i].key, .int .i64 t.objs[i].id, .int .i64 t.objs[i].size, .slice A' t.objs[i].stripes.length C']) t.objs[i] := by
              have q := (hon.here).below HBW2.out
              exact ⟨A', C', rfl, q.2.2.2.1, q.2.2.2.2.1, q.2.2.2.2.2.1, q.2.2.2.2.2.2.1, q.2.2.2.2.2.2.2⟩
            have hobj := (HOK.out.all.1 _ (List.getElem_mem hil)).1
            have hm96 : t.objs[i].stripes.length ≤ 96 := by
              have e := hobj.2.2.2.2.2.2.1
              have := Tb.nStp_le (k := t.k) (size := t.objs[i].size) HH.out.k0 hobj.2.2.2.2.2.1
              omega
            have hlocs : ∀ u ∈ t.objs[i].stripes, u.locs.length ≤ 1000000 := fun u hu => by
              have e := (hobj.2.2.2.2.2.2.2.2 u hu).2.2.1
              have e1 := HH.out.k1
              have e2 := HH.out.m1
              omega
            have HYI := Lib.hid (fun k hki h2 e => HYE.out HK2.out i k hil hki hs h2 e)
            have HNX := Lib.hid (fun (q : ∀ m (hm : m < t.objs[i].stripes.length), ¬ t.objs[i].stripes[m].id = s.id) => (show ∀ j (hj : j < t.objs.length), j < i + 1 → ∀ m (hm : m < t.objs[j].stripes.length), ¬ t.objs[j].stripes[m].id = s.id from fun j hj hji => by
              by_cases e : j = i
              · subst e; exact q
              · exact hs j hj (by omega)))
            have hst : Stps w2 (.slice A' t.objs[i].stripes.length C') t.objs[i].stripes := by
              have q := (hon.here).below HBW2.out
              exact q.2.2.2.1
            obtain ⟨x, hx⟩ : ∃ x, t.objs[i] = x := ⟨_, rfl⟩
            rw [hx] at c0 c1 c2 c3 hoi hm96 hlocs HYI HNX hst
            obtain ⟨M, hM⟩ : ∃ M, x.stripes.length = M := ⟨_, rfl⟩
            have HM := Lib.hid hM
            have HIL := Lib.hid hil
            rw [hM] at c3 hoi hm96 hst
            have HST2 := Lib.hid hst
            have HOI := Lib.hid hoi
            have HLOCS := Lib.hid hlocs
            have q1 : (0 : Int) ≤ (i : Int) := by omega
            have q2 : (i : Int) < (N : Int) := by omega
            have HVR := Lib.hid (HH.out.gv gV rfl)
            clear hx hil hs hst hM hoi hobj hlocs hon
            go_wp2_with fail
            go_loopw [14] (fun c wy => ∃ k : Nat, k ≤ M ∧ c = .int .i64 k ∧ (∀ m (hm : m < x.stripes.length), m < k → ¬ x.stripes[m].id = s.id) ∧ ∃ n, wy = w2.drewN n) (fun c _ => M - (intOf c).toNat)
            case atStart => exact ⟨0, Nat.zero_le _, rfl, fun _ _ q => absurd q (by omega), _, rfl⟩
            case round =>
              obtain ⟨k, hk, rfl, hs2, n2, rfl⟩ := hrel
              have HS2 := Lib.hid hs2
              by_cases hlt2 : k < M
              · have hkl : k < x.stripes.length := by rw [HM.out]; exact hlt2
                obtain ⟨b2, o2, A3, C3, rfl, e0, e1, e2, e3, e4⟩ := HST2.out.at hkl
                have HYK := Lib.hid (fun e => HYI.out k hkl hs2 e)
                have HNK := Lib.hid (show ¬ x.stripes[k].id = s.id → ∀ j (hj : j < x.stripes.length), j < k + 1 → ¬ x.stripes[j].id = s.id from fun q j hj hjk => by
                  by_cases e : j = k
                  · subst e; exact q
                  · exact hs2 j hj (by omega))
                obtain ⟨y, hy⟩ : ∃ y, x.stripes[k].id = y := ⟨_, rfl⟩
                rw [hy] at e0 HYK HNK
                have q3 : (0 : Int) ≤ (k : Int) := by omega
                have q4 : (k : Int) < (M : Int) := by omega
                clear hy hs2 e1 e2 e3 e4
                by_cases hxy : y = s.id
                · have HY := Lib.hid (HYK.out hxy)
                  have g1 : (y == s.id) = true := by rw [hxy]; simp
                  clear hxy HYK HNK
                  go_wp2_with fail
                  go_quiet (fail)
                  rw [World.drewN_drewN]
                  clear g1 e0
                  have hbq := Go.Mem.below_drewN w2.heap.size w2 (n2 + nq)
                  obtain ⟨wq, hwq⟩ : ∃ wq, w2.drewN (n2 + nq) = wq := ⟨_, rfl⟩
                  rw [hwq] at hbq ⊢
                  clear hwq
                  have z2 := below_cell hbq _ _ s2
                  have z4 := below_cell hbq _ _ s4
                  have y0 := below_cell hbq _ _ c0
                  have y1 := below_cell hbq _ _ c1
                  have y2 := below_cell hbq _ _ c2
                  have y3 := below_cell hbq _ _ c3
                  have HBQ := Lib.hid hbq
                  have hcp := copiedC (w := wq) x _ (show ObjIs wq _ x from by
                    obtain ⟨A9, C9, e, h9, g1, g2, g3, g4⟩ := HOI.out
                    exact ⟨A9, C9, e, h9.below hbq, g1, g2, g3, g4⟩) (by rw [HM.out]; omega) HLOCS.out
                  rw [HM.out] at hcp
                  have HCP := Lib.hid hcp
                  clear hcp hbq
                  go_wp2_with fail
                  refine HCP.out.mono ?_
                  rintro _ w7 ⟨A6, C6, rfl, ⟨KO, m1, m2, m3⟩, hb7⟩
                  have hb27 : Below w2.heap.size w2 w7 := HBQ.out.trans (hb7.mono HBQ.out.size)
                  have m1' : BuiltX 3 StpR KO w7 TStp (.slice A6 M C6) x.stripes := m1
                  obtain ⟨g6, A5, C5, rfl, v0, v1, v2, -⟩ := BuiltX.valS m1' hkl
                  have HM1 := Lib.hid m1'
                  have HM2 := Lib.hid m2
                  have HM3 := Lib.hid (m3 g6 rfl)
                  have HB7 := Lib.hid hb7
                  have HB27 := Lib.hid hb27
                  clear z2 z4 y0 y1 y2 y3 m1 m1' m2 m3
                  go_upto_region 45 with (fail)
                  obtain ⟨w8, hw8⟩ : ∃ w8, w7.alloc (.cells #[.string x.key, .int .i64 x.id, .int .i64 x.size, .slice (some ⟨g6, 0, none⟩) M C6] TObj) = w8 := ⟨_, rfl⟩
                  have hb78 : Below w7.heap.size w7 w8 := by rw [← hw8]; exact (Below.refl _ _).alloc (Nat.le_refl _) _
                  have hrow8 : w8.rowIs w7.heap.size TObj 4 (fun j => #[Value.string x.key, .int .i64 x.id, .int .i64 x.size, .slice (some ⟨g6, 0, none⟩) M C6].getD j undef) := by rw [← hw8]; exact row_of _ _ _
                  obtain ⟨g8, hg8⟩ : ∃ g, w7.heap.size = g := ⟨_, rfl⟩
                  rw [hg8]
                  rw [hw8]
                  rw [hg8] at hrow8
                  have p0 : w8.cell? ⟨g8, 0, none⟩ = some (.string x.key) := hrow8.cell (i := 0) (by omega)
                  have p1 : w8.cell? ⟨g8, 1, none⟩ = some (.int .i64 x.id) := hrow8.cell (i := 1) (by omega)
                  have p2 : w8.cell? ⟨g8, 2, none⟩ = some (.int .i64 x.size) := hrow8.cell (i := 2) (by omega)
                  have p3 : w8.cell? ⟨g8, 3, none⟩ = some (.slice (some ⟨g6, 0, none⟩) M C6) := hrow8.cell (i := 3) (by omega)
                  have hb28 : Below w2.heap.size w2 w8 := HB27.out.trans (hb78.mono HB27.out.size)
                  have p4 := below_cell hb28 _ _ s4
                  have hd0 : Below w8.heap.size w8 w8.drew := Go.Mem.below_drewN _ w8 1
                  have hb28d : Below w2.heap.size w2 w8.drew := hb28.trans (hd0.mono hb28.size)
                  have hb12 : Below w1.heap.size w1 w8.drew := HB2.out.trans (hb28d.mono HB2.out.size)
                  have hcp2 : Calls Try.prog 29 #[.agg #[.string ⟨#[]⟩, .int .i64 0, .int .i64 0, .slice (some ⟨bs, os1, none⟩) 1 Cs]] w8.drew fun e w' => ∃ g9 C9 A10 C10, ∃ K9 : Nat → Prop, e = .returned (.agg #[.string ⟨#[]⟩, .int .i64 0, .int .i64 0, .slice (some ⟨g9, 0, none⟩) 1 C9]) ∧ w'.cell? ⟨g9, 0, none⟩ = some (.int .i64 s.id) ∧ w'.cell? ⟨g9, 1, none⟩ = some (.int .i64 s.ep) ∧ w'.cell? ⟨g9, 2, none⟩ = some (.slice A10 s.locs.length C10) ∧
                      On K9 w' (fun w'' => StpR w'' (fun j => #[Value.int .i64 s.id, .int .i64 s.ep, .slice A10 s.locs.length C10].getD j undef) s) ∧ (∀ b, K9 b → w8.heap.size ≤ b ∧ b < w'.heap.size) ∧ (1 : Nat) ≤ C9 ∧ C9 ≤ 9223372036854775807 ∧ Below w8.drew.heap.size w8.drew w' :=
                    (copiedC (w := w8.drew) ⟨⟨#[]⟩, 0, 0, [s]⟩ (.agg #[.string ⟨#[]⟩, .int .i64 0, .int .i64 0, .slice (some ⟨bs, os1, none⟩) 1 Cs]) ⟨_, _, rfl, HSS.out.below hb12, (show I64 0 by unfold I64; decide), (show I64 0 by unfold I64; decide), (show KeyOk ⟨#[]⟩ by unfold KeyOk; decide), (show LenOk 1 by unfold LenOk; decide)⟩ (by show 1 ≤ 10000; decide) (fun u hu => by rw [List.mem_singleton.1 hu]; exact HL1.out)).mono fun e w' ⟨A9, C9, e1, ⟨K9, k1, k2, k3⟩, k4⟩ => by
                      have k1' : BuiltX 3 StpR K9 w' TStp (.slice A9 1 C9) [s] := k1
                      obtain ⟨g9, A10, C10, rfl, x0, x1, x2, x3⟩ := BuiltX.valS k1' (i := 0) (by simp)
                      obtain ⟨A', C', e', l1, l2, -⟩ := k1'.len
                      cases e'
                      exact ⟨g9, C9, A10, C10, K9, e1, x0, x1, x2, x3, fun b q => k2 b q, l1, l2, k4⟩
                  have HCP2 := Lib.hid hcp2
                  have z3 := below_cell hd0 _ _ p3
                  have z4 := below_cell hd0 _ _ p4
                  have HU := Lib.hid (show ∀ w', Below w8.heap.size w8 w' → BuiltX 3 StpR KO w' TStp (.slice (some ⟨g6, 0, none⟩) M C6) x.stripes from fun w' q => (HM1.out.below hb78).below q)
                  have HP8 := Lib.hid (show ∀ w', Below w8.heap.size w8 w' → w'.cell? ⟨g8, 0, none⟩ = some (.string x.key) ∧ w'.cell? ⟨g8, 1, none⟩ = some (.int .i64 x.id) ∧ w'.cell? ⟨g8, 2, none⟩ = some (.int .i64 x.size) ∧ w'.cell? ⟨g8, 3, none⟩ = some (.slice (some ⟨g6, 0, none⟩) M C6) ∧ w'.cell? ⟨B, 4, none⟩ = some (.slice (some ⟨bs, os1, none⟩) 1 Cs) from fun w' q => ⟨below_cell q _ _ p0, below_cell q _ _ p1, below_cell q _ _ p2, below_cell q _ _ p3, below_cell q _ _ p4⟩)
                  have HU8 := Lib.hid (show ∀ w', Below w8.heap.size w8 w' → ∃ a b c, w'.cell? ⟨g6, k * 3, none⟩ = some a ∧ w'.cell? ⟨g6, k * 3 + 1, none⟩ = some b ∧ w'.cell? ⟨g6, k * 3 + 2, none⟩ = some c from fun w' q => ⟨_, _, _, below_cell q _ _ (below_cell hb78 _ _ v0), below_cell q _ _ (below_cell hb78 _ _ v1), below_cell q _ _ (below_cell hb78 _ _ v2)⟩)
                  have hg6lt : g6 < w7.heap.size := HM1.out.own_lt g6 rfl
                  have hBlt : B < w2.heap.size := World.block_lt_of_cell? _ _ s4
                  have hw2q := HBQ.out.size
                  have HNE := Lib.hid (show ¬ g6 = g8 ∧ ¬ g6 = B ∧ w2.heap.size ≤ g6 from ⟨fun e => by omega, fun e => by have := HM3.out; omega, by have := HM3.out; omega⟩)
                  have HB28 := Lib.hid hb28
                  have HB78 := Lib.hid hb78
                  have HG8 := Lib.hid hg8
                  clear hcp2 p0 p1 p2 p3 p4 hrow8 hb78 hb28 hb28d hb12 v0 v1 v2 hw8 hg8 hg6lt hBlt hw2q hb7 hb27
                  have hfd : ∀ (v : Value) (w : World), (Instr.field 46 (.agg #[.string ⟨#[]⟩, .int .i64 0, .int .i64 0, v]) 3).run Try.prog w = .ok v w := fun _ _ => by kernel_rfl
                  refine wp_region_noPanic ?_
                  refine wp_region_held_drew (S := (fun w' => w'.cell? ⟨g8, 3, none⟩ = some (.slice (some ⟨g6, 0, none⟩) M C6) ∧ w'.cell? ⟨B, 4, none⟩ = some (.slice (some ⟨bs, os1, none⟩) 1 Cs))) (by kernel_rfl) ?_ (fun hHeld => ?_)
                  · exact ⟨z3, z4⟩
                  refine wpAnyH_take (i := 0) (oi := ?oiz1) (v := ?vz1) ?h1z1 (by kernel_rfl) (by kernel_rfl) (by kernel_rfl) (fun _ _ _ h => h) ?hyz1 (by assumption) ?_
                  case h1z1 => (simp only [List.getElem?_toArray, List.getElem?_cons_zero]; rfl)
                  case hyz1 => first | (refine Or.inr ⟨rfl, ?_⟩; rfl) | (refine Or.inl ⟨rfl, ?_⟩; intro w hSw; (try dsimp only at hSw); go_simp; done) | (refine Or.inl ⟨rfl, ?_⟩; intro w hSw; (try dsimp only at hSw); go_simp; with_reducible rfl)
                  try simp only [Act.put, List.setIfInBounds_toArray, List.set_cons_zero, List.set_cons_succ]
                  refine wpAnyH_take (i := 1) (oi := ?oiz2) (v := ?vz2) ?h1z2 (by kernel_rfl) (by kernel_rfl) (by kernel_rfl) (fun _ _ _ h => h) ?hyz2 (by assumption) ?_
                  case h1z2 => (simp only [List.getElem?_toArray, List.getElem?_cons_succ, List.getElem?_cons_zero]; rfl)
                  case hyz2 => first | (refine Or.inr ⟨rfl, ?_⟩; rfl) | (refine Or.inl ⟨rfl, ?_⟩; intro w hSw; (try dsimp only at hSw); go_simp; done) | (refine Or.inl ⟨rfl, ?_⟩; intro w hSw; (try dsimp only at hSw); go_simp; with_reducible rfl)
                  try simp only [Act.put, List.setIfInBounds_toArray, List.set_cons_zero, List.set_cons_succ]
                  refine wpAnyH_take (i := 2) (oi := ?oiz3) (v := ?vz3) ?h1z3 (by kernel_rfl) (by kernel_rfl) (by kernel_rfl) (fun _ _ _ h => h) ?hyz3 (by assumption) ?_
                  case h1z3 => (simp only [List.getElem?_toArray, List.getElem?_cons_succ, List.getElem?_cons_zero]; rfl)
                  case hyz3 => first | (refine Or.inr ⟨rfl, ?_⟩; rfl) | (refine Or.inl ⟨rfl, ?_⟩; intro w hSw; (try dsimp only at hSw); go_simp; done) | (refine Or.inl ⟨rfl, ?_⟩; intro w hSw; (try dsimp only at hSw); go_simp; with_reducible rfl)
                  try simp only [Act.put, List.setIfInBounds_toArray, List.set_cons_zero, List.set_cons_succ]
                  refine wpAnyH_take (i := 3) (oi := ?oiz4) (v := ?vz4) ?h1z4 (by kernel_rfl) (by kernel_rfl) (by kernel_rfl) (fun _ _ _ h => h) ?hyz4 (by assumption) ?_
                  case h1z4 => (simp only [List.getElem?_toArray, List.getElem?_cons_succ, List.getElem?_cons_zero]; rfl)
                  case hyz4 => first | (refine Or.inr ⟨rfl, ?_⟩; rfl) | (refine Or.inl ⟨rfl, ?_⟩; intro w hSw; (try dsimp only at hSw); go_simp; done) | (refine Or.inl ⟨rfl, ?_⟩; intro w hSw; (try dsimp only at hSw); go_simp; with_reducible rfl)
                  try simp only [Act.put, List.setIfInBounds_toArray, List.set_cons_zero, List.set_cons_succ]
                  refine wpAnyH_take (i := 4) (oi := ?oiz5) (v := ?vz5) ?h1z5 (by kernel_rfl) (by kernel_rfl) (by kernel_rfl) (fun _ _ _ h => h) ?hyz5 (by assumption) ?_
                  case h1z5 => (simp only [List.getElem?_toArray, List.getElem?_cons_succ, List.getElem?_cons_zero]; rfl)
                  case hyz5 => first | (refine Or.inr ⟨rfl, ?_⟩; rfl) | (refine Or.inl ⟨rfl, ?_⟩; intro w hSw; (try dsimp only at hSw); go_simp; done) | (refine Or.inl ⟨rfl, ?_⟩; intro w hSw; (try dsimp only at hSw); go_simp; with_reducible rfl)
                  try simp only [Act.put, List.setIfInBounds_toArray, List.set_cons_zero, List.set_cons_succ]
                  refine wpAnyH_take (i := 5) (oi := ?oiz6) (v := ?vz6) ?h1z6 (by kernel_rfl) (by kernel_rfl) (by kernel_rfl) (fun _ _ _ h => h) ?hyz6 (by assumption) ?_
                  case h1z6 => (simp only [List.getElem?_toArray, List.getElem?_cons_succ, List.getElem?_cons_zero]; rfl)
                  case hyz6 => first | (refine Or.inr ⟨rfl, ?_⟩; rfl) | (refine Or.inl ⟨rfl, ?_⟩; intro w hSw; (try dsimp only at hSw); go_simp; done) | (refine Or.inl ⟨rfl, ?_⟩; intro w hSw; (try dsimp only at hSw); go_simp; with_reducible rfl)
                  try simp only [Act.put, List.setIfInBounds_toArray, List.set_cons_zero, List.set_cons_succ]
                  refine wpAnyH_ready (rs := [6]) (by kernel_rfl) (by simp) ?_
                  refine AllReadyH.cons (o := ?oiz7) ?h1z7 (fun K hK => ?_) ?morez7
                  case h1z7 => (simp only [List.getElem?_toArray, List.getElem?_cons_succ, List.getElem?_cons_zero]; rfl)
                  case morez7 => exact AllReadyH.nil
                  go_simp
                  go_at_call 29
                  refine HCP2.out.mono ?_
                  rintro _ w9 ⟨g9, C9, A10, C10, K9, rfl, x0, x1, x2, hon9, hk9, l1, l2, hb9⟩
                  have hd1 := nxt hd0 hb9 (Nat.le_refl _)
                  have y3 := (HP8.out _ hd1).2.2.2.1
                  have y4 := (HP8.out _ hd1).2.2.2.2
                  obtain ⟨ua, ub, uc, u0, u1, u2⟩ := HU8.out _ hd1
                  have hbx := HU.out _ hd1
                  have r0 := hbx.free (k * 3)
                  have r1 := hbx.free (k * 3 + 1)
                  have r2 := hbx.free (k * 3 + 2)
                  have S11 := Lib.hid (show (((w9.setCell ⟨g6, k * 3, none⟩ (.int .i64 s.id)).setCell ⟨g6, k * 3 + 1, none⟩ (.int .i64 s.ep)).setCell ⟨g6, k * 3 + 2, none⟩ (.slice A10 s.locs.length C10)).cell? ⟨g8, 3, none⟩ = some (.slice (some ⟨g6, 0, none⟩) M C6) ∧ (((w9.setCell ⟨g6, k * 3, none⟩ (.int .i64 s.id)).setCell ⟨g6, k * 3 + 1, none⟩ (.int .i64 s.ep)).setCell ⟨g6, k * 3 + 2, none⟩ (.slice A10 s.locs.length C10)).cell? ⟨B, 4, none⟩ = some (.slice (some ⟨bs, os1, none⟩) 1 Cs) from ⟨kept_3 HNE.out.1 y3, kept_3 HNE.out.2.1 y4⟩)
                  have HON9 := Lib.hid hon9
                  have HK9 := Lib.hid hk9
                  have HD1 := Lib.hid hd1
                  have HBX := Lib.hid hbx
                  clear hb9 hon9 hk9 hbx hd1
                  clear hHeld
                  refine hK.out _ _ ?_ (fun hHeld => ?_)
                  · exact ⟨y3, y4⟩
                  clear hK K
                  try simp only [Act.put, List.setIfInBounds_toArray, List.set_cons_zero, List.set_cons_succ]
                  refine wpAnyH_take (i := 7) (oi := ?oiz8) (v := ?vz8) ?h1z8 (by kernel_rfl) (by kernel_rfl) (by kernel_rfl) (fun _ _ _ h => h) ?hyz8 (by assumption) ?_
                  case h1z8 => (simp only [List.getElem?_toArray, List.getElem?_cons_succ, List.getElem?_cons_zero]; rfl)
                  case hyz8 => first | (refine Or.inr ⟨rfl, ?_⟩; rfl) | (refine Or.inl ⟨rfl, ?_⟩; intro w hSw; (try dsimp only at hSw); go_simp; done) | (refine Or.inl ⟨rfl, ?_⟩; intro w hSw; (try dsimp only at hSw); go_simp; with_reducible rfl)
                  try simp only [Act.put, List.setIfInBounds_toArray, List.set_cons_zero, List.set_cons_succ]
                  refine wpAnyH_take (i := 8) (oi := ?oiz9) (v := ?vz9) ?h1z9 (by kernel_rfl) (by kernel_rfl) (by kernel_rfl) (fun _ _ _ h => h) ?hyz9 (by assumption) ?_
                  case h1z9 => (simp only [List.getElem?_toArray, List.getElem?_cons_succ, List.getElem?_cons_zero]; rfl)
                  case hyz9 => first | (refine Or.inr ⟨rfl, ?_⟩; rfl) | (refine Or.inl ⟨rfl, ?_⟩; intro w hSw; (try dsimp only at hSw); go_simp; done) | (refine Or.inl ⟨rfl, ?_⟩; intro w hSw; (try dsimp only at hSw); go_simp; with_reducible rfl)
                  try simp only [Act.put, List.setIfInBounds_toArray, List.set_cons_zero, List.set_cons_succ]
                  refine wpAnyH_ready (rs := [9]) (by kernel_rfl) (by simp) ?_
                  refine AllReadyH.cons (o := ?oiz11) ?h1z11 (fun K hK => ?_) ?morez11
                  case h1z11 => (simp only [List.getElem?_toArray, List.getElem?_cons_succ, List.getElem?_cons_zero]; rfl)
                  case morez11 => exact AllReadyH.nil
                  go_simp
                  clear hHeld
                  refine hK.out _ _ ?_ (fun hHeld => ?_)
                  · exact ⟨y3, y4⟩
                  clear hK K
                  try simp only [Act.put, List.setIfInBounds_toArray, List.set_cons_zero, List.set_cons_succ]
                  refine wpAnyH_take (i := 10) (oi := ?oiz10) (v := ?vz10) ?h1z10 (by kernel_rfl) (by kernel_rfl) (by kernel_rfl) (fun _ _ _ h => h) ?hyz10 (by assumption) ?_
                  case h1z10 => (simp only [List.getElem?_toArray, List.getElem?_cons_succ, List.getElem?_cons_zero]; rfl)
                  case hyz10 => first | (refine Or.inr ⟨rfl, ?_⟩; rfl) | (refine Or.inl ⟨rfl, ?_⟩; intro w hSw; (try dsimp only at hSw); go_simp; done) | (refine Or.inl ⟨rfl, ?_⟩; intro w hSw; (try dsimp only at hSw); go_simp; with_reducible rfl)
                  try simp only [Act.put, List.setIfInBounds_toArray, List.set_cons_zero, List.set_cons_succ]
                  refine wpAnyH_ready (rs := [11]) (by kernel_rfl) (by simp) ?_
                  refine AllReadyH.cons (o := ?oiz12) ?h1z12 (fun K hK => ?_) ?morez12
                  case h1z12 => (simp only [List.getElem?_toArray, List.getElem?_cons_succ, List.getElem?_cons_zero]; rfl)
                  case morez12 => exact AllReadyH.nil
                  go_simp
                  clear hHeld
                  refine hK.out _ _ ?_ (fun hHeld => ?_)
                  · exact S11.out
                  clear hK K
                  try simp only [Act.put, List.setIfInBounds_toArray, List.set_cons_zero, List.set_cons_succ]
                  refine wpAnyH_done (by kernel_rfl) ?_ _
                  refine NoPanic.normal ?_
                  clear hHeld
                  have HY2 := HY
                  have hb29 : Below w2.heap.size w2 w9 := HB28.out.trans (HD1.out.mono HB28.out.size)
                  have hb210 : Below w2.heap.size w2 (((w9.setCell ⟨g6, k * 3, none⟩ (.int .i64 s.id)).setCell ⟨g6, k * 3 + 1, none⟩ (.int .i64 s.ep)).setCell ⟨g6, k * 3 + 2, none⟩ (.slice A10 s.locs.length C10)) := ((hb29.setCell (by exact HNE.out.2.2) _).setCell (by exact HNE.out.2.2) _).setCell (by exact HNE.out.2.2) _
                  obtain ⟨y0, y1, y2, y3', y4'⟩ := HP8.out _ HD1.out
                  have x0' := kept_3 (o1 := k * 3) (o2 := k * 3 + 1) (o3 := k * 3 + 2) (v1 := .int .i64 s.id) (v2 := .int .i64 s.ep) (v3 := .slice A10 s.locs.length C10) HNE.out.1 y0
                  have x1' := kept_3 (o1 := k * 3) (o2 := k * 3 + 1) (o3 := k * 3 + 2) (v1 := .int .i64 s.id) (v2 := .int .i64 s.ep) (v3 := .slice A10 s.locs.length C10) HNE.out.1 y1
                  have x2' := kept_3 (o1 := k * 3) (o2 := k * 3 + 1) (o3 := k * 3 + 2) (v1 := .int .i64 s.id) (v2 := .int .i64 s.ep) (v3 := .slice A10 s.locs.length C10) HNE.out.1 y2
                  have x3' := kept_3 (o1 := k * 3) (o2 := k * 3 + 1) (o3 := k * 3 + 2) (v1 := .int .i64 s.id) (v2 := .int .i64 s.ep) (v3 := .slice A10 s.locs.length C10) HNE.out.1 y3'
                  have hKS : ∀ b, (KO b ∨ K9 b) → wq.heap.size ≤ b ∧ b < w9.heap.size := fun b q => by
                    have e1 := HB7.out.size
                    have e2 := HB78.out.size
                    have e3 := HD1.out.size
                    rcases q with q | q
                    · have := HM2.out b q; omega
                    · have := HK9.out b q; omega
                  have hg6 : ¬ (KO g6 ∨ K9 g6) := fun q => by
                    rcases q with q | q
                    · obtain ⟨xs, o1, o2, o3⟩ := HM1.out
                      exact o2 g6 rfl q
                    · have := HK9.out g6 q
                      have := HM1.out.own_lt g6 rfl
                      have := HB78.out.size
                      omega
                  have hst := BuiltX.set3 (K' := fun b => KO b ∨ K9 b) (L := x.stripes) (x := s) (i := k) (by rw [HM.out]; exact HBX.out) (by rw [HM.out]; exact hlt2) (fun b q => .inl q) hg6 (fun j => #[Value.int .i64 s.id, .int .i64 s.ep, .slice A10 s.locs.length C10].getD j undef) (HON9.out.more fun b q => .inr q)
                  rw [HM.out] at hst
                  obtain ⟨w10, hw10⟩ : ∃ w10, (((w9.setCell ⟨g6, k * 3, none⟩ (.int .i64 s.id)).setCell ⟨g6, k * 3 + 1, none⟩ (.int .i64 s.ep)).setCell ⟨g6, k * 3 + 2, none⟩ (.slice A10 s.locs.length C10)) = w10 := ⟨_, rfl⟩
                  have hst : BuiltX 3 StpR (fun b => KO b ∨ K9 b) w10 TStp (.slice (some ⟨g6, 0, none⟩) M C6) (x.stripes.set k s) := hw10 ▸ hst
                  rw [hw10] at hb210 x0' x1' x2' x3' ⊢
                  have HS210 := Lib.hid hb210
                  have hbw10 : Below w.heap.size w w10 := HBW2.out.trans (hb210.mono HBW2.out.size)
                  have z2 := below_cell hb210 _ _ s2
                  have n0 := below_cell hb210 _ _ c0
                  have n1 := below_cell hb210 _ _ c1
                  have n2' := below_cell hb210 _ _ c2
                  have n3 := below_cell hb210 _ _ c3
                  have hvf := HH.out.objs.below hbw10
                  have f0 := hvf.free (i * 4)
                  have f1 := hvf.free (i * 4 + 1)
                  have f2 := hvf.free (i * 4 + 2)
                  have f3 := hvf.free (i * 4 + 3)
                  have hq0 := HH.out.on.news hbw10
                  have hw9 : w9.heap.size ≤ w10.heap.size := by rw [← hw10]; simp [World.setCell]
                  have e0 := HBW2.out.size
                  have e1 := HBQ.out.size
                  have e2 := HB7.out.size
                  have e3 := HB78.out.size
                  have e4 := HD1.out.size
                  have hg6b : wq.heap.size ≤ g6 ∧ g6 < w7.heap.size := ⟨HM3.out, HM1.out.own_lt g6 rfl⟩
                  have hgV : gV < w.heap.size := HH.out.lt gV HVR.out.1
                  have hrl : r < w.heap.size := HH.out.lt r HH.out.gr
                  have hoi := HOI.out
                  obtain ⟨A9, C9', _, h9, t1, t2, t3, t4⟩ := hoi
                  have hfin := hq0.objAt (K' := fun b => K b ∨ (KO b ∨ K9 b) ∨ b = g6) (x := Tb.movedO x k s) HIL.out (fun b q => .inl q) (fun q => by
                    rcases q with q | q | q
                    · obtain ⟨xs, o1, o2, o3⟩ := HH.out.objs
                      exact o2 gV rfl q
                    · have := hKS gV q; omega
                    · omega) (fun b q => by
                    rcases q with q | q | q
                    · exact hq0.now.gk b q
                    · have := hKS b q
                      exact ⟨.inr (by omega), by omega⟩
                    · exact ⟨.inr (by omega), by omega⟩) (fun j => #[Value.string x.key, .int .i64 x.id, .int .i64 x.size, .slice (some ⟨g6, 0, none⟩) M C6].getD j undef) ((hst.on.more (fun b q => by
                    rcases q with q | q
                    · exact .inr (.inl q)
                    · injection q with q; exact .inr (.inr q.symm))).map fun w' q => ⟨rfl, rfl, rfl, q, t1, t2, t3, by show LenOk (x.stripes.set k s).length; rw [List.length_set]; exact t4⟩)
                  have HFIN := Lib.hid (show After w G r ⟨t.k, t.n, t.objs.set i (Tb.movedO x k s), t.states, t.epoch, t.last⟩ ((((w10.setCell ⟨gV, i * 4, none⟩ (.string x.key)).setCell ⟨gV, i * 4 + 1, none⟩ (.int .i64 x.id)).setCell ⟨gV, i * 4 + 2, none⟩ (.int .i64 x.size)).setCell ⟨gV, i * 4 + 3, none⟩ (.slice (some ⟨g6, 0, none⟩) M C6)) from hfin)
                  have hd10 := Go.Mem.below_drewN w10.heap.size w10 1
                  clear hst hfin hq0 hvf h9 hKS hg6 hw9 e0 e1 e2 e3 e4 hg6b hgV hrl hbw10 hb29 hb210 hw10 y0 y1 y2 y3 y4 y3' y4' u0 u1 u2 r0 r1 r2 x0 x1 x2 z3 z4 s2 s4 s5 c0 c1 c2 c3 hfd hd0 S11 t1 t2 t3 t4
                  go_wp2_with fail
                  go_still_tail 7, (by kernel_rfl)
                  go_wp2_with fail
                  go_ret
                  exact ⟨by rw [(HY.out).1]; rfl, by rw [(HY.out).2]; first | exact HFIN.out | exact HFIN.out.below (Go.Mem.below_drewN _ _ _)⟩
                · have HE := Lib.hid (HNK.out hxy)
                  have g1 : (y == s.id) = false := beq_eq_false_iff_ne.2 hxy
                  clear hxy HYK HNK
                  go_wp2_with fail
                  go_quiet (fail)
                  go_wp2_with fail
                  go_roundw
                  case rel => exact ⟨k + 1, by omega, by go_num, HE.out, _, rfl⟩
                  case measure => simp [intOf]; omega
              · obtain rfl : k = M := by omega
                have HE := Lib.hid (HNX.out (fun m hm => hs2 m hm (by rw [HM.out] at hm; exact hm)))
                clear hs2 hlt2
                go_wp2_with fail
                go_roundw
                case rel => exact ⟨i + 1, by omega, by go_num, HE.out, _, rfl⟩
                case measure => simp [intOf]; omega
          · obtain rfl : i = N := by omega
            have HN1 := Lib.hid (HNO.out (fun j hj => hs j hj (by rw [HN.out] at hj; exact hj)))
            clear hs hlt
            go_wp2_with fail
            go_ret
            exact ⟨by rw [(HN1.out).1]; rfl, by rw [(HN1.out).2]; exact HSA2.out _ (Go.Mem.below_drewN _ _ _)⟩
      · rw [decide_eq_false k2] at hrc
        have HRC := Lib.hid hrc
        have HN1 := Lib.hid (HWR.out k2)
        clear k2 hrc HWR HNO HYE
        go_wp2_with fail
        refine HRC.out.mono ?_
        rintro _ w2 ⟨rfl, hb2⟩
        have HB2 := Lib.hid hb2
        clear hb2
        go_wp2_with fail
        go_ret
        exact ⟨by rw [(HN1.out).1]; rfl, by rw [(HN1.out).2]; exact HSA1.out _ HB2.out⟩
    · have HN1 := Lib.hid (HLEN.out k1)
      obtain ⟨NS, hNS⟩ : ∃ x, ss.length = x := ⟨_, rfl⟩
      rw [hNS] at b4 gs1 k1 ⊢
      have f1 : ((NS : Int) != 1) = true := by rw [bne_iff_ne]; omega
      clear hNS k1 hss
      go_wp2_with fail
      go_ret
      exact ⟨by rw [(HN1.out).1]; rfl, by rw [(HN1.out).2]; exact HSA1.out _ (Below.refl _ _)⟩
end Go.Proofs.Ytlgdchflegflkaa.Tbl
