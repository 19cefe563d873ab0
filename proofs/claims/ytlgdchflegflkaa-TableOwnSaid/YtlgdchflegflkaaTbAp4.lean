/- The document's Apply of a RecPool, as a walk. -/
import Derived.Test.YtlgdchflegflkaaTbAp
namespace Tb
open Go Go.Mem Kl
theorem ap4 {t : TabD} {r : RecD} (hk : r.kind = 4) : apply t r = if r.id = t.epoch + 1 ∧ r.id ≤ 1073741824 ∧ DrvOk r.drives ∧ t.states.length ≤ r.drives.length then some ⟨t.k, t.n, t.objs, r.drives, r.id, t.last⟩ else none := by
  unfold apply
  rw [if_neg (by omega), if_neg (by omega), if_neg (by omega), if_pos hk]
theorem ap4_no {t : TabD} {r : RecD} (hk : r.kind = 4) (h : ¬ (r.id = t.epoch + 1 ∧ r.id ≤ 1073741824 ∧ DrvOk r.drives ∧ t.states.length ≤ r.drives.length)) : (apply t r).isSome = false ∧ stepT t r = t := by
  have e : apply t r = none := by rw [ap4 hk, if_neg h]
  unfold stepT
  rw [e]
  exact ⟨rfl, rfl⟩
theorem ap4_yes {t : TabD} {r : RecD} (hk : r.kind = 4) (h : r.id = t.epoch + 1 ∧ r.id ≤ 1073741824 ∧ DrvOk r.drives ∧ t.states.length ≤ r.drives.length) : (apply t r).isSome = true ∧ stepT t r = ⟨t.k, t.n, t.objs, r.drives, r.id, t.last⟩ := by
  have e : apply t r = some ⟨t.k, t.n, t.objs, r.drives, r.id, t.last⟩ := by rw [ap4 hk, if_pos h]
  unfold stepT
  rw [e]
  exact ⟨rfl, rfl⟩
end Tb
namespace Go.Proofs.Ytlgdchflegflkaa.Tbl
set_option linter.unusedVariables false
open Go.ChangeShapes Go.WideShapes Go.ChangeAt Go.RowKit
open Go.Mem RecM
set_option maxRecDepth 100000 in
set_option maxHeartbeats 4000000 in
theorem apply_pool {w : World} {G : Nat → Prop} {r : Nat} {t : Tb.TabD} (h : RT w G r t) (hok : t.Ok) (rd : RecD) (V : Value) (hV : RecV w V rd) (hk : rd.kind = 4) :
    Calls Try.prog 13 #[.pointer (some ⟨r, 0, none⟩), V] w (ApPost w G r t rd) := by
  obtain ⟨As, Ao, Ad, Cs, Co, Cd, rfl, hr⟩ := hV
  have HNO := Lib.hid (@Tb.ap4_no t rd hk)
  have HYES := Lib.hid (@Tb.ap4_yes t rd hk)
  obtain ⟨kind, id, size, key, ss, os, ds⟩ := rd
  dsimp only at HNO HYES hk
  subst hk
  obtain ⟨K, VO, S, hh⟩ := h
  have c3 : w.cell? ⟨r, 3, none⟩ = some S := hh.cell (i := 3) (by omega)
  have c4 : w.cell? ⟨r, 4, none⟩ = some (.int .i64 t.epoch) := hh.cell (i := 4) (by omega)
  have c5 : w.cell? ⟨r, 5, none⟩ = some (.int .i64 t.last) := hh.cell (i := 5) (by omega)
  obtain ⟨AS, CS, rfl, -, -, -⟩ := hh.sts.here.shape
  obtain ⟨w1, hw1⟩ : ∃ w1, w1 = w.alloc (.cells #[.int .i64 4, .int .i64 id, .int .i64 size, .string key, .slice As ss.length Cs, .slice Ao os.length Co, .slice Ad ds.length Cd] 36) := ⟨_, rfl⟩
  have hx : Below w.heap.size w w1 := by rw [hw1]; exact (Below.refl _ _).alloc (Nat.le_refl _) _
  have hrow : w1.rowIs w.heap.size 36 7 (fun i => #[Value.int .i64 4, .int .i64 id, .int .i64 size, .string key, .slice As ss.length Cs, .slice Ao os.length Co, .slice Ad ds.length Cd].getD i undef) := by rw [hw1]; exact row_of w _ _
  have d3 := below_cell hx _ _ c3
  have d4 := below_cell hx _ _ c4
  have d5 := below_cell hx _ _ c5
  have b0 : w1.cell? ⟨w.heap.size, 0, none⟩ = some (.int .i64 4) := hrow.cell (i := 0) (by omega)
  have b1 : w1.cell? ⟨w.heap.size, 1, none⟩ = some (.int .i64 id) := hrow.cell (i := 1) (by omega)
  have b6 : w1.cell? ⟨w.heap.size, 6, none⟩ = some (.slice Ad ds.length Cd) := hrow.cell (i := 6) (by omega)
  have HDS := Lib.hid (show Ints w1 (.slice Ad ds.length Cd) ds from hr.d.below hx)
  -- the walk
  have hep0 := hok.ep0
  have hep1 := hok.ep1
  have i0 : -9223372036854775808 ≤ id := hr.k1.1
  have i1 : id ≤ 9223372036854775807 := hr.k1.2
  have hsz : ds.length ≤ 140737488351232 := hr.ld
  have hsl : t.states.length ≤ 12 := hok.drv.2
  obtain ⟨ep, hep⟩ : ∃ x, t.epoch = x := ⟨_, rfl⟩
  obtain ⟨la, hla⟩ : ∃ x, t.last = x := ⟨_, rfl⟩
  obtain ⟨ns, hns⟩ : ∃ x, t.states.length = x := ⟨_, rfl⟩
  obtain ⟨nd, hnd⟩ : ∃ x, ds.length = x := ⟨_, rfl⟩
  have hwr : IntKind.i64.wrap (ep + 1) = ep + 1 := IntWalk.i64_in _ (by omega)
  have HND := Lib.hid hnd
  obtain ⟨B, hB⟩ : ∃ B, w.heap.size = B := ⟨_, rfl⟩
  have HBE := Lib.hid hB
  have HX := Lib.hid hx
  have HH := Lib.hid hh
  rw [hnd] at hw1 b6 HDS hsz HNO HYES
  rw [hns] at d3 hsl HNO HYES
  rw [hep] at d4 hep0 hep1 HNO HYES
  rw [hla] at d5
  rw [hB] at b0 b1 b6 hrow
  have HW1 := Lib.hid hw1
  unfold recVal
  dsimp only
  rw [hnd]
  clear hr hh c3 c4 c5 hx hw1 hB hnd hns hep hla hrow
  have h1 : 0 ≤ ep + 1 := by omega
  have hdr := fun n => drivesC ds (.slice Ad nd Cd) (w1.drewN n) (HDS.out.drewN n)
  by_cases c1 : id = ep + 1
  · have f1 : (id != ep + 1) = false := by rw [c1]; simp
    by_cases c2 : 1073741824 < id
    · have HN := Lib.hid (HNO.out (fun q => by omega))
      have f2 : decide (1073741824 < id) = true := decide_eq_true c2
      clear c1 c2 HNO HYES hdr
      rcases (by omega : la < id ∨ id ≤ la) with hl | hl
      all_goals
        go_enter Try.func13, Try.ntmps13
        go_upto_region 1 with (fail)
        rw [← HW1.out, HBE.out]
        go_upto_region 50 with (fail)
        go_quiet (fail)
        go_wp2_with fail
        go_ret
        exact ⟨by rw [(HN.out).1]; rfl, by rw [(HN.out).2]; exact ap_same ⟨K, VO, _, HH.out⟩ (HX.out.trans (below_drewN _ _ _))⟩
    have f2 : decide (1073741824 < id) = false := decide_eq_false c2
    by_cases c3 : Tb.DrvOk ds
    · rw [decide_eq_true c3] at hdr
      by_cases c4 : nd < ns
      · have HN := Lib.hid (HNO.out (fun q => by omega))
        have f3 : decide (nd < ns) = true := decide_eq_true c4
        have f4 : decide ((nd : Int) < (ns : Int)) = true := decide_eq_true (by omega)
        have HD := Lib.hid hdr
        clear c1 c2 c3 c4 HNO HYES hdr
        rcases (by omega : la < id ∨ id ≤ la) with hl | hl
        all_goals
          go_enter Try.func13, Try.ntmps13
          go_upto_region 1 with (fail)
          rw [← HW1.out, HBE.out]
          go_upto_region 50 with (fail)
          go_quiet ((go_at_call 32; first | exact quiet_at (HD.out _) | exact Calls.quiet_of (HD.out _)))
          go_wp2_with fail
          go_ret
          exact ⟨by rw [(HN.out).1]; rfl, by rw [(HN.out).2]; exact ap_same ⟨K, VO, _, HH.out⟩ (HX.out.trans (below_drewN _ _ _))⟩
      · have HY := Lib.hid (HYES.out ⟨c1, by omega, c3, by omega⟩)
        have f3 : decide (nd < ns) = false := decide_eq_false c4
        have f4 : decide ((nd : Int) < (ns : Int)) = false := decide_eq_false (by omega)
        have HD := Lib.hid hdr
        have HDV := Lib.hid c3.2
        have HK1 := Lib.hid c1
        clear c1 c2 c3 c4 HNO HYES hdr
        have HRB := Lib.hid (show ¬ r = B from fun e => by have := HH.out.lt r HH.out.gr; have := HBE.out; omega)
        rcases (by omega : la < id ∨ id ≤ la) with hl | hl
        all_goals
          go_enter Try.func13, Try.ntmps13
          go_upto_region 1 with (fail)
          rw [← HW1.out, HBE.out]
          go_upto_region 50 with (fail)
          go_quiet ((go_at_call 32; first | exact quiet_at (HD.out _) | exact Calls.quiet_of (HD.out _)))
          go_upto_region 52 with (fail)
          have hdi := HDS.out.below (below_drewN w1.heap.size w1 nq)
          obtain ⟨wq, hwq⟩ : ∃ wq, w1.drewN nq = wq := ⟨_, rfl⟩
          have hbq : Below w1.heap.size w1 wq := hwq ▸ below_drewN _ _ _
          rw [hwq] at hdi ⊢
          obtain ⟨v3, w3, hr3, hbu3, hb3, A3, C3, e3⟩ := int_app (P := Try.prog) (wq.drewN 1) 29 29 3 Try.underlying29 infoInt Ad nd Cd ds (hdi.below (below_drewN _ _ _)) (by have := HDV.out; omega)
          subst e3
          have hb3' : Below wq.heap.size wq w3 := (below_drewN wq.heap.size wq 1).trans hb3
          have hq1 := HH.out.on.below HX.out
          have hq2 := hq1.below hbq
          have hlt2 := hq2.now.lt
          have hq3 := (hq2.news hb3')
          have hown : ∀ b, (Value.slice A3 ds.length C3).ownBlock = some b → wq.heap.size ≤ b ∧ b < w3.heap.size := hbu3.own_lt
          have hq4 := hq3.epoch id
          have hq5 := hq4.states (S' := .slice A3 ds.length C3) (l := ds) ((ints_own hbu3).turned (Turned.set (F := fun b => b = r) _ rfl) (fun b q z => by have := (hown b z).1; have := hlt2 r hq2.now.gr; omega)) (fun b q => ⟨.inr (hown b q), fun e => by have := (hown b q).1; have := hlt2 r hq2.now.gr; omega, fun e => by have := (hown b q).1; have := hlt2 b (hq2.now.gv b e).1; omega⟩)
          have HFIN := Lib.hid hq5.done
          have y3 := hq3.now.cell (i := 3) (by omega)
          have y4 := hq3.now.cell (i := 4) (by omega)
          have l3 := hq3.now.free 3
          have l4 := hq3.now.free 4
          rw [HND.out] at hr3 HFIN
          have HR3 := Lib.hid hr3
          have g1 := below_cell hbq _ _ b1
          have g6 := below_cell hbq _ _ b6
          have S3 := Lib.hid (show w3.cell? ⟨B, 1, none⟩ = some (.int .i64 id) ∧ w3.cell? ⟨B, 6, none⟩ = some (.slice Ad nd Cd) from ⟨below_cell hb3' _ _ g1, below_cell hb3' _ _ g6⟩)
          clear hdi hr3 hbu3 hb3 hb3' hbq hwq b0 b1 b6 d3 d4 d5 f1 f2 f3 f4 hwr hq1 hq2 hq3 hq4 hq5 hown hlt2
          go_region_held3 (fun w' => w'.cell? ⟨B, 1, none⟩ = some (.int .i64 id) ∧ w'.cell? ⟨B, 6, none⟩ = some (.slice Ad nd Cd))
            (first | go_keep | with_reducible exact S3.out | with_reducible exact two_kept HRB.out S3.out | with_reducible exact two_kept HRB.out (two_kept HRB.out S3.out))
            (refine step_append_run _ _ _ rfl (.tmp 301) (.tmp 303) _ _ rfl _ _ rfl rfl HR3.out ?_)
          all_goals
            go_wp2_with fail
            go_ret
            exact ⟨by rw [(HY.out).1]; rfl, by rw [(HY.out).2]; first | exact HFIN.out | exact HFIN.out.below (below_drewN _ _ _)⟩
    · rw [decide_eq_false c3] at hdr
      have HN := Lib.hid (HNO.out (fun q => c3 q.2.2.1))
      have HD := Lib.hid hdr
      clear c1 c2 c3 HNO HYES hdr
      rcases (by omega : la < id ∨ id ≤ la) with hl | hl
      all_goals
        go_enter Try.func13, Try.ntmps13
        go_upto_region 1 with (fail)
        rw [← HW1.out, HBE.out]
        go_upto_region 50 with (fail)
        go_quiet ((go_at_call 32; first | exact quiet_at (HD.out _) | exact Calls.quiet_of (HD.out _)))
        go_wp2_with fail
        go_ret
        exact ⟨by rw [(HN.out).1]; rfl, by rw [(HN.out).2]; exact ap_same ⟨K, VO, _, HH.out⟩ (HX.out.trans (below_drewN _ _ _))⟩
  · have HN := Lib.hid (HNO.out (fun q => c1 q.1))
    have f1 : (id != ep + 1) = true := by rw [bne_iff_ne]; exact c1
    clear c1 HNO HYES hdr
    rcases (by omega : la < id ∨ id ≤ la) with hl | hl
    all_goals
      go_enter Try.func13, Try.ntmps13
      go_upto_region 1 with (fail)
      rw [← HW1.out, HBE.out]
      go_upto_region 50 with (fail)
      go_quiet (fail)
      go_wp2_with fail
      go_ret
      exact ⟨by rw [(HN.out).1]; rfl, by rw [(HN.out).2]; exact ap_same ⟨K, VO, _, HH.out⟩ (HX.out.trans (below_drewN _ _ _))⟩
end Go.Proofs.Ytlgdchflegflkaa.Tbl
