/- The document's Apply of a RecAll, as a walk. -/
import Derived.Test.YtlgdchflegflkaaTbAp5m
namespace Go.Proofs.Ytlgdchflegflkaa.Tbl
set_option linter.unusedVariables false
open Go.ChangeShapes Go.WideShapes Go.ChangeAt Go.RowKit
open Go.Mem RecM
set_option maxRecDepth 100000 in
set_option maxHeartbeats 16000000 in
theorem apply_all {w : World} {G : Nat → Prop} {r : Nat} {t : Tb.TabD} (h : RT w G r t) (rd : RecD) (V : Value) (hV : RecV w V rd) (hk : rd.kind = 5) (hno : rd.objects.length ≤ 10000) (hob : ∀ o ∈ rd.objects, o.stripes.length ≤ 10000 ∧ ∀ s ∈ o.stripes, s.locs.length ≤ 1000000) :
    Calls Try.prog 13 #[.pointer (some ⟨r, 0, none⟩), V] w (ApPost w G r t rd) := by
  obtain ⟨As, Ao, Ad, Cs, Co, Cd, rfl, hr⟩ := hV
  have HNO := Lib.hid (@Tb.ap5_no t rd hk)
  have HYES := Lib.hid (@Tb.ap5_yes t rd hk)
  obtain ⟨kind, id, size, key, ss, os, ds⟩ := rd
  dsimp only at HNO HYES hk hno hob
  subst hk
  obtain ⟨K, VO, S, hh⟩ := h
  have c0 : w.cell? ⟨r, 0, none⟩ = some (.int .i64 t.k) := hh.cell (i := 0) (by omega)
  have c1 : w.cell? ⟨r, 1, none⟩ = some (.int .i64 (t.n - t.k)) := hh.cell (i := 1) (by omega)
  have c5 : w.cell? ⟨r, 5, none⟩ = some (.int .i64 t.last) := hh.cell (i := 5) (by omega)
  obtain ⟨w1, hw1⟩ : ∃ w1, w1 = w.alloc (.cells #[.int .i64 5, .int .i64 id, .int .i64 size, .string key, .slice As ss.length Cs, .slice Ao os.length Co, .slice Ad ds.length Cd] 36) := ⟨_, rfl⟩
  have hx : Below w.heap.size w w1 := by rw [hw1]; exact (Below.refl _ _).alloc (Nat.le_refl _) _
  have hrow : w1.rowIs w.heap.size 36 7 (fun i => #[Value.int .i64 5, .int .i64 id, .int .i64 size, .string key, .slice As ss.length Cs, .slice Ao os.length Co, .slice Ad ds.length Cd].getD i undef) := by rw [hw1]; exact row_of w _ _
  have d0 := below_cell hx _ _ c0
  have d1 := below_cell hx _ _ c1
  have d5 := below_cell hx _ _ c5
  have b0 : w1.cell? ⟨w.heap.size, 0, none⟩ = some (.int .i64 5) := hrow.cell (i := 0) (by omega)
  have b1 : w1.cell? ⟨w.heap.size, 1, none⟩ = some (.int .i64 id) := hrow.cell (i := 1) (by omega)
  have b2 : w1.cell? ⟨w.heap.size, 2, none⟩ = some (.int .i64 size) := hrow.cell (i := 2) (by omega)
  have b5 : w1.cell? ⟨w.heap.size, 5, none⟩ = some (.slice Ao os.length Co) := hrow.cell (i := 5) (by omega)
  have b6 : w1.cell? ⟨w.heap.size, 6, none⟩ = some (.slice Ad ds.length Cd) := hrow.cell (i := 6) (by omega)
  have HDS := Lib.hid (show Ints w1 (.slice Ad ds.length Cd) ds from hr.d.below hx)
  have HOS := Lib.hid (show Objs w1 (.slice Ao os.length Co) os from hr.o.below hx)
  have i0 : -9223372036854775808 ≤ id := hr.k1.1
  have i1 : id ≤ 9223372036854775807 := hr.k1.2
  have j0 : -9223372036854775808 ≤ size := hr.k2.1
  have j1 : size ≤ 9223372036854775807 := hr.k2.2
  have hsz : ds.length ≤ 140737488351232 := hr.ld
  obtain ⟨la, hla⟩ : ∃ x, t.last = x := ⟨_, rfl⟩
  obtain ⟨NO, hNO⟩ : ∃ x, os.length = x := ⟨_, rfl⟩
  obtain ⟨nd, hnd⟩ : ∃ x, ds.length = x := ⟨_, rfl⟩
  have HND := Lib.hid hnd
  have HNO1 := Lib.hid hNO
  obtain ⟨B, hB⟩ : ∃ B, w.heap.size = B := ⟨_, rfl⟩
  have HBE := Lib.hid hB
  have HX := Lib.hid hx
  have HH := Lib.hid hh
  have HOB := Lib.hid hob
  rw [hnd] at hw1 b6 HDS hsz
  rw [hNO] at hw1 b5 hno HOS
  rw [hla] at d5
  rw [hB] at b0 b1 b2 b5 b6 hrow
  have HW1 := Lib.hid hw1
  unfold recVal
  dsimp only
  rw [hnd, hNO]
  have hdr := fun n => drivesC ds (.slice Ad nd Cd) (w1.drewN n) (HDS.out.drewN n)
  have HSA1 := Lib.hid (show ∀ w', Below w1.heap.size w1 w' → After w G r t w' from fun w' q => ap_same ⟨K, _, _, HH.out⟩ (HX.out.trans (q.mono HX.out.size)))
  clear hr hh c0 c1 c5 hx hw1 hB hnd hNO hla hrow hob
  go_enter Try.func13, Try.ntmps13
  go_upto_region 1 with (fail)
  rw [← HW1.out, HBE.out]
  go_upto_region 2 with (fail)
  go_upto_if 27 with (fail)
  go_cut [5] from 24 to 29 (fun l wx => (∃ z : Int, l = .int .i64 z) ∧ w1 = wx)
  case first =>
    rcases (by omega : la < id ∨ id ≤ la) with hl | hl
    all_goals
      go_wp2_with fail
      go_meet
      case rel => exact ⟨⟨_, rfl⟩, rfl⟩
  case rest =>
    obtain ⟨⟨z, rfl⟩, rfl⟩ := hcut
    by_cases k1 : id < 0
    · have HN := Lib.hid (HNO.out (fun q => by omega))
      have f1 : decide (id < 0) = true := decide_eq_true k1
      clear k1 HNO HYES hdr
      go_wp2_with fail
      go_ret
      exact ⟨by rw [(HN.out).1]; rfl, by rw [(HN.out).2]; exact HSA1.out _ (Below.refl _ _)⟩
    have f1 : decide (id < 0) = false := decide_eq_false k1
    by_cases k2 : 33554432 < id
    · have HN := Lib.hid (HNO.out (fun q => by omega))
      have f2 : decide (33554432 < id) = true := decide_eq_true k2
      clear k1 k2 HNO HYES hdr
      go_wp2_with fail
      go_ret
      exact ⟨by rw [(HN.out).1]; rfl, by rw [(HN.out).2]; exact HSA1.out _ (Below.refl _ _)⟩
    have f2 : decide (33554432 < id) = false := decide_eq_false k2
    by_cases k3 : size < 0
    · have HN := Lib.hid (HNO.out (fun q => by omega))
      have f3 : decide (size < 0) = true := decide_eq_true k3
      clear k1 k2 k3 HNO HYES hdr
      go_wp2_with fail
      go_ret
      exact ⟨by rw [(HN.out).1]; rfl, by rw [(HN.out).2]; exact HSA1.out _ (Below.refl _ _)⟩
    have f3 : decide (size < 0) = false := decide_eq_false k3
    by_cases k4 : 1073741824 < size
    · have HN := Lib.hid (HNO.out (fun q => by omega))
      have f4 : decide (1073741824 < size) = true := decide_eq_true k4
      clear k1 k2 k3 k4 HNO HYES hdr
      go_wp2_with fail
      go_ret
      exact ⟨by rw [(HN.out).1]; rfl, by rw [(HN.out).2]; exact HSA1.out _ (Below.refl _ _)⟩
    have f4 : decide (1073741824 < size) = false := decide_eq_false k4
    by_cases k5 : Tb.DrvOk ds
    · rw [decide_eq_true k5] at hdr
      have HD := Lib.hid (hdr 0)
      have HYES5 := Lib.hid (show Tb.AllOk t.k t.n id os → _ from fun q => HYES.out ⟨by omega, by omega, by omega, by omega, k5, q⟩)
      have HNO5 := Lib.hid (show ¬ Tb.AllOk t.k t.n id os → _ from fun q => HNO.out (fun z => q z.2.2.2.2.2))
      have HDV := Lib.hid k5.2
      clear k1 k2 k3 k4 k5 HYES HNO hdr
      go_wp2_with fail
      refine HD.out.mono ?_
      rintro _ w2 ⟨rfl, n2, hw2⟩
      have hb2 : Below w1.heap.size w1 w2 := by rw [hw2]; exact Go.Mem.below_drewN _ _ _
      have HB2 := Lib.hid hb2
      have HDS2 := Lib.hid (HDS.out.below hb2)
      have HOS2 := Lib.hid (HOS.out.below hb2)
      have s0 := below_cell hb2 _ _ d0
      have s1 := below_cell hb2 _ _ d1
      have s2 := below_cell hb2 _ _ b1
      have s3 := below_cell hb2 _ _ b2
      have s5 := below_cell hb2 _ _ b5
      have s6 := below_cell hb2 _ _ b6
      have HSA2 := Lib.hid (show ∀ w', Below w2.heap.size w2 w' → After w G r t w' from fun w' q => HSA1.out _ (hb2.trans (q.mono hb2.size)))
      clear hb2 hw2 d0 d1 d5 b0 b1 b2 b5 b6 f1 f2 f3 f4 HD
      have HM0 := Lib.hid (LMid.start w2 (fun _ => False))
      go_wp2_with fail
      go_loopw [16, 17] (fun v c wr => ∃ (i : Nat) (K' : Nat → Prop), i ≤ NO ∧ c = .int .i64 i ∧ LMid w2 K' (os.take i) v wr ∧ (∀ b, K' b → w2.heap.size ≤ b ∧ b < wr.heap.size) ∧ Tb.AllOk t.k t.n id (os.take i)) (fun _ c _ => NO - (intOf c).toNat)
      case atStart => exact ⟨0, fun _ => False, Nat.zero_le _, rfl, HM0.out, fun b q => q.elim, Tb.allOk_nil _ _ _⟩
      case round =>
        obtain ⟨i, K', hi, rfl, hm, hK', hal⟩ := hrel
        obtain ⟨wo, hwo⟩ : ∃ wo : World, wo = wr := ⟨_, rfl⟩
        subst hwo
        have HM := Lib.hid hm
        have HKB := Lib.hid hK'
        have HAL := Lib.hid hal
        have hb := hm.2.2
        have e4 := below_cell hb _ _ s2
        have e5 := below_cell hb _ _ s5
        obtain ⟨Au, Cu, hve, -, -⟩ := hm.len
        rw [List.length_take, Nat.min_eq_left (by rw [HNO1.out]; exact hi)] at hve
        subst hve
        by_cases hlt : i < NO
        · have hil : i < os.length := by rw [HNO1.out]; exact hlt
          obtain ⟨b, o, A', C', rfl, a0, a1, a2, a3, hoi⟩ := Objs.val HOS2.out hil
          have HLB := Lib.hid (HOB.out _ (List.getElem_mem hil))
          have HNB := Lib.hid (fun q => HNO5.out (Tb.all_obj (k := t.k) (n := t.n) (x := id) hil q))
          have HNI := Lib.hid (fun q => HNO5.out (Tb.all_id (k := t.k) (n := t.n) hil q))
          have HNT := Lib.hid (fun j hj hji q => HNO5.out (Tb.all_two (k := t.k) (n := t.n) (x := id) hil (j := j) hj hji q))
          have HPREV := Lib.hid (show 0 < i → ∃ hj : i - 1 < os.length, w2.cell? ⟨b, o + (i - 1) * 4, none⟩ = some (.string (os[i - 1]'hj).key) ∧ (Kl.lt (os[i - 1]'hj).key.toList os[i].key.toList = false → (Tb.apply t ⟨5, id, size, key, ss, os, ds⟩).isSome = false ∧ Tb.stepT t ⟨5, id, size, key, ss, os, ds⟩ = t) from fun q => by
            have hj : i - 1 < os.length := by omega
            obtain ⟨b', o', _, _, e, a, -⟩ := Objs.val HOS2.out hj
            cases e
            exact ⟨hj, a, fun z => HNO5.out (Tb.all_key hil q hj z)⟩)
          have HNX := Lib.hid (fun h1 h2 h3 h4 => Tb.allOk_succ (k := t.k) (n := t.n) (x := id) hil hal h1 h2 h3 h4)
          have HTK := Lib.hid (show os.take (i + 1) = os.take i ++ [os[i]] from List.take_succ_eq_append_getElem hil)
          have HTL := Lib.hid (show (os.take i).length ≤ i from by rw [List.length_take]; omega)
          have HOI := Lib.hid (show ∀ w', Below w2.heap.size w2 w' → ObjIs w' (.agg #[.string os[i].key, .int .i64 os[i].id, .int .i64 os[i].size, .slice A' os[i].stripes.length C']) os[i] from fun w' q => by
            obtain ⟨A9, C9, e, h9, g1, g2, g3, g4⟩ := hoi
            exact ⟨A9, C9, e, h9.below q, g1, g2, g3, g4⟩)
          have HIDS := Lib.hid (show ∀ j (hj : j < os.length), w2.cell? ⟨b, o + j * 4 + 1, none⟩ = some (.int .i64 os[j].id) from fun j hj => by
            obtain ⟨b', o', _, _, e, -, a, -⟩ := Objs.val HOS2.out hj
            cases e
            exact a)
          obtain ⟨x, hx⟩ : ∃ x, os[i] = x := ⟨_, rfl⟩
          rw [hx] at a0 a1 a2 a3 HLB HNB HNI HNT HNX HTK HOI HPREV
          obtain ⟨M, hM⟩ : ∃ M, x.stripes.length = M := ⟨_, rfl⟩
          rw [hM] at a3 HOI
          have HMN := Lib.hid hM
          have e0 := below_cell hb _ _ a0
          have e1 := below_cell hb _ _ a1
          have e2 := below_cell hb _ _ a2
          have e3 := below_cell hb _ _ a3
          have q1 : (0 : Int) ≤ (i : Int) := by omega
          have q2 : (i : Int) < (NO : Int) := by omega
          have HHB := Lib.hid hb
          clear hm hK' hal hoi hM a0 a1 a2 a3 hx hil
          go_wp2_with fail
          obtain ⟨wb, hwb⟩ : ∃ wb, wo.alloc (.cells #[.string x.key, .int .i64 x.id, .int .i64 x.size, .slice A' M C'] TObj) = wb := ⟨_, rfl⟩
          have hbb : Below wo.heap.size wo wb := by rw [← hwb]; exact (Below.refl _ _).alloc (Nat.le_refl _) _
          have hrow5 : wb.rowIs wo.heap.size TObj 4 (fun j => #[Value.string x.key, .int .i64 x.id, .int .i64 x.size, .slice A' M C'].getD j undef) := by rw [← hwb]; exact row_of _ _ _
          have hwlt : wo.heap.size < wb.heap.size := hrow5.lt
          have HBW := Lib.hid (show Below w2.heap.size w2 wb from HHB.out.trans (hbb.mono HHB.out.size))
          obtain ⟨g5, hg5⟩ : ∃ g, wo.heap.size = g := ⟨_, rfl⟩
          rw [hg5] at hrow5 hwlt
          rw [hg5]
          rw [hwb]
          have hd0 : Below wb.heap.size wb wb.drew := Go.Mem.below_drewN _ wb 1
          have p0 : wb.cell? ⟨g5, 0, none⟩ = some (.string x.key) := hrow5.cell (i := 0) (by omega)
          have p1 : wb.cell? ⟨g5, 1, none⟩ = some (.int .i64 x.id) := hrow5.cell (i := 1) (by omega)
          have p2 : wb.cell? ⟨g5, 2, none⟩ = some (.int .i64 x.size) := hrow5.cell (i := 2) (by omega)
          have p3 : wb.cell? ⟨g5, 3, none⟩ = some (.slice A' M C') := hrow5.cell (i := 3) (by omega)
          have p4 := below_cell hbb _ _ e4
          have p5 := below_cell hbb _ _ e5
          have z0 := below_cell hd0 _ _ p0
          have z1 := below_cell hd0 _ _ p1
          have z2 := below_cell hd0 _ _ p2
          have z3 := below_cell hd0 _ _ p3
          have z4 := below_cell hd0 _ _ p4
          have z5 := below_cell hd0 _ _ p5
          have HP := Lib.hid (show ∀ w', Below wb.heap.size wb w' → w'.cell? ⟨g5, 0, none⟩ = some (.string x.key) ∧ w'.cell? ⟨g5, 1, none⟩ = some (.int .i64 x.id) ∧ w'.cell? ⟨g5, 2, none⟩ = some (.int .i64 x.size) ∧ w'.cell? ⟨g5, 3, none⟩ = some (.slice A' M C') ∧ w'.cell? ⟨B, 1, none⟩ = some (.int .i64 id) ∧ w'.cell? ⟨B, 5, none⟩ = some (.slice (some ⟨b, o, none⟩) NO Co) from
            fun w' q => ⟨below_cell q _ _ p0, below_cell q _ _ p1, below_cell q _ _ p2, below_cell q _ _ p3, below_cell q _ _ p4, below_cell q _ _ p5⟩)
          have hbd : Below w2.heap.size w2 wb.drew := HBW.out.trans (hd0.mono HBW.out.size)
          have hrc := rightObjC (w := wb.drew) (below_cell hbd _ _ s0) (below_cell hbd _ _ s1) HH.out.k0 HH.out.k1 HH.out.m0 HH.out.m1 x _ (HOI.out _ hbd)
          rw [show t.k + (t.n - t.k) = t.n by omega] at hrc
          have HWR := Lib.hid (show Below wo.heap.size wo wb from hbb)
          have HG5 := Lib.hid hg5
          clear hb hbb hrow5 hbd hwb hg5 e0 e1 e2 e3 e4 e5 p0 p1 p2 p3 p4 p5
          by_cases k1 : Tb.ObjOk t.k t.n x
          · rw [decide_eq_true k1] at hrc
            have HRC := Lib.hid hrc
            clear hrc
            have HK1 := Lib.hid k1
            clear k1 HNB
            by_cases k2 : id < x.id
            · have HN := Lib.hid (HNI.out k2)
              have f1 : decide (id < x.id) = true := decide_eq_true k2
              clear k2 HNI HNT
              refine wp_region_noPanic ?_
              refine wp_region_held_drew (S := (fun w' => Below wb.heap.size wb w' ∧ w'.cell? ⟨g5, 0, none⟩ = some (.string x.key) ∧ w'.cell? ⟨g5, 1, none⟩ = some (.int .i64 x.id) ∧ w'.cell? ⟨g5, 2, none⟩ = some (.int .i64 x.size) ∧ w'.cell? ⟨g5, 3, none⟩ = some (.slice A' M C') ∧ w'.cell? ⟨B, 1, none⟩ = some (.int .i64 id) ∧ w'.cell? ⟨B, 5, none⟩ = some (.slice (some ⟨b, o, none⟩) NO Co) )) (by kernel_rfl) ?_ (fun hHeld => ?_)
              · exact ⟨hd0, z0, z1, z2, z3, z4, z5⟩
              refine wpAnyH_take (i := 0) (oi := ?oiz2) (v := ?vz2) ?h1z2 (by kernel_rfl) (by kernel_rfl) (by kernel_rfl) (fun _ _ _ h => h) ?hyz2 (by assumption) ?_
              case h1z2 => (simp only [List.getElem?_toArray, List.getElem?_cons_zero]; rfl)
              case hyz2 => first | (refine Or.inr ⟨rfl, ?_⟩; rfl) | (refine Or.inl ⟨rfl, ?_⟩; intro w hSw; (try dsimp only at hSw); go_simp; done) | (refine Or.inl ⟨rfl, ?_⟩; intro w hSw; (try dsimp only at hSw); go_simp; with_reducible rfl)
              try simp only [Act.put, List.setIfInBounds_toArray, List.set_cons_zero, List.set_cons_succ]
              refine wpAnyH_take (i := 1) (oi := ?oiz3) (v := ?vz3) ?h1z3 (by kernel_rfl) (by kernel_rfl) (by kernel_rfl) (fun _ _ _ h => h) ?hyz3 (by assumption) ?_
              case h1z3 => (simp only [List.getElem?_toArray, List.getElem?_cons_succ, List.getElem?_cons_zero]; rfl)
              case hyz3 => first | (refine Or.inr ⟨rfl, ?_⟩; rfl) | (refine Or.inl ⟨rfl, ?_⟩; intro w hSw; (try dsimp only at hSw); go_simp; done) | (refine Or.inl ⟨rfl, ?_⟩; intro w hSw; (try dsimp only at hSw); go_simp; with_reducible rfl)
              try simp only [Act.put, List.setIfInBounds_toArray, List.set_cons_zero, List.set_cons_succ]
              refine wpAnyH_ready (rs := [2]) (by kernel_rfl) (by simp) ?_
              refine AllReadyH.cons (o := ?oiz1) ?h1z1 (fun K hK => ?_) ?morez1
              case h1z1 => (simp only [List.getElem?_toArray, List.getElem?_cons_succ, List.getElem?_cons_zero]; rfl)
              case morez1 => exact AllReadyH.nil
              go_simp
              go_at_call 30
              refine HRC.out.mono ?_
              rintro _ w5 ⟨rfl, hb5⟩
              have hd1 := nxt hd0 hb5 (Nat.le_refl _)
              have y0 := below_cell hb5 _ _ z0
              have y1 := below_cell hb5 _ _ z1
              have y2 := below_cell hb5 _ _ z2
              have y3 := below_cell hb5 _ _ z3
              have y4 := below_cell hb5 _ _ z4
              have y5 := below_cell hb5 _ _ z5
              clear hb5 hHeld
              refine hK.out _ _ ?_ (fun hHeld => ?_)
              · exact ⟨hd1, y0, y1, y2, y3, y4, y5⟩
              clear hK K
              try simp only [Act.put, List.setIfInBounds_toArray, List.set_cons_zero, List.set_cons_succ]
              refine wpAnyH_take (i := 3) (oi := ?oiz4) (v := ?vz4) ?h1z4 (by kernel_rfl) (by kernel_rfl) (by kernel_rfl) (fun _ _ _ h => h) ?hyz4 (by assumption) ?_
              case h1z4 => (simp only [List.getElem?_toArray, List.getElem?_cons_succ, List.getElem?_cons_zero]; rfl)
              case hyz4 => first | (refine Or.inr ⟨rfl, ?_⟩; rfl) | (refine Or.inl ⟨rfl, ?_⟩; intro w hSw; (try dsimp only at hSw); go_simp; done) | (refine Or.inl ⟨rfl, ?_⟩; intro w hSw; (try dsimp only at hSw); go_simp; with_reducible rfl)
              try simp only [Act.put, List.setIfInBounds_toArray, List.set_cons_zero, List.set_cons_succ]
              refine wpAnyH_take (i := 4) (oi := ?oiz5) (v := ?vz5) ?h1z5 (by kernel_rfl) (by kernel_rfl) (by kernel_rfl) (fun _ _ _ h => h) ?hyz5 (by assumption) ?_
              case h1z5 => (simp only [List.getElem?_toArray, List.getElem?_cons_succ, List.getElem?_cons_zero]; rfl)
              case hyz5 => first | (refine Or.inr ⟨rfl, ?_⟩; rfl) | (refine Or.inl ⟨rfl, ?_⟩; intro w hSw; (try dsimp only at hSw); go_simp; done) | (refine Or.inl ⟨rfl, ?_⟩; intro w hSw; (try dsimp only at hSw); go_simp; with_reducible rfl)
              try simp only [Act.put, List.setIfInBounds_toArray, List.set_cons_zero, List.set_cons_succ]
              refine wpAnyH_take (i := 5) (oi := ?oiz6) (v := ?vz6) ?h1z6 (by kernel_rfl) (by kernel_rfl) (by kernel_rfl) (fun _ _ _ h => h) ?hyz6 (by assumption) ?_
              case h1z6 => (simp only [List.getElem?_toArray, List.getElem?_cons_succ, List.getElem?_cons_zero]; rfl)
              case hyz6 => first | (refine Or.inr ⟨rfl, ?_⟩; rfl) | (refine Or.inl ⟨rfl, ?_⟩; intro w hSw; (try dsimp only at hSw); go_simp; done) | (refine Or.inl ⟨rfl, ?_⟩; intro w hSw; (try dsimp only at hSw); go_simp; with_reducible rfl)
              try simp only [Act.put, List.setIfInBounds_toArray, List.set_cons_zero, List.set_cons_succ]
              refine wpAnyH_take (i := 6) (oi := ?oiz7) (v := ?vz7) ?h1z7 (by kernel_rfl) (by kernel_rfl) (by kernel_rfl) (fun _ _ _ h => h) ?hyz7 (by assumption) ?_
              case h1z7 => (simp only [List.getElem?_toArray, List.getElem?_cons_succ, List.getElem?_cons_zero]; rfl)
              case hyz7 => first | (refine Or.inr ⟨rfl, ?_⟩; rfl) | (refine Or.inl ⟨rfl, ?_⟩; intro w hSw; (try dsimp only at hSw); go_simp; done) | (refine Or.inl ⟨rfl, ?_⟩; intro w hSw; (try dsimp only at hSw); go_simp; with_reducible rfl)
              try simp only [Act.put, List.setIfInBounds_toArray, List.set_cons_zero, List.set_cons_succ]
              refine wpAnyH_take (i := 7) (oi := ?oiz8) (v := ?vz8) ?h1z8 (by kernel_rfl) (by kernel_rfl) (by kernel_rfl) (fun _ _ _ h => h) ?hyz8 (by assumption) ?_
              case h1z8 => (simp only [List.getElem?_toArray, List.getElem?_cons_succ, List.getElem?_cons_zero]; rfl)
              case hyz8 => first | (refine Or.inr ⟨rfl, ?_⟩; rfl) | (refine Or.inl ⟨rfl, ?_⟩; intro w hSw; (try dsimp only at hSw); go_simp; done) | (refine Or.inl ⟨rfl, ?_⟩; intro w hSw; (try dsimp only at hSw); go_simp; with_reducible rfl)
              try simp only [Act.put, List.setIfInBounds_toArray, List.set_cons_zero, List.set_cons_succ]
              refine wpAnyH_take (i := 8) (oi := ?oiz9) (v := ?vz9) ?h1z9 (by kernel_rfl) (by kernel_rfl) (by kernel_rfl) (fun _ _ _ h => h) ?hyz9 (by assumption) ?_
              case h1z9 => (simp only [List.getElem?_toArray, List.getElem?_cons_succ, List.getElem?_cons_zero]; rfl)
              case hyz9 => first | (refine Or.inr ⟨rfl, ?_⟩; rfl) | (refine Or.inl ⟨rfl, ?_⟩; intro w hSw; (try dsimp only at hSw); go_simp; done) | (refine Or.inl ⟨rfl, ?_⟩; intro w hSw; (try dsimp only at hSw); go_simp; with_reducible rfl)
              try simp only [Act.put, List.setIfInBounds_toArray, List.set_cons_zero, List.set_cons_succ]
              refine wpAnyH_take (i := 9) (oi := ?oiz10) (v := ?vz10) ?h1z10 (by kernel_rfl) (by kernel_rfl) (by kernel_rfl) (fun _ _ _ h => h) ?hyz10 (by assumption) ?_
              case h1z10 => (simp only [List.getElem?_toArray, List.getElem?_cons_succ, List.getElem?_cons_zero]; rfl)
              case hyz10 => first | (refine Or.inr ⟨rfl, ?_⟩; rfl) | (refine Or.inl ⟨rfl, ?_⟩; intro w hSw; (try dsimp only at hSw); go_simp; done) | (refine Or.inl ⟨rfl, ?_⟩; intro w hSw; (try dsimp only at hSw); go_simp; with_reducible rfl)
              try simp only [Act.put, List.setIfInBounds_toArray, List.set_cons_zero, List.set_cons_succ]
              refine wpAnyH_take (i := 10) (oi := ?oiz11) (v := ?vz11) ?h1z11 (by kernel_rfl) (by kernel_rfl) (by kernel_rfl) (fun _ _ _ h => h) ?hyz11 (by assumption) ?_
              case h1z11 => (simp only [List.getElem?_toArray, List.getElem?_cons_succ, List.getElem?_cons_zero]; rfl)
              case hyz11 => first | (refine Or.inr ⟨rfl, ?_⟩; rfl) | (refine Or.inl ⟨rfl, ?_⟩; intro w hSw; (try dsimp only at hSw); go_simp; done) | (refine Or.inl ⟨rfl, ?_⟩; intro w hSw; (try dsimp only at hSw); go_simp; with_reducible rfl)
              try simp only [Act.put, List.setIfInBounds_toArray, List.set_cons_zero, List.set_cons_succ]
              refine wpAnyH_take (i := 11) (oi := ?oiz12) (v := ?vz12) ?h1z12 (by kernel_rfl) (by kernel_rfl) (by kernel_rfl) (fun _ _ _ h => h) ?hyz12 (by assumption) ?_
              case h1z12 => (simp only [List.getElem?_toArray, List.getElem?_cons_succ, List.getElem?_cons_zero]; rfl)
              case hyz12 => first | (refine Or.inr ⟨rfl, ?_⟩; rfl) | (refine Or.inl ⟨rfl, ?_⟩; intro w hSw; (try dsimp only at hSw); go_simp; done) | (refine Or.inl ⟨rfl, ?_⟩; intro w hSw; (try dsimp only at hSw); go_simp; with_reducible rfl)
              try simp only [Act.put, List.setIfInBounds_toArray, List.set_cons_zero, List.set_cons_succ]
              refine wpAnyH_take (i := 12) (oi := ?oiz13) (v := ?vz13) ?h1z13 (by kernel_rfl) (by kernel_rfl) (by kernel_rfl) (fun _ _ _ h => h) ?hyz13 (by assumption) ?_
              case h1z13 => (simp only [List.getElem?_toArray, List.getElem?_cons_succ, List.getElem?_cons_zero]; rfl)
              case hyz13 => first | (refine Or.inr ⟨rfl, ?_⟩; rfl) | (refine Or.inl ⟨rfl, ?_⟩; intro w hSw; (try dsimp only at hSw); go_simp; done) | (refine Or.inl ⟨rfl, ?_⟩; intro w hSw; (try dsimp only at hSw); go_simp; with_reducible rfl)
              try simp only [Act.put, List.setIfInBounds_toArray, List.set_cons_zero, List.set_cons_succ]
              refine wpAnyH_take (i := 13) (oi := ?oiz14) (v := ?vz14) ?h1z14 (by kernel_rfl) (by kernel_rfl) (by kernel_rfl) (fun _ _ _ h => h) ?hyz14 (by assumption) ?_
              case h1z14 => (simp only [List.getElem?_toArray, List.getElem?_cons_succ, List.getElem?_cons_zero]; rfl)
              case hyz14 => first | (refine Or.inr ⟨rfl, ?_⟩; rfl) | (refine Or.inl ⟨rfl, ?_⟩; intro w hSw; (try dsimp only at hSw); go_simp; done) | (refine Or.inl ⟨rfl, ?_⟩; intro w hSw; (try dsimp only at hSw); go_simp; with_reducible rfl)
              try simp only [Act.put, List.setIfInBounds_toArray, List.set_cons_zero, List.set_cons_succ]
              refine wpAnyH_take (i := 14) (oi := ?oiz15) (v := ?vz15) ?h1z15 (by kernel_rfl) (by kernel_rfl) (by kernel_rfl) (fun _ _ _ h => h) ?hyz15 (by assumption) ?_
              case h1z15 => (simp only [List.getElem?_toArray, List.getElem?_cons_succ, List.getElem?_cons_zero]; rfl)
              case hyz15 => first | (refine Or.inr ⟨rfl, ?_⟩; rfl) | (refine Or.inl ⟨rfl, ?_⟩; intro w hSw; (try dsimp only at hSw); go_simp; done) | (refine Or.inl ⟨rfl, ?_⟩; intro w hSw; (try dsimp only at hSw); go_simp; with_reducible rfl)
              try simp only [Act.put, List.setIfInBounds_toArray, List.set_cons_zero, List.set_cons_succ]
              refine wpAnyH_take (i := 15) (oi := ?oiz16) (v := ?vz16) ?h1z16 (by kernel_rfl) (by kernel_rfl) (by kernel_rfl) (fun _ _ _ h => h) ?hyz16 (by assumption) ?_
              case h1z16 => (simp only [List.getElem?_toArray, List.getElem?_cons_succ, List.getElem?_cons_zero]; rfl)
              case hyz16 => first | (refine Or.inr ⟨rfl, ?_⟩; rfl) | (refine Or.inl ⟨rfl, ?_⟩; intro w hSw; (try dsimp only at hSw); go_simp; done) | (refine Or.inl ⟨rfl, ?_⟩; intro w hSw; (try dsimp only at hSw); go_simp; with_reducible rfl)
              try simp only [Act.put, List.setIfInBounds_toArray, List.set_cons_zero, List.set_cons_succ]
              refine wpAnyH_take (i := 16) (oi := ?oiz17) (v := ?vz17) ?h1z17 (by kernel_rfl) (by kernel_rfl) (by kernel_rfl) (fun _ _ _ h => h) ?hyz17 (by assumption) ?_
              case h1z17 => (simp only [List.getElem?_toArray, List.getElem?_cons_succ, List.getElem?_cons_zero]; rfl)
              case hyz17 => first | (refine Or.inr ⟨rfl, ?_⟩; rfl) | (refine Or.inl ⟨rfl, ?_⟩; intro w hSw; (try dsimp only at hSw); go_simp; done) | (refine Or.inl ⟨rfl, ?_⟩; intro w hSw; (try dsimp only at hSw); go_simp; with_reducible rfl)
              try simp only [Act.put, List.setIfInBounds_toArray, List.set_cons_zero, List.set_cons_succ]
              refine wpAnyH_take (i := 17) (oi := ?oiz18) (v := ?vz18) ?h1z18 (by kernel_rfl) (by kernel_rfl) (by kernel_rfl) (fun _ _ _ h => h) ?hyz18 (by assumption) ?_
              case h1z18 => (simp only [List.getElem?_toArray, List.getElem?_cons_succ, List.getElem?_cons_zero]; rfl)
              case hyz18 => first | (refine Or.inr ⟨rfl, ?_⟩; rfl) | (refine Or.inl ⟨rfl, ?_⟩; intro w hSw; (try dsimp only at hSw); go_simp; done) | (refine Or.inl ⟨rfl, ?_⟩; intro w hSw; (try dsimp only at hSw); go_simp; with_reducible rfl)
              try simp only [Act.put, List.setIfInBounds_toArray, List.set_cons_zero, List.set_cons_succ]
              refine wpAnyH_take (i := 18) (oi := ?oiz19) (v := ?vz19) ?h1z19 (by kernel_rfl) (by kernel_rfl) (by kernel_rfl) (fun _ _ _ h => h) ?hyz19 (by assumption) ?_
              case h1z19 => (simp only [List.getElem?_toArray, List.getElem?_cons_succ, List.getElem?_cons_zero]; rfl)
              case hyz19 => first | (refine Or.inr ⟨rfl, ?_⟩; rfl) | (refine Or.inl ⟨rfl, ?_⟩; intro w hSw; (try dsimp only at hSw); go_simp; done) | (refine Or.inl ⟨rfl, ?_⟩; intro w hSw; (try dsimp only at hSw); go_simp; with_reducible rfl)
              try simp only [Act.put, List.setIfInBounds_toArray, List.set_cons_zero, List.set_cons_succ]
              refine wpAnyH_take (i := 19) (oi := ?oiz20) (v := ?vz20) ?h1z20 (by kernel_rfl) (by kernel_rfl) (by kernel_rfl) (fun _ _ _ h => h) ?hyz20 (by assumption) ?_
              case h1z20 => (simp only [List.getElem?_toArray, List.getElem?_cons_succ, List.getElem?_cons_zero]; rfl)
              case hyz20 => first | (refine Or.inr ⟨rfl, ?_⟩; rfl) | (refine Or.inl ⟨rfl, ?_⟩; intro w hSw; (try dsimp only at hSw); go_simp; done) | (refine Or.inl ⟨rfl, ?_⟩; intro w hSw; (try dsimp only at hSw); go_simp; with_reducible rfl)
              try simp only [Act.put, List.setIfInBounds_toArray, List.set_cons_zero, List.set_cons_succ]
              refine wpAnyH_take (i := 20) (oi := ?oiz21) (v := ?vz21) ?h1z21 (by kernel_rfl) (by kernel_rfl) (by kernel_rfl) (fun _ _ _ h => h) ?hyz21 (by assumption) ?_
              case h1z21 => (simp only [List.getElem?_toArray, List.getElem?_cons_succ, List.getElem?_cons_zero]; rfl)
              case hyz21 => first | (refine Or.inr ⟨rfl, ?_⟩; rfl) | (refine Or.inl ⟨rfl, ?_⟩; intro w hSw; (try dsimp only at hSw); go_simp; done) | (refine Or.inl ⟨rfl, ?_⟩; intro w hSw; (try dsimp only at hSw); go_simp; with_reducible rfl)
              try simp only [Act.put, List.setIfInBounds_toArray, List.set_cons_zero, List.set_cons_succ]
              refine wpAnyH_take (i := 21) (oi := ?oiz22) (v := ?vz22) ?h1z22 (by kernel_rfl) (by kernel_rfl) (by kernel_rfl) (fun _ _ _ h => h) ?hyz22 (by assumption) ?_
              case h1z22 => (simp only [List.getElem?_toArray, List.getElem?_cons_succ, List.getElem?_cons_zero]; rfl)
              case hyz22 => first | (refine Or.inr ⟨rfl, ?_⟩; rfl) | (refine Or.inl ⟨rfl, ?_⟩; intro w hSw; (try dsimp only at hSw); go_simp; done) | (refine Or.inl ⟨rfl, ?_⟩; intro w hSw; (try dsimp only at hSw); go_simp; with_reducible rfl)
              try simp only [Act.put, List.setIfInBounds_toArray, List.set_cons_zero, List.set_cons_succ]
              refine wpAnyH_take (i := 22) (oi := ?oiz23) (v := ?vz23) ?h1z23 (by kernel_rfl) (by kernel_rfl) (by kernel_rfl) (fun _ _ _ h => h) ?hyz23 (by assumption) ?_
              case h1z23 => (simp only [List.getElem?_toArray, List.getElem?_cons_succ, List.getElem?_cons_zero]; rfl)
              case hyz23 => first | (refine Or.inr ⟨rfl, ?_⟩; rfl) | (refine Or.inl ⟨rfl, ?_⟩; intro w hSw; (try dsimp only at hSw); go_simp; done) | (refine Or.inl ⟨rfl, ?_⟩; intro w hSw; (try dsimp only at hSw); go_simp; with_reducible rfl)
              try simp only [Act.put, List.setIfInBounds_toArray, List.set_cons_zero, List.set_cons_succ]
              refine wpAnyH_take (i := 23) (oi := ?oiz24) (v := ?vz24) ?h1z24 (by kernel_rfl) (by kernel_rfl) (by kernel_rfl) (fun _ _ _ h => h) ?hyz24 (by assumption) ?_
              case h1z24 => (simp only [List.getElem?_toArray, List.getElem?_cons_succ, List.getElem?_cons_zero]; rfl)
              case hyz24 => first | (refine Or.inr ⟨rfl, ?_⟩; rfl) | (refine Or.inl ⟨rfl, ?_⟩; intro w hSw; (try dsimp only at hSw); go_simp; done) | (refine Or.inl ⟨rfl, ?_⟩; intro w hSw; (try dsimp only at hSw); go_simp; with_reducible rfl)
              try simp only [Act.put, List.setIfInBounds_toArray, List.set_cons_zero, List.set_cons_succ]
              refine wpAnyH_take (i := 24) (oi := ?oiz25) (v := ?vz25) ?h1z25 (by kernel_rfl) (by kernel_rfl) (by kernel_rfl) (fun _ _ _ h => h) ?hyz25 (by assumption) ?_
              case h1z25 => (simp only [List.getElem?_toArray, List.getElem?_cons_succ, List.getElem?_cons_zero]; rfl)
              case hyz25 => first | (refine Or.inr ⟨rfl, ?_⟩; rfl) | (refine Or.inl ⟨rfl, ?_⟩; intro w hSw; (try dsimp only at hSw); go_simp; done) | (refine Or.inl ⟨rfl, ?_⟩; intro w hSw; (try dsimp only at hSw); go_simp; with_reducible rfl)
              try simp only [Act.put, List.setIfInBounds_toArray, List.set_cons_zero, List.set_cons_succ]
              refine wpAnyH_take (i := 25) (oi := ?oiz26) (v := ?vz26) ?h1z26 (by kernel_rfl) (by kernel_rfl) (by kernel_rfl) (fun _ _ _ h => h) ?hyz26 (by assumption) ?_
              case h1z26 => (simp only [List.getElem?_toArray, List.getElem?_cons_succ, List.getElem?_cons_zero]; rfl)
              case hyz26 => first | (refine Or.inr ⟨rfl, ?_⟩; rfl) | (refine Or.inl ⟨rfl, ?_⟩; intro w hSw; (try dsimp only at hSw); go_simp; done) | (refine Or.inl ⟨rfl, ?_⟩; intro w hSw; (try dsimp only at hSw); go_simp; with_reducible rfl)
              try simp only [Act.put, List.setIfInBounds_toArray, List.set_cons_zero, List.set_cons_succ]
              refine wpAnyH_take (i := 26) (oi := ?oiz27) (v := ?vz27) ?h1z27 (by kernel_rfl) (by kernel_rfl) (by kernel_rfl) (fun _ _ _ h => h) ?hyz27 (by assumption) ?_
              case h1z27 => (simp only [List.getElem?_toArray, List.getElem?_cons_succ, List.getElem?_cons_zero]; rfl)
              case hyz27 => first | (refine Or.inr ⟨rfl, ?_⟩; rfl) | (refine Or.inl ⟨rfl, ?_⟩; intro w hSw; (try dsimp only at hSw); go_simp; done) | (refine Or.inl ⟨rfl, ?_⟩; intro w hSw; (try dsimp only at hSw); go_simp; with_reducible rfl)
              try simp only [Act.put, List.setIfInBounds_toArray, List.set_cons_zero, List.set_cons_succ]
              refine wpAnyH_done (by kernel_rfl) ?_ _
              refine NoPanic.normal ?_
              clear hHeld
              all_goals
                have HBB := Lib.hid (HBW.out.trans (hd1.mono HBW.out.size))
                clear z0 z1 z2 z3 z4 z5 y0 y1 y2 y3 y4 y5 hd0 hd1
                go_wp2_with fail
                go_ret
                exact ⟨by rw [(HN.out).1]; rfl, by rw [(HN.out).2]; exact HSA2.out _ HBB.out⟩
            · have HK2 := Lib.hid k2
              have f1 : decide (id < x.id) = false := decide_eq_false k2
              clear k2 HNI
              have hpos : (i = 0) ∨ (0 < i ∧ ∃ (j1 : Nat) (pk : ByteArray), j1 + 1 = i ∧ w2.cell? ⟨b, o + j1 * 4, none⟩ = some (.string pk) ∧ Kl.lt pk.toList x.key.toList = false ∧ (Tb.apply t ⟨5, id, size, key, ss, os, ds⟩).isSome = false ∧ Tb.stepT t ⟨5, id, size, key, ss, os, ds⟩ = t) ∨
                  (0 < i ∧ ∃ (j1 : Nat) (pk : ByteArray), j1 + 1 = i ∧ w2.cell? ⟨b, o + j1 * 4, none⟩ = some (.string pk) ∧ Kl.lt pk.toList x.key.toList = true ∧ ∃ hj : i - 1 < os.length, Kl.lt (Tb.keyOf os[i - 1]) (Tb.keyOf x) = true) := by
                by_cases z : i = 0
                · exact .inl z
                · obtain ⟨hj, a, no⟩ := HPREV.out (by omega)
                  cases hl : Kl.lt (os[i - 1]'hj).key.toList x.key.toList
                  · exact .inr (.inl ⟨by omega, i - 1, _, by omega, a, hl, no hl⟩)
                  · exact .inr (.inr ⟨by omega, i - 1, _, by omega, a, hl, hj, hl⟩)
              clear HPREV
              rcases hpos with hi0 | ⟨hi0, j1, pk, hj1, a6, hlk, HN⟩ | ⟨hi0, j1, pk, hj1, a6, hlk, hj, hl2⟩
              · have HLOW := Lib.hid (show i = 0 ∨ ∃ hj : i - 1 < os.length, Kl.lt (Tb.keyOf os[i - 1]) (Tb.keyOf x) = true from .inl hi0)
                have f2 : decide (0 < i) = false := decide_eq_false (by omega)
                have f3 : decide ((0 : Int) < (i : Int)) = false := decide_eq_false (by omega)
                clear hi0
                refine wp_region_noPanic ?_
                refine wp_region_held_drew (S := (fun w' => Below wb.heap.size wb w' ∧ w'.cell? ⟨g5, 0, none⟩ = some (.string x.key) ∧ w'.cell? ⟨g5, 1, none⟩ = some (.int .i64 x.id) ∧ w'.cell? ⟨g5, 2, none⟩ = some (.int .i64 x.size) ∧ w'.cell? ⟨g5, 3, none⟩ = some (.slice A' M C') ∧ w'.cell? ⟨B, 1, none⟩ = some (.int .i64 id) ∧ w'.cell? ⟨B, 5, none⟩ = some (.slice (some ⟨b, o, none⟩) NO Co) )) (by kernel_rfl) ?_ (fun hHeld => ?_)
                · exact ⟨hd0, z0, z1, z2, z3, z4, z5⟩
                refine wpAnyH_take (i := 0) (oi := ?oiz29) (v := ?vz29) ?h1z29 (by kernel_rfl) (by kernel_rfl) (by kernel_rfl) (fun _ _ _ h => h) ?hyz29 (by assumption) ?_
                case h1z29 => (simp only [List.getElem?_toArray, List.getElem?_cons_zero]; rfl)
                case hyz29 => first | (refine Or.inr ⟨rfl, ?_⟩; rfl) | (refine Or.inl ⟨rfl, ?_⟩; intro w hSw; (try dsimp only at hSw); go_simp; done) | (refine Or.inl ⟨rfl, ?_⟩; intro w hSw; (try dsimp only at hSw); go_simp; with_reducible rfl)
                try simp only [Act.put, List.setIfInBounds_toArray, List.set_cons_zero, List.set_cons_succ]
                refine wpAnyH_take (i := 1) (oi := ?oiz30) (v := ?vz30) ?h1z30 (by kernel_rfl) (by kernel_rfl) (by kernel_rfl) (fun _ _ _ h => h) ?hyz30 (by assumption) ?_
                case h1z30 => (simp only [List.getElem?_toArray, List.getElem?_cons_succ, List.getElem?_cons_zero]; rfl)
                case hyz30 => first | (refine Or.inr ⟨rfl, ?_⟩; rfl) | (refine Or.inl ⟨rfl, ?_⟩; intro w hSw; (try dsimp only at hSw); go_simp; done) | (refine Or.inl ⟨rfl, ?_⟩; intro w hSw; (try dsimp only at hSw); go_simp; with_reducible rfl)
                try simp only [Act.put, List.setIfInBounds_toArray, List.set_cons_zero, List.set_cons_succ]
                refine wpAnyH_ready (rs := [2]) (by kernel_rfl) (by simp) ?_
                refine AllReadyH.cons (o := ?oiz28) ?h1z28 (fun K hK => ?_) ?morez28
                case h1z28 => (simp only [List.getElem?_toArray, List.getElem?_cons_succ, List.getElem?_cons_zero]; rfl)
                case morez28 => exact AllReadyH.nil
                go_simp
                go_at_call 30
                refine HRC.out.mono ?_
                rintro _ w5 ⟨rfl, hb5⟩
                have hd1 := nxt hd0 hb5 (Nat.le_refl _)
                have y0 := below_cell hb5 _ _ z0
                have y1 := below_cell hb5 _ _ z1
                have y2 := below_cell hb5 _ _ z2
                have y3 := below_cell hb5 _ _ z3
                have y4 := below_cell hb5 _ _ z4
                have y5 := below_cell hb5 _ _ z5
                clear hb5 hHeld
                refine hK.out _ _ ?_ (fun hHeld => ?_)
                · exact ⟨hd1, y0, y1, y2, y3, y4, y5⟩
                clear hK K
                try simp only [Act.put, List.setIfInBounds_toArray, List.set_cons_zero, List.set_cons_succ]
                refine wpAnyH_take (i := 3) (oi := ?oiz31) (v := ?vz31) ?h1z31 (by kernel_rfl) (by kernel_rfl) (by kernel_rfl) (fun _ _ _ h => h) ?hyz31 (by assumption) ?_
                case h1z31 => (simp only [List.getElem?_toArray, List.getElem?_cons_succ, List.getElem?_cons_zero]; rfl)
                case hyz31 => first | (refine Or.inr ⟨rfl, ?_⟩; rfl) | (refine Or.inl ⟨rfl, ?_⟩; intro w hSw; (try dsimp only at hSw); go_simp; done) | (refine Or.inl ⟨rfl, ?_⟩; intro w hSw; (try dsimp only at hSw); go_simp; with_reducible rfl)
                try simp only [Act.put, List.setIfInBounds_toArray, List.set_cons_zero, List.set_cons_succ]
                refine wpAnyH_take (i := 4) (oi := ?oiz32) (v := ?vz32) ?h1z32 (by kernel_rfl) (by kernel_rfl) (by kernel_rfl) (fun _ _ _ h => h) ?hyz32 (by assumption) ?_
                case h1z32 => (simp only [List.getElem?_toArray, List.getElem?_cons_succ, List.getElem?_cons_zero]; rfl)
                case hyz32 => first | (refine Or.inr ⟨rfl, ?_⟩; rfl) | (refine Or.inl ⟨rfl, ?_⟩; intro w hSw; (try dsimp only at hSw); go_simp; done) | (refine Or.inl ⟨rfl, ?_⟩; intro w hSw; (try dsimp only at hSw); go_simp; with_reducible rfl)
                try simp only [Act.put, List.setIfInBounds_toArray, List.set_cons_zero, List.set_cons_succ]
                refine wpAnyH_take (i := 5) (oi := ?oiz33) (v := ?vz33) ?h1z33 (by kernel_rfl) (by kernel_rfl) (by kernel_rfl) (fun _ _ _ h => h) ?hyz33 (by assumption) ?_
                case h1z33 => (simp only [List.getElem?_toArray, List.getElem?_cons_succ, List.getElem?_cons_zero]; rfl)
                case hyz33 => first | (refine Or.inr ⟨rfl, ?_⟩; rfl) | (refine Or.inl ⟨rfl, ?_⟩; intro w hSw; (try dsimp only at hSw); go_simp; done) | (refine Or.inl ⟨rfl, ?_⟩; intro w hSw; (try dsimp only at hSw); go_simp; with_reducible rfl)
                try simp only [Act.put, List.setIfInBounds_toArray, List.set_cons_zero, List.set_cons_succ]
                refine wpAnyH_take (i := 6) (oi := ?oiz34) (v := ?vz34) ?h1z34 (by kernel_rfl) (by kernel_rfl) (by kernel_rfl) (fun _ _ _ h => h) ?hyz34 (by assumption) ?_
                case h1z34 => (simp only [List.getElem?_toArray, List.getElem?_cons_succ, List.getElem?_cons_zero]; rfl)
                case hyz34 => first | (refine Or.inr ⟨rfl, ?_⟩; rfl) | (refine Or.inl ⟨rfl, ?_⟩; intro w hSw; (try dsimp only at hSw); go_simp; done) | (refine Or.inl ⟨rfl, ?_⟩; intro w hSw; (try dsimp only at hSw); go_simp; with_reducible rfl)
                try simp only [Act.put, List.setIfInBounds_toArray, List.set_cons_zero, List.set_cons_succ]
                refine wpAnyH_take (i := 7) (oi := ?oiz35) (v := ?vz35) ?h1z35 (by kernel_rfl) (by kernel_rfl) (by kernel_rfl) (fun _ _ _ h => h) ?hyz35 (by assumption) ?_
                case h1z35 => (simp only [List.getElem?_toArray, List.getElem?_cons_succ, List.getElem?_cons_zero]; rfl)
                case hyz35 => first | (refine Or.inr ⟨rfl, ?_⟩; rfl) | (refine Or.inl ⟨rfl, ?_⟩; intro w hSw; (try dsimp only at hSw); go_simp; done) | (refine Or.inl ⟨rfl, ?_⟩; intro w hSw; (try dsimp only at hSw); go_simp; with_reducible rfl)
                try simp only [Act.put, List.setIfInBounds_toArray, List.set_cons_zero, List.set_cons_succ]
                refine wpAnyH_take (i := 8) (oi := ?oiz36) (v := ?vz36) ?h1z36 (by kernel_rfl) (by kernel_rfl) (by kernel_rfl) (fun _ _ _ h => h) ?hyz36 (by assumption) ?_
                case h1z36 => (simp only [List.getElem?_toArray, List.getElem?_cons_succ, List.getElem?_cons_zero]; rfl)
                case hyz36 => first | (refine Or.inr ⟨rfl, ?_⟩; rfl) | (refine Or.inl ⟨rfl, ?_⟩; intro w hSw; (try dsimp only at hSw); go_simp; done) | (refine Or.inl ⟨rfl, ?_⟩; intro w hSw; (try dsimp only at hSw); go_simp; with_reducible rfl)
                try simp only [Act.put, List.setIfInBounds_toArray, List.set_cons_zero, List.set_cons_succ]
                refine wpAnyH_take (i := 9) (oi := ?oiz37) (v := ?vz37) ?h1z37 (by kernel_rfl) (by kernel_rfl) (by kernel_rfl) (fun _ _ _ h => h) ?hyz37 (by assumption) ?_
                case h1z37 => (simp only [List.getElem?_toArray, List.getElem?_cons_succ, List.getElem?_cons_zero]; rfl)
                case hyz37 => first | (refine Or.inr ⟨rfl, ?_⟩; rfl) | (refine Or.inl ⟨rfl, ?_⟩; intro w hSw; (try dsimp only at hSw); go_simp; done) | (refine Or.inl ⟨rfl, ?_⟩; intro w hSw; (try dsimp only at hSw); go_simp; with_reducible rfl)
                try simp only [Act.put, List.setIfInBounds_toArray, List.set_cons_zero, List.set_cons_succ]
                refine wpAnyH_take (i := 10) (oi := ?oiz38) (v := ?vz38) ?h1z38 (by kernel_rfl) (by kernel_rfl) (by kernel_rfl) (fun _ _ _ h => h) ?hyz38 (by assumption) ?_
                case h1z38 => (simp only [List.getElem?_toArray, List.getElem?_cons_succ, List.getElem?_cons_zero]; rfl)
                case hyz38 => first | (refine Or.inr ⟨rfl, ?_⟩; rfl) | (refine Or.inl ⟨rfl, ?_⟩; intro w hSw; (try dsimp only at hSw); go_simp; done) | (refine Or.inl ⟨rfl, ?_⟩; intro w hSw; (try dsimp only at hSw); go_simp; with_reducible rfl)
                try simp only [Act.put, List.setIfInBounds_toArray, List.set_cons_zero, List.set_cons_succ]
                refine wpAnyH_take (i := 11) (oi := ?oiz39) (v := ?vz39) ?h1z39 (by kernel_rfl) (by kernel_rfl) (by kernel_rfl) (fun _ _ _ h => h) ?hyz39 (by assumption) ?_
                case h1z39 => (simp only [List.getElem?_toArray, List.getElem?_cons_succ, List.getElem?_cons_zero]; rfl)
                case hyz39 => first | (refine Or.inr ⟨rfl, ?_⟩; rfl) | (refine Or.inl ⟨rfl, ?_⟩; intro w hSw; (try dsimp only at hSw); go_simp; done) | (refine Or.inl ⟨rfl, ?_⟩; intro w hSw; (try dsimp only at hSw); go_simp; with_reducible rfl)
                try simp only [Act.put, List.setIfInBounds_toArray, List.set_cons_zero, List.set_cons_succ]
                refine wpAnyH_take (i := 12) (oi := ?oiz40) (v := ?vz40) ?h1z40 (by kernel_rfl) (by kernel_rfl) (by kernel_rfl) (fun _ _ _ h => h) ?hyz40 (by assumption) ?_
                case h1z40 => (simp only [List.getElem?_toArray, List.getElem?_cons_succ, List.getElem?_cons_zero]; rfl)
                case hyz40 => first | (refine Or.inr ⟨rfl, ?_⟩; rfl) | (refine Or.inl ⟨rfl, ?_⟩; intro w hSw; (try dsimp only at hSw); go_simp; done) | (refine Or.inl ⟨rfl, ?_⟩; intro w hSw; (try dsimp only at hSw); go_simp; with_reducible rfl)
                try simp only [Act.put, List.setIfInBounds_toArray, List.set_cons_zero, List.set_cons_succ]
                refine wpAnyH_take (i := 13) (oi := ?oiz41) (v := ?vz41) ?h1z41 (by kernel_rfl) (by kernel_rfl) (by kernel_rfl) (fun _ _ _ h => h) ?hyz41 (by assumption) ?_
                case h1z41 => (simp only [List.getElem?_toArray, List.getElem?_cons_succ, List.getElem?_cons_zero]; rfl)
                case hyz41 => first | (refine Or.inr ⟨rfl, ?_⟩; rfl) | (refine Or.inl ⟨rfl, ?_⟩; intro w hSw; (try dsimp only at hSw); go_simp; done) | (refine Or.inl ⟨rfl, ?_⟩; intro w hSw; (try dsimp only at hSw); go_simp; with_reducible rfl)
                try simp only [Act.put, List.setIfInBounds_toArray, List.set_cons_zero, List.set_cons_succ]
                refine wpAnyH_take (i := 14) (oi := ?oiz42) (v := ?vz42) ?h1z42 (by kernel_rfl) (by kernel_rfl) (by kernel_rfl) (fun _ _ _ h => h) ?hyz42 (by assumption) ?_
                case h1z42 => (simp only [List.getElem?_toArray, List.getElem?_cons_succ, List.getElem?_cons_zero]; rfl)
                case hyz42 => first | (refine Or.inr ⟨rfl, ?_⟩; rfl) | (refine Or.inl ⟨rfl, ?_⟩; intro w hSw; (try dsimp only at hSw); go_simp; done) | (refine Or.inl ⟨rfl, ?_⟩; intro w hSw; (try dsimp only at hSw); go_simp; with_reducible rfl)
                try simp only [Act.put, List.setIfInBounds_toArray, List.set_cons_zero, List.set_cons_succ]
                refine wpAnyH_take (i := 15) (oi := ?oiz43) (v := ?vz43) ?h1z43 (by kernel_rfl) (by kernel_rfl) (by kernel_rfl) (fun _ _ _ h => h) ?hyz43 (by assumption) ?_
                case h1z43 => (simp only [List.getElem?_toArray, List.getElem?_cons_succ, List.getElem?_cons_zero]; rfl)
                case hyz43 => first | (refine Or.inr ⟨rfl, ?_⟩; rfl) | (refine Or.inl ⟨rfl, ?_⟩; intro w hSw; (try dsimp only at hSw); go_simp; done) | (refine Or.inl ⟨rfl, ?_⟩; intro w hSw; (try dsimp only at hSw); go_simp; with_reducible rfl)
                try simp only [Act.put, List.setIfInBounds_toArray, List.set_cons_zero, List.set_cons_succ]
                refine wpAnyH_take (i := 16) (oi := ?oiz44) (v := ?vz44) ?h1z44 (by kernel_rfl) (by kernel_rfl) (by kernel_rfl) (fun _ _ _ h => h) ?hyz44 (by assumption) ?_
                case h1z44 => (simp only [List.getElem?_toArray, List.getElem?_cons_succ, List.getElem?_cons_zero]; rfl)
                case hyz44 => first | (refine Or.inr ⟨rfl, ?_⟩; rfl) | (refine Or.inl ⟨rfl, ?_⟩; intro w hSw; (try dsimp only at hSw); go_simp; done) | (refine Or.inl ⟨rfl, ?_⟩; intro w hSw; (try dsimp only at hSw); go_simp; with_reducible rfl)
                try simp only [Act.put, List.setIfInBounds_toArray, List.set_cons_zero, List.set_cons_succ]
                refine wpAnyH_take (i := 17) (oi := ?oiz45) (v := ?vz45) ?h1z45 (by kernel_rfl) (by kernel_rfl) (by kernel_rfl) (fun _ _ _ h => h) ?hyz45 (by assumption) ?_
                case h1z45 => (simp only [List.getElem?_toArray, List.getElem?_cons_succ, List.getElem?_cons_zero]; rfl)
                case hyz45 => first | (refine Or.inr ⟨rfl, ?_⟩; rfl) | (refine Or.inl ⟨rfl, ?_⟩; intro w hSw; (try dsimp only at hSw); go_simp; done) | (refine Or.inl ⟨rfl, ?_⟩; intro w hSw; (try dsimp only at hSw); go_simp; with_reducible rfl)
                try simp only [Act.put, List.setIfInBounds_toArray, List.set_cons_zero, List.set_cons_succ]
                refine wpAnyH_take (i := 18) (oi := ?oiz46) (v := ?vz46) ?h1z46 (by kernel_rfl) (by kernel_rfl) (by kernel_rfl) (fun _ _ _ h => h) ?hyz46 (by assumption) ?_
                case h1z46 => (simp only [List.getElem?_toArray, List.getElem?_cons_succ, List.getElem?_cons_zero]; rfl)
                case hyz46 => first | (refine Or.inr ⟨rfl, ?_⟩; rfl) | (refine Or.inl ⟨rfl, ?_⟩; intro w hSw; (try dsimp only at hSw); go_simp; done) | (refine Or.inl ⟨rfl, ?_⟩; intro w hSw; (try dsimp only at hSw); go_simp; with_reducible rfl)
                try simp only [Act.put, List.setIfInBounds_toArray, List.set_cons_zero, List.set_cons_succ]
                refine wpAnyH_take (i := 19) (oi := ?oiz47) (v := ?vz47) ?h1z47 (by kernel_rfl) (by kernel_rfl) (by kernel_rfl) (fun _ _ _ h => h) ?hyz47 (by assumption) ?_
                case h1z47 => (simp only [List.getElem?_toArray, List.getElem?_cons_succ, List.getElem?_cons_zero]; rfl)
                case hyz47 => first | (refine Or.inr ⟨rfl, ?_⟩; rfl) | (refine Or.inl ⟨rfl, ?_⟩; intro w hSw; (try dsimp only at hSw); go_simp; done) | (refine Or.inl ⟨rfl, ?_⟩; intro w hSw; (try dsimp only at hSw); go_simp; with_reducible rfl)
                try simp only [Act.put, List.setIfInBounds_toArray, List.set_cons_zero, List.set_cons_succ]
                refine wpAnyH_take (i := 20) (oi := ?oiz48) (v := ?vz48) ?h1z48 (by kernel_rfl) (by kernel_rfl) (by kernel_rfl) (fun _ _ _ h => h) ?hyz48 (by assumption) ?_
                case h1z48 => (simp only [List.getElem?_toArray, List.getElem?_cons_succ, List.getElem?_cons_zero]; rfl)
                case hyz48 => first | (refine Or.inr ⟨rfl, ?_⟩; rfl) | (refine Or.inl ⟨rfl, ?_⟩; intro w hSw; (try dsimp only at hSw); go_simp; done) | (refine Or.inl ⟨rfl, ?_⟩; intro w hSw; (try dsimp only at hSw); go_simp; with_reducible rfl)
                try simp only [Act.put, List.setIfInBounds_toArray, List.set_cons_zero, List.set_cons_succ]
                refine wpAnyH_take (i := 21) (oi := ?oiz49) (v := ?vz49) ?h1z49 (by kernel_rfl) (by kernel_rfl) (by kernel_rfl) (fun _ _ _ h => h) ?hyz49 (by assumption) ?_
                case h1z49 => (simp only [List.getElem?_toArray, List.getElem?_cons_succ, List.getElem?_cons_zero]; rfl)
                case hyz49 => first | (refine Or.inr ⟨rfl, ?_⟩; rfl) | (refine Or.inl ⟨rfl, ?_⟩; intro w hSw; (try dsimp only at hSw); go_simp; done) | (refine Or.inl ⟨rfl, ?_⟩; intro w hSw; (try dsimp only at hSw); go_simp; with_reducible rfl)
                try simp only [Act.put, List.setIfInBounds_toArray, List.set_cons_zero, List.set_cons_succ]
                refine wpAnyH_take (i := 22) (oi := ?oiz50) (v := ?vz50) ?h1z50 (by kernel_rfl) (by kernel_rfl) (by kernel_rfl) (fun _ _ _ h => h) ?hyz50 (by assumption) ?_
                case h1z50 => (simp only [List.getElem?_toArray, List.getElem?_cons_succ, List.getElem?_cons_zero]; rfl)
                case hyz50 => first | (refine Or.inr ⟨rfl, ?_⟩; rfl) | (refine Or.inl ⟨rfl, ?_⟩; intro w hSw; (try dsimp only at hSw); go_simp; done) | (refine Or.inl ⟨rfl, ?_⟩; intro w hSw; (try dsimp only at hSw); go_simp; with_reducible rfl)
                try simp only [Act.put, List.setIfInBounds_toArray, List.set_cons_zero, List.set_cons_succ]
                refine wpAnyH_take (i := 23) (oi := ?oiz51) (v := ?vz51) ?h1z51 (by kernel_rfl) (by kernel_rfl) (by kernel_rfl) (fun _ _ _ h => h) ?hyz51 (by assumption) ?_
                case h1z51 => (simp only [List.getElem?_toArray, List.getElem?_cons_succ, List.getElem?_cons_zero]; rfl)
                case hyz51 => first | (refine Or.inr ⟨rfl, ?_⟩; rfl) | (refine Or.inl ⟨rfl, ?_⟩; intro w hSw; (try dsimp only at hSw); go_simp; done) | (refine Or.inl ⟨rfl, ?_⟩; intro w hSw; (try dsimp only at hSw); go_simp; with_reducible rfl)
                try simp only [Act.put, List.setIfInBounds_toArray, List.set_cons_zero, List.set_cons_succ]
                refine wpAnyH_take (i := 24) (oi := ?oiz52) (v := ?vz52) ?h1z52 (by kernel_rfl) (by kernel_rfl) (by kernel_rfl) (fun _ _ _ h => h) ?hyz52 (by assumption) ?_
                case h1z52 => (simp only [List.getElem?_toArray, List.getElem?_cons_succ, List.getElem?_cons_zero]; rfl)
                case hyz52 => first | (refine Or.inr ⟨rfl, ?_⟩; rfl) | (refine Or.inl ⟨rfl, ?_⟩; intro w hSw; (try dsimp only at hSw); go_simp; done) | (refine Or.inl ⟨rfl, ?_⟩; intro w hSw; (try dsimp only at hSw); go_simp; with_reducible rfl)
                try simp only [Act.put, List.setIfInBounds_toArray, List.set_cons_zero, List.set_cons_succ]
                refine wpAnyH_take (i := 25) (oi := ?oiz53) (v := ?vz53) ?h1z53 (by kernel_rfl) (by kernel_rfl) (by kernel_rfl) (fun _ _ _ h => h) ?hyz53 (by assumption) ?_
                case h1z53 => (simp only [List.getElem?_toArray, List.getElem?_cons_succ, List.getElem?_cons_zero]; rfl)
                case hyz53 => first | (refine Or.inr ⟨rfl, ?_⟩; rfl) | (refine Or.inl ⟨rfl, ?_⟩; intro w hSw; (try dsimp only at hSw); go_simp; done) | (refine Or.inl ⟨rfl, ?_⟩; intro w hSw; (try dsimp only at hSw); go_simp; with_reducible rfl)
                try simp only [Act.put, List.setIfInBounds_toArray, List.set_cons_zero, List.set_cons_succ]
                refine wpAnyH_take (i := 26) (oi := ?oiz54) (v := ?vz54) ?h1z54 (by kernel_rfl) (by kernel_rfl) (by kernel_rfl) (fun _ _ _ h => h) ?hyz54 (by assumption) ?_
                case h1z54 => (simp only [List.getElem?_toArray, List.getElem?_cons_succ, List.getElem?_cons_zero]; rfl)
                case hyz54 => first | (refine Or.inr ⟨rfl, ?_⟩; rfl) | (refine Or.inl ⟨rfl, ?_⟩; intro w hSw; (try dsimp only at hSw); go_simp; done) | (refine Or.inl ⟨rfl, ?_⟩; intro w hSw; (try dsimp only at hSw); go_simp; with_reducible rfl)
                try simp only [Act.put, List.setIfInBounds_toArray, List.set_cons_zero, List.set_cons_succ]
                refine wpAnyH_done (by kernel_rfl) ?_ _
                refine NoPanic.normal ?_
                clear hHeld
                all_goals
                  clear f1 f2 f3 z0 z1 z2 z3 z4 z5 y0 y1 y2 y3 y4 y5 hd0
                  have HBD := Lib.hid hd1
                  obtain ⟨p0, p1, p2, p3, p4, p5⟩ := HP.out _ hd1
                  clear hd1
                  go_wp2_with fail
                  go_loopw [19] (fun c wy => ∃ k : Nat, k ≤ i ∧ c = .int .i64 k ∧ (∀ j (hj : j < os.length), j < k → ¬ os[j].id = x.id) ∧ ∃ n, wy = w5.drewN n) (fun c _ => i - (intOf c).toNat)
                  case atStart => exact ⟨0, Nat.zero_le _, rfl, fun _ _ q => absurd q (by omega), 0, rfl⟩
                  case round =>
                    obtain ⟨k, hk, rfl, hs, nn, rfl⟩ := hrel
                    have HS := Lib.hid hs
                    have HB6 := Lib.hid (show Below w2.heap.size w2 (w5.drewN nn) from (HBW.out.trans (HBD.out.mono HBW.out.size)).trans (Go.Mem.below_drewN _ _ _))
                    by_cases hlt2 : k < i
                    · have hkl : k < os.length := by have := HNO1.out; omega
                      have a9 := below_cell (HBW.out.trans (HBD.out.mono HBW.out.size)) _ _ (HIDS.out k hkl)
                      have HNT2 := Lib.hid (HNT.out k hkl hlt2)
                      have HNK := Lib.hid (show ¬ os[k].id = x.id → ∀ j (hj : j < os.length), j < k + 1 → ¬ os[j].id = x.id from fun q j hj hjk => by
                        by_cases e : j = k
                        · subst e; exact q
                        · exact hs j hj (by omega))
                      obtain ⟨y, hy⟩ : ∃ y, os[k].id = y := ⟨_, rfl⟩
                      rw [hy] at a9 HNT2 HNK
                      have q3 : (0 : Int) ≤ (k : Int) := by omega
                      have q4 : (k : Int) < (NO : Int) := by omega
                      clear hy hs hkl
                      by_cases hxy : y = x.id
                      · have HN := Lib.hid (HNT2.out hxy)
                        have g1 : (y == x.id) = true := by rw [hxy]; simp
                        clear hxy
                        go_wp2_with fail
                        go_quiet (fail)
                        go_wp2_with fail
                        go_ret
                        exact ⟨by rw [(HN.out).1]; rfl, by rw [(HN.out).2]; exact HSA2.out _ (HB6.out.trans (Go.Mem.below_drewN _ _ _))⟩
                      · have HE := Lib.hid (HNK.out hxy)
                        have g1 : (y == x.id) = false := beq_eq_false_iff_ne.2 hxy
                        clear hxy
                        go_wp2_with fail
                        go_quiet (fail)
                        go_wp2_with fail
                        go_roundw
                        case rel => exact ⟨k + 1, by omega, by go_num, HE.out, _, rfl⟩
                        case measure => simp [intOf]; omega
                    · obtain rfl : k = i := by omega
                      have HNXT := Lib.hid (HNX.out HK1.out (by have := HK2.out; omega) HLOW.out hs)
                      have hb6 := Go.Mem.below_drewN w5.heap.size w5 nn
                      have e0 := below_cell hb6 _ _ p0
                      have e1 := below_cell hb6 _ _ p1
                      have e2 := below_cell hb6 _ _ p2
                      have e3 := below_cell hb6 _ _ p3
                      obtain ⟨w6, hw6⟩ : ∃ w6, w5.drewN nn = w6 := ⟨_, rfl⟩
                      rw [hw6] at e0 e1 e2 e3 HB6 ⊢
                      have hcp := copiedC (w := w6) x _ (HOI.out _ HB6.out) HLB.out.1 HLB.out.2
                      rw [HMN.out] at hcp
                      have HCP := Lib.hid hcp
                      have HWO := Lib.hid (show wo.heap.size ≤ w6.heap.size from by rw [← hw6]; exact Nat.le_trans HWR.out.size (Nat.le_trans HBD.out.size hb6.size))
                      have HM6 := Lib.hid (show LMid w2 K' (os.take k) _ w6 from by rw [← hw6]; exact ((HM.out.below HWR.out).below HBD.out).below hb6)
                      clear hs hlt2 hk hb6 hw6 hcp p0 p1 p2 p3 p4 p5
                      go_wp2_with fail
                      refine HCP.out.mono ?_
                      rintro _ w7 ⟨A6, C6, rfl, ⟨KO6, k1, k2, k3⟩, hb7⟩
                      obtain ⟨KK, hKK⟩ : ∃ KK : Nat → Prop, KK = fun b => K' b ∨ KO6 b ∨ (Value.slice A6 M C6).ownBlock = some b := ⟨_, rfl⟩
                      have HKK := Lib.hid hKK
                      have h7s := hb7.size
                      have hown7 := k1.own_lt
                      have HKK2 := Lib.hid (show ∀ b, KK b → w2.heap.size ≤ b ∧ b < w7.heap.size from fun b q => by
                        have e1 := HWO.out
                        have e2 := HB6.out.size
                        rw [hKK] at q
                        rcases q with q | q | q
                        · have := HKB.out b q; omega
                        · have := k2 b q; omega
                        · have := k3 b q; have := hown7 b q; omega)
                      have HM7 := Lib.hid (show LMid w2 KK (os.take k) _ w7 from by
                        have h := HM6.out.below hb7
                        refine ⟨h.1.more (fun b q => by rw [hKK]; exact .inl q) (fun b q z => ?_), h.2⟩
                        have hv := HM.out.1.own_lt b q
                        have e1 := HWO.out
                        rw [hKK] at z
                        rcases z with z | z | z
                        · obtain ⟨xs, o1, o2, o3⟩ := h.1
                          exact o2 b q z
                        · have := k2 b z; omega
                        · have := k3 b z; omega)
                      have HONX := Lib.hid (show On KK w7 (fun w' => ObjR w' (fun j => #[Value.string x.key, .int .i64 x.id, .int .i64 x.size, .slice A6 M C6].getD j undef) x) from by
                        obtain ⟨A9, C9, e9, h9, g1, g2, g3, g4⟩ := HOI.out _ HB6.out
                        exact (On.more k1.on (fun b q => by rw [hKK]; exact .inr q)).map fun w' q => ⟨rfl, rfl, rfl, by rw [HMN.out] at *; exact q, g1, g2, g3, g4⟩)
                      clear k1 k2 k3 hown7 hKK e0 e1 e2 e3 h7s hb7
                      go_wp2_with (at_builtin; refine wpList_append_builtX (K := KK) _ rfl (.tmp 388) (.tmp 391) 28 rfl TObj _ 56 Try.underlying28 infoObj rfl (by omega) _ _ rfl HM7.out.1 (fun b q => (HKK2.out b q).2) #[.string x.key, .int .i64 x.id, .int .i64 x.size, .slice A6 M C6] x _ rfl rfl rfl (objCells _ _ _ _ _ _) HONX.out (by have := HTL.out; omega) ?_; intro v8 w8 hbu8 ht8 hat8)
                      have HNEW := Lib.hid (show LMid w2 KK (os.take (k + 1)) v8 w8 from by rw [HTK.out]; exact HM7.out.next hbu8 ht8 hat8)
                      have HKK3 := Lib.hid (show ∀ b, KK b → w2.heap.size ≤ b ∧ b < w8.heap.size from fun b q => ⟨(HKK2.out b q).1, Nat.lt_of_lt_of_le (HKK2.out b q).2 ht8.size⟩)
                      clear hbu8 ht8 hat8
                      go_wp2_with fail
                      go_roundw
                      case rel => exact ⟨k + 1, KK, by omega, by go_num, HNEW.out, HKK3.out, HNXT.out⟩
                      case measure => simp [intOf]; omega
              · have HN := Lib.hid HN
                have z6 := below_cell (HBW.out.trans (hd0.mono HBW.out.size)) _ _ a6
                have f2 : decide (0 < i) = true := decide_eq_true (by omega)
                have f3 : decide ((0 : Int) < (i : Int)) = true := decide_eq_true (by omega)
                have hwj : IntKind.i64.wrap ((i : Int) - 1) = (j1 : Int) := by rw [IntWalk.i64_in _ (by omega)]; omega
                have q6 : (0 : Int) ≤ (j1 : Int) := by omega
                have q7 : (j1 : Int) < (NO : Int) := by omega
                have q8 : j1 < NO := by omega
                clear hj1 hi0 a6 HNT
                refine wp_region_noPanic ?_
                refine wp_region_held_drew (S := (fun w' => Below wb.heap.size wb w' ∧ w'.cell? ⟨g5, 0, none⟩ = some (.string x.key) ∧ w'.cell? ⟨g5, 1, none⟩ = some (.int .i64 x.id) ∧ w'.cell? ⟨g5, 2, none⟩ = some (.int .i64 x.size) ∧ w'.cell? ⟨g5, 3, none⟩ = some (.slice A' M C') ∧ w'.cell? ⟨B, 1, none⟩ = some (.int .i64 id) ∧ w'.cell? ⟨B, 5, none⟩ = some (.slice (some ⟨b, o, none⟩) NO Co) ∧ w'.cell? ⟨b, o + j1 * 4, none⟩ = some (.string pk))) (by kernel_rfl) ?_ (fun hHeld => ?_)
                · exact ⟨hd0, z0, z1, z2, z3, z4, z5, z6⟩
                refine wpAnyH_take (i := 0) (oi := ?oiz56) (v := ?vz56) ?h1z56 (by kernel_rfl) (by kernel_rfl) (by kernel_rfl) (fun _ _ _ h => h) ?hyz56 (by assumption) ?_
                case h1z56 => (simp only [List.getElem?_toArray, List.getElem?_cons_zero]; rfl)
                case hyz56 => first | (refine Or.inr ⟨rfl, ?_⟩; rfl) | (refine Or.inl ⟨rfl, ?_⟩; intro w hSw; (try dsimp only at hSw); go_simp; done) | (refine Or.inl ⟨rfl, ?_⟩; intro w hSw; (try dsimp only at hSw); go_simp; with_reducible rfl)
                try simp only [Act.put, List.setIfInBounds_toArray, List.set_cons_zero, List.set_cons_succ]
                refine wpAnyH_take (i := 1) (oi := ?oiz57) (v := ?vz57) ?h1z57 (by kernel_rfl) (by kernel_rfl) (by kernel_rfl) (fun _ _ _ h => h) ?hyz57 (by assumption) ?_
                case h1z57 => (simp only [List.getElem?_toArray, List.getElem?_cons_succ, List.getElem?_cons_zero]; rfl)
                case hyz57 => first | (refine Or.inr ⟨rfl, ?_⟩; rfl) | (refine Or.inl ⟨rfl, ?_⟩; intro w hSw; (try dsimp only at hSw); go_simp; done) | (refine Or.inl ⟨rfl, ?_⟩; intro w hSw; (try dsimp only at hSw); go_simp; with_reducible rfl)
                try simp only [Act.put, List.setIfInBounds_toArray, List.set_cons_zero, List.set_cons_succ]
                refine wpAnyH_ready (rs := [2]) (by kernel_rfl) (by simp) ?_
                refine AllReadyH.cons (o := ?oiz55) ?h1z55 (fun K hK => ?_) ?morez55
                case h1z55 => (simp only [List.getElem?_toArray, List.getElem?_cons_succ, List.getElem?_cons_zero]; rfl)
                case morez55 => exact AllReadyH.nil
                go_simp
                go_at_call 30
                refine HRC.out.mono ?_
                rintro _ w5 ⟨rfl, hb5⟩
                have hd1 := nxt hd0 hb5 (Nat.le_refl _)
                have y0 := below_cell hb5 _ _ z0
                have y1 := below_cell hb5 _ _ z1
                have y2 := below_cell hb5 _ _ z2
                have y3 := below_cell hb5 _ _ z3
                have y4 := below_cell hb5 _ _ z4
                have y5 := below_cell hb5 _ _ z5
                have y6 := below_cell hb5 _ _ z6
                clear hb5 hHeld
                refine hK.out _ _ ?_ (fun hHeld => ?_)
                · exact ⟨hd1, y0, y1, y2, y3, y4, y5, y6⟩
                clear hK K
                try simp only [Act.put, List.setIfInBounds_toArray, List.set_cons_zero, List.set_cons_succ]
                refine wpAnyH_take (i := 3) (oi := ?oiz58) (v := ?vz58) ?h1z58 (by kernel_rfl) (by kernel_rfl) (by kernel_rfl) (fun _ _ _ h => h) ?hyz58 (by assumption) ?_
                case h1z58 => (simp only [List.getElem?_toArray, List.getElem?_cons_succ, List.getElem?_cons_zero]; rfl)
                case hyz58 => first | (refine Or.inr ⟨rfl, ?_⟩; rfl) | (refine Or.inl ⟨rfl, ?_⟩; intro w hSw; (try dsimp only at hSw); go_simp; done) | (refine Or.inl ⟨rfl, ?_⟩; intro w hSw; (try dsimp only at hSw); go_simp; with_reducible rfl)
                try simp only [Act.put, List.setIfInBounds_toArray, List.set_cons_zero, List.set_cons_succ]
                refine wpAnyH_take (i := 4) (oi := ?oiz59) (v := ?vz59) ?h1z59 (by kernel_rfl) (by kernel_rfl) (by kernel_rfl) (fun _ _ _ h => h) ?hyz59 (by assumption) ?_
                case h1z59 => (simp only [List.getElem?_toArray, List.getElem?_cons_succ, List.getElem?_cons_zero]; rfl)
                case hyz59 => first | (refine Or.inr ⟨rfl, ?_⟩; rfl) | (refine Or.inl ⟨rfl, ?_⟩; intro w hSw; (try dsimp only at hSw); go_simp; done) | (refine Or.inl ⟨rfl, ?_⟩; intro w hSw; (try dsimp only at hSw); go_simp; with_reducible rfl)
                try simp only [Act.put, List.setIfInBounds_toArray, List.set_cons_zero, List.set_cons_succ]
                refine wpAnyH_take (i := 5) (oi := ?oiz60) (v := ?vz60) ?h1z60 (by kernel_rfl) (by kernel_rfl) (by kernel_rfl) (fun _ _ _ h => h) ?hyz60 (by assumption) ?_
                case h1z60 => (simp only [List.getElem?_toArray, List.getElem?_cons_succ, List.getElem?_cons_zero]; rfl)
                case hyz60 => first | (refine Or.inr ⟨rfl, ?_⟩; rfl) | (refine Or.inl ⟨rfl, ?_⟩; intro w hSw; (try dsimp only at hSw); go_simp; done) | (refine Or.inl ⟨rfl, ?_⟩; intro w hSw; (try dsimp only at hSw); go_simp; with_reducible rfl)
                try simp only [Act.put, List.setIfInBounds_toArray, List.set_cons_zero, List.set_cons_succ]
                refine wpAnyH_take (i := 6) (oi := ?oiz61) (v := ?vz61) ?h1z61 (by kernel_rfl) (by kernel_rfl) (by kernel_rfl) (fun _ _ _ h => h) ?hyz61 (by assumption) ?_
                case h1z61 => (simp only [List.getElem?_toArray, List.getElem?_cons_succ, List.getElem?_cons_zero]; rfl)
                case hyz61 => first | (refine Or.inr ⟨rfl, ?_⟩; rfl) | (refine Or.inl ⟨rfl, ?_⟩; intro w hSw; (try dsimp only at hSw); go_simp; done) | (refine Or.inl ⟨rfl, ?_⟩; intro w hSw; (try dsimp only at hSw); go_simp; with_reducible rfl)
                try simp only [Act.put, List.setIfInBounds_toArray, List.set_cons_zero, List.set_cons_succ]
                refine wpAnyH_take (i := 7) (oi := ?oiz62) (v := ?vz62) ?h1z62 (by kernel_rfl) (by kernel_rfl) (by kernel_rfl) (fun _ _ _ h => h) ?hyz62 (by assumption) ?_
                case h1z62 => (simp only [List.getElem?_toArray, List.getElem?_cons_succ, List.getElem?_cons_zero]; rfl)
                case hyz62 => first | (refine Or.inr ⟨rfl, ?_⟩; rfl) | (refine Or.inl ⟨rfl, ?_⟩; intro w hSw; (try dsimp only at hSw); go_simp; done) | (refine Or.inl ⟨rfl, ?_⟩; intro w hSw; (try dsimp only at hSw); go_simp; with_reducible rfl)
                try simp only [Act.put, List.setIfInBounds_toArray, List.set_cons_zero, List.set_cons_succ]
                refine wpAnyH_take (i := 8) (oi := ?oiz63) (v := ?vz63) ?h1z63 (by kernel_rfl) (by kernel_rfl) (by kernel_rfl) (fun _ _ _ h => h) ?hyz63 (by assumption) ?_
                case h1z63 => (simp only [List.getElem?_toArray, List.getElem?_cons_succ, List.getElem?_cons_zero]; rfl)
                case hyz63 => first | (refine Or.inr ⟨rfl, ?_⟩; rfl) | (refine Or.inl ⟨rfl, ?_⟩; intro w hSw; (try dsimp only at hSw); go_simp; done) | (refine Or.inl ⟨rfl, ?_⟩; intro w hSw; (try dsimp only at hSw); go_simp; with_reducible rfl)
                try simp only [Act.put, List.setIfInBounds_toArray, List.set_cons_zero, List.set_cons_succ]
                refine wpAnyH_take (i := 9) (oi := ?oiz64) (v := ?vz64) ?h1z64 (by kernel_rfl) (by kernel_rfl) (by kernel_rfl) (fun _ _ _ h => h) ?hyz64 (by assumption) ?_
                case h1z64 => (simp only [List.getElem?_toArray, List.getElem?_cons_succ, List.getElem?_cons_zero]; rfl)
                case hyz64 => first | (refine Or.inr ⟨rfl, ?_⟩; rfl) | (refine Or.inl ⟨rfl, ?_⟩; intro w hSw; (try dsimp only at hSw); go_simp; done) | (refine Or.inl ⟨rfl, ?_⟩; intro w hSw; (try dsimp only at hSw); go_simp; with_reducible rfl)
                try simp only [Act.put, List.setIfInBounds_toArray, List.set_cons_zero, List.set_cons_succ]
                refine wpAnyH_take (i := 10) (oi := ?oiz65) (v := ?vz65) ?h1z65 (by kernel_rfl) (by kernel_rfl) (by kernel_rfl) (fun _ _ _ h => h) ?hyz65 (by assumption) ?_
                case h1z65 => (simp only [List.getElem?_toArray, List.getElem?_cons_succ, List.getElem?_cons_zero]; rfl)
                case hyz65 => first | (refine Or.inr ⟨rfl, ?_⟩; rfl) | (refine Or.inl ⟨rfl, ?_⟩; intro w hSw; (try dsimp only at hSw); go_simp; done) | (refine Or.inl ⟨rfl, ?_⟩; intro w hSw; (try dsimp only at hSw); go_simp; with_reducible rfl)
                try simp only [Act.put, List.setIfInBounds_toArray, List.set_cons_zero, List.set_cons_succ]
                refine wpAnyH_take (i := 11) (oi := ?oiz66) (v := ?vz66) ?h1z66 (by kernel_rfl) (by kernel_rfl) (by kernel_rfl) (fun _ _ _ h => h) ?hyz66 (by assumption) ?_
                case h1z66 => (simp only [List.getElem?_toArray, List.getElem?_cons_succ, List.getElem?_cons_zero]; rfl)
                case hyz66 => first | (refine Or.inr ⟨rfl, ?_⟩; rfl) | (refine Or.inl ⟨rfl, ?_⟩; intro w hSw; (try dsimp only at hSw); go_simp; done) | (refine Or.inl ⟨rfl, ?_⟩; intro w hSw; (try dsimp only at hSw); go_simp; with_reducible rfl)
                try simp only [Act.put, List.setIfInBounds_toArray, List.set_cons_zero, List.set_cons_succ]
                refine wpAnyH_take (i := 12) (oi := ?oiz67) (v := ?vz67) ?h1z67 (by kernel_rfl) (by kernel_rfl) (by kernel_rfl) (fun _ _ _ h => h) ?hyz67 (by assumption) ?_
                case h1z67 => (simp only [List.getElem?_toArray, List.getElem?_cons_succ, List.getElem?_cons_zero]; rfl)
                case hyz67 => first | (refine Or.inr ⟨rfl, ?_⟩; rfl) | (refine Or.inl ⟨rfl, ?_⟩; intro w hSw; (try dsimp only at hSw); go_simp; done) | (refine Or.inl ⟨rfl, ?_⟩; intro w hSw; (try dsimp only at hSw); go_simp; with_reducible rfl)
                try simp only [Act.put, List.setIfInBounds_toArray, List.set_cons_zero, List.set_cons_succ]
                refine wpAnyH_take (i := 13) (oi := ?oiz68) (v := ?vz68) ?h1z68 (by kernel_rfl) (by kernel_rfl) (by kernel_rfl) (fun _ _ _ h => h) ?hyz68 (by assumption) ?_
                case h1z68 => (simp only [List.getElem?_toArray, List.getElem?_cons_succ, List.getElem?_cons_zero]; rfl)
                case hyz68 => first | (refine Or.inr ⟨rfl, ?_⟩; rfl) | (refine Or.inl ⟨rfl, ?_⟩; intro w hSw; (try dsimp only at hSw); go_simp; done) | (refine Or.inl ⟨rfl, ?_⟩; intro w hSw; (try dsimp only at hSw); go_simp; with_reducible rfl)
                try simp only [Act.put, List.setIfInBounds_toArray, List.set_cons_zero, List.set_cons_succ]
                refine wpAnyH_take (i := 14) (oi := ?oiz69) (v := ?vz69) ?h1z69 (by kernel_rfl) (by kernel_rfl) (by kernel_rfl) (fun _ _ _ h => h) ?hyz69 (by assumption) ?_
                case h1z69 => (simp only [List.getElem?_toArray, List.getElem?_cons_succ, List.getElem?_cons_zero]; rfl)
                case hyz69 => first | (refine Or.inr ⟨rfl, ?_⟩; rfl) | (refine Or.inl ⟨rfl, ?_⟩; intro w hSw; (try dsimp only at hSw); go_simp; done) | (refine Or.inl ⟨rfl, ?_⟩; intro w hSw; (try dsimp only at hSw); go_simp; with_reducible rfl)
                try simp only [Act.put, List.setIfInBounds_toArray, List.set_cons_zero, List.set_cons_succ]
                refine wpAnyH_take (i := 15) (oi := ?oiz70) (v := ?vz70) ?h1z70 (by kernel_rfl) (by kernel_rfl) (by kernel_rfl) (fun _ _ _ h => h) ?hyz70 (by assumption) ?_
                case h1z70 => (simp only [List.getElem?_toArray, List.getElem?_cons_succ, List.getElem?_cons_zero]; rfl)
                case hyz70 => first | (refine Or.inr ⟨rfl, ?_⟩; rfl) | (refine Or.inl ⟨rfl, ?_⟩; intro w hSw; (try dsimp only at hSw); go_simp; done) | (refine Or.inl ⟨rfl, ?_⟩; intro w hSw; (try dsimp only at hSw); go_simp; with_reducible rfl)
                try simp only [Act.put, List.setIfInBounds_toArray, List.set_cons_zero, List.set_cons_succ]
                refine wpAnyH_take (i := 16) (oi := ?oiz71) (v := ?vz71) ?h1z71 (by kernel_rfl) (by kernel_rfl) (by kernel_rfl) (fun _ _ _ h => h) ?hyz71 (by assumption) ?_
                case h1z71 => (simp only [List.getElem?_toArray, List.getElem?_cons_succ, List.getElem?_cons_zero]; rfl)
                case hyz71 => first | (refine Or.inr ⟨rfl, ?_⟩; rfl) | (refine Or.inl ⟨rfl, ?_⟩; intro w hSw; (try dsimp only at hSw); go_simp; done) | (refine Or.inl ⟨rfl, ?_⟩; intro w hSw; (try dsimp only at hSw); go_simp; with_reducible rfl)
                try simp only [Act.put, List.setIfInBounds_toArray, List.set_cons_zero, List.set_cons_succ]
                refine wpAnyH_take (i := 17) (oi := ?oiz72) (v := ?vz72) ?h1z72 (by kernel_rfl) (by kernel_rfl) (by kernel_rfl) (fun _ _ _ h => h) ?hyz72 (by assumption) ?_
                case h1z72 => (simp only [List.getElem?_toArray, List.getElem?_cons_succ, List.getElem?_cons_zero]; rfl)
                case hyz72 => first | (refine Or.inr ⟨rfl, ?_⟩; rfl) | (refine Or.inl ⟨rfl, ?_⟩; intro w hSw; (try dsimp only at hSw); go_simp; done) | (refine Or.inl ⟨rfl, ?_⟩; intro w hSw; (try dsimp only at hSw); go_simp; with_reducible rfl)
                try simp only [Act.put, List.setIfInBounds_toArray, List.set_cons_zero, List.set_cons_succ]
                refine wpAnyH_take (i := 18) (oi := ?oiz73) (v := ?vz73) ?h1z73 (by kernel_rfl) (by kernel_rfl) (by kernel_rfl) (fun _ _ _ h => h) ?hyz73 (by assumption) ?_
                case h1z73 => (simp only [List.getElem?_toArray, List.getElem?_cons_succ, List.getElem?_cons_zero]; rfl)
                case hyz73 => first | (refine Or.inr ⟨rfl, ?_⟩; rfl) | (refine Or.inl ⟨rfl, ?_⟩; intro w hSw; (try dsimp only at hSw); go_simp; done) | (refine Or.inl ⟨rfl, ?_⟩; intro w hSw; (try dsimp only at hSw); go_simp; with_reducible rfl)
                try simp only [Act.put, List.setIfInBounds_toArray, List.set_cons_zero, List.set_cons_succ]
                refine wpAnyH_take (i := 19) (oi := ?oiz74) (v := ?vz74) ?h1z74 (by kernel_rfl) (by kernel_rfl) (by kernel_rfl) (fun _ _ _ h => h) ?hyz74 (by assumption) ?_
                case h1z74 => (simp only [List.getElem?_toArray, List.getElem?_cons_succ, List.getElem?_cons_zero]; rfl)
                case hyz74 => first | (refine Or.inr ⟨rfl, ?_⟩; rfl) | (refine Or.inl ⟨rfl, ?_⟩; intro w hSw; (try dsimp only at hSw); go_simp; done) | (refine Or.inl ⟨rfl, ?_⟩; intro w hSw; (try dsimp only at hSw); go_simp; with_reducible rfl)
                try simp only [Act.put, List.setIfInBounds_toArray, List.set_cons_zero, List.set_cons_succ]
                refine wpAnyH_take (i := 20) (oi := ?oiz75) (v := ?vz75) ?h1z75 (by kernel_rfl) (by kernel_rfl) (by kernel_rfl) (fun _ _ _ h => h) ?hyz75 (by assumption) ?_
                case h1z75 => (simp only [List.getElem?_toArray, List.getElem?_cons_succ, List.getElem?_cons_zero]; rfl)
                case hyz75 => first | (refine Or.inr ⟨rfl, ?_⟩; rfl) | (refine Or.inl ⟨rfl, ?_⟩; intro w hSw; (try dsimp only at hSw); go_simp; done) | (refine Or.inl ⟨rfl, ?_⟩; intro w hSw; (try dsimp only at hSw); go_simp; with_reducible rfl)
                try simp only [Act.put, List.setIfInBounds_toArray, List.set_cons_zero, List.set_cons_succ]
                refine wpAnyH_take (i := 21) (oi := ?oiz76) (v := ?vz76) ?h1z76 (by kernel_rfl) (by kernel_rfl) (by kernel_rfl) (fun _ _ _ h => h) ?hyz76 (by assumption) ?_
                case h1z76 => (simp only [List.getElem?_toArray, List.getElem?_cons_succ, List.getElem?_cons_zero]; rfl)
                case hyz76 => first | (refine Or.inr ⟨rfl, ?_⟩; rfl) | (refine Or.inl ⟨rfl, ?_⟩; intro w hSw; (try dsimp only at hSw); go_simp; done) | (refine Or.inl ⟨rfl, ?_⟩; intro w hSw; (try dsimp only at hSw); go_simp; with_reducible rfl)
                try simp only [Act.put, List.setIfInBounds_toArray, List.set_cons_zero, List.set_cons_succ]
                refine wpAnyH_take (i := 22) (oi := ?oiz77) (v := ?vz77) ?h1z77 (by kernel_rfl) (by kernel_rfl) (by kernel_rfl) (fun _ _ _ h => h) ?hyz77 (by assumption) ?_
                case h1z77 => (simp only [List.getElem?_toArray, List.getElem?_cons_succ, List.getElem?_cons_zero]; rfl)
                case hyz77 => first | (refine Or.inr ⟨rfl, ?_⟩; rfl) | (refine Or.inl ⟨rfl, ?_⟩; intro w hSw; (try dsimp only at hSw); go_simp; done) | (refine Or.inl ⟨rfl, ?_⟩; intro w hSw; (try dsimp only at hSw); go_simp; with_reducible rfl)
                try simp only [Act.put, List.setIfInBounds_toArray, List.set_cons_zero, List.set_cons_succ]
                refine wpAnyH_take (i := 23) (oi := ?oiz78) (v := ?vz78) ?h1z78 (by kernel_rfl) (by kernel_rfl) (by kernel_rfl) (fun _ _ _ h => h) ?hyz78 (by assumption) ?_
                case h1z78 => (simp only [List.getElem?_toArray, List.getElem?_cons_succ, List.getElem?_cons_zero]; rfl)
                case hyz78 => first | (refine Or.inr ⟨rfl, ?_⟩; rfl) | (refine Or.inl ⟨rfl, ?_⟩; intro w hSw; (try dsimp only at hSw); go_simp; done) | (refine Or.inl ⟨rfl, ?_⟩; intro w hSw; (try dsimp only at hSw); go_simp; with_reducible rfl)
                try simp only [Act.put, List.setIfInBounds_toArray, List.set_cons_zero, List.set_cons_succ]
                refine wpAnyH_take (i := 24) (oi := ?oiz79) (v := ?vz79) ?h1z79 (by kernel_rfl) (by kernel_rfl) (by kernel_rfl) (fun _ _ _ h => h) ?hyz79 (by assumption) ?_
                case h1z79 => (simp only [List.getElem?_toArray, List.getElem?_cons_succ, List.getElem?_cons_zero]; rfl)
                case hyz79 => first | (refine Or.inr ⟨rfl, ?_⟩; rfl) | (refine Or.inl ⟨rfl, ?_⟩; intro w hSw; (try dsimp only at hSw); go_simp; done) | (refine Or.inl ⟨rfl, ?_⟩; intro w hSw; (try dsimp only at hSw); go_simp; with_reducible rfl)
                try simp only [Act.put, List.setIfInBounds_toArray, List.set_cons_zero, List.set_cons_succ]
                refine wpAnyH_take (i := 25) (oi := ?oiz80) (v := ?vz80) ?h1z80 (by kernel_rfl) (by kernel_rfl) (by kernel_rfl) (fun _ _ _ h => h) ?hyz80 (by assumption) ?_
                case h1z80 => (simp only [List.getElem?_toArray, List.getElem?_cons_succ, List.getElem?_cons_zero]; rfl)
                case hyz80 => first | (refine Or.inr ⟨rfl, ?_⟩; rfl) | (refine Or.inl ⟨rfl, ?_⟩; intro w hSw; (try dsimp only at hSw); go_simp; done) | (refine Or.inl ⟨rfl, ?_⟩; intro w hSw; (try dsimp only at hSw); go_simp; with_reducible rfl)
                try simp only [Act.put, List.setIfInBounds_toArray, List.set_cons_zero, List.set_cons_succ]
                refine wpAnyH_take (i := 26) (oi := ?oiz81) (v := ?vz81) ?h1z81 (by kernel_rfl) (by kernel_rfl) (by kernel_rfl) (fun _ _ _ h => h) ?hyz81 (by assumption) ?_
                case h1z81 => (simp only [List.getElem?_toArray, List.getElem?_cons_succ, List.getElem?_cons_zero]; rfl)
                case hyz81 => first | (refine Or.inr ⟨rfl, ?_⟩; rfl) | (refine Or.inl ⟨rfl, ?_⟩; intro w hSw; (try dsimp only at hSw); go_simp; done) | (refine Or.inl ⟨rfl, ?_⟩; intro w hSw; (try dsimp only at hSw); go_simp; with_reducible rfl)
                try simp only [Act.put, List.setIfInBounds_toArray, List.set_cons_zero, List.set_cons_succ]
                refine wpAnyH_done (by kernel_rfl) ?_ _
                refine NoPanic.normal ?_
                clear hHeld
                all_goals
                  have HBB := Lib.hid (HBW.out.trans (hd1.mono HBW.out.size))
                  clear z0 z1 z2 z3 z4 z5 y0 y1 y2 y3 y4 y5 y6 z6 hd0 hd1
                  go_wp2_with fail
                  go_ret
                  exact ⟨by rw [(HN.out).1]; rfl, by rw [(HN.out).2]; exact HSA2.out _ HBB.out⟩
              · have HLOW := Lib.hid (show i = 0 ∨ ∃ hj : i - 1 < os.length, Kl.lt (Tb.keyOf os[i - 1]) (Tb.keyOf x) = true from .inr ⟨hj, hl2⟩)
                have z6 := below_cell (HBW.out.trans (hd0.mono HBW.out.size)) _ _ a6
                have f2 : decide (0 < i) = true := decide_eq_true (by omega)
                have f3 : decide ((0 : Int) < (i : Int)) = true := decide_eq_true (by omega)
                have hwj : IntKind.i64.wrap ((i : Int) - 1) = (j1 : Int) := by rw [IntWalk.i64_in _ (by omega)]; omega
                have q6 : (0 : Int) ≤ (j1 : Int) := by omega
                have q7 : (j1 : Int) < (NO : Int) := by omega
                have q8 : j1 < NO := by omega
                clear hj1 hi0 a6 hl2
                refine wp_region_noPanic ?_
                refine wp_region_held_drew (S := (fun w' => Below wb.heap.size wb w' ∧ w'.cell? ⟨g5, 0, none⟩ = some (.string x.key) ∧ w'.cell? ⟨g5, 1, none⟩ = some (.int .i64 x.id) ∧ w'.cell? ⟨g5, 2, none⟩ = some (.int .i64 x.size) ∧ w'.cell? ⟨g5, 3, none⟩ = some (.slice A' M C') ∧ w'.cell? ⟨B, 1, none⟩ = some (.int .i64 id) ∧ w'.cell? ⟨B, 5, none⟩ = some (.slice (some ⟨b, o, none⟩) NO Co) ∧ w'.cell? ⟨b, o + j1 * 4, none⟩ = some (.string pk))) (by kernel_rfl) ?_ (fun hHeld => ?_)
                · exact ⟨hd0, z0, z1, z2, z3, z4, z5, z6⟩
                refine wpAnyH_take (i := 0) (oi := ?oiz83) (v := ?vz83) ?h1z83 (by kernel_rfl) (by kernel_rfl) (by kernel_rfl) (fun _ _ _ h => h) ?hyz83 (by assumption) ?_
                case h1z83 => (simp only [List.getElem?_toArray, List.getElem?_cons_zero]; rfl)
                case hyz83 => first | (refine Or.inr ⟨rfl, ?_⟩; rfl) | (refine Or.inl ⟨rfl, ?_⟩; intro w hSw; (try dsimp only at hSw); go_simp; done) | (refine Or.inl ⟨rfl, ?_⟩; intro w hSw; (try dsimp only at hSw); go_simp; with_reducible rfl)
                try simp only [Act.put, List.setIfInBounds_toArray, List.set_cons_zero, List.set_cons_succ]
                refine wpAnyH_take (i := 1) (oi := ?oiz84) (v := ?vz84) ?h1z84 (by kernel_rfl) (by kernel_rfl) (by kernel_rfl) (fun _ _ _ h => h) ?hyz84 (by assumption) ?_
                case h1z84 => (simp only [List.getElem?_toArray, List.getElem?_cons_succ, List.getElem?_cons_zero]; rfl)
                case hyz84 => first | (refine Or.inr ⟨rfl, ?_⟩; rfl) | (refine Or.inl ⟨rfl, ?_⟩; intro w hSw; (try dsimp only at hSw); go_simp; done) | (refine Or.inl ⟨rfl, ?_⟩; intro w hSw; (try dsimp only at hSw); go_simp; with_reducible rfl)
                try simp only [Act.put, List.setIfInBounds_toArray, List.set_cons_zero, List.set_cons_succ]
                refine wpAnyH_ready (rs := [2]) (by kernel_rfl) (by simp) ?_
                refine AllReadyH.cons (o := ?oiz82) ?h1z82 (fun K hK => ?_) ?morez82
                case h1z82 => (simp only [List.getElem?_toArray, List.getElem?_cons_succ, List.getElem?_cons_zero]; rfl)
                case morez82 => exact AllReadyH.nil
                go_simp
                go_at_call 30
                refine HRC.out.mono ?_
                rintro _ w5 ⟨rfl, hb5⟩
                have hd1 := nxt hd0 hb5 (Nat.le_refl _)
                have y0 := below_cell hb5 _ _ z0
                have y1 := below_cell hb5 _ _ z1
                have y2 := below_cell hb5 _ _ z2
                have y3 := below_cell hb5 _ _ z3
                have y4 := below_cell hb5 _ _ z4
                have y5 := below_cell hb5 _ _ z5
                have y6 := below_cell hb5 _ _ z6
                clear hb5 hHeld
                refine hK.out _ _ ?_ (fun hHeld => ?_)
                · exact ⟨hd1, y0, y1, y2, y3, y4, y5, y6⟩
                clear hK K
                try simp only [Act.put, List.setIfInBounds_toArray, List.set_cons_zero, List.set_cons_succ]
                refine wpAnyH_take (i := 3) (oi := ?oiz85) (v := ?vz85) ?h1z85 (by kernel_rfl) (by kernel_rfl) (by kernel_rfl) (fun _ _ _ h => h) ?hyz85 (by assumption) ?_
                case h1z85 => (simp only [List.getElem?_toArray, List.getElem?_cons_succ, List.getElem?_cons_zero]; rfl)
                case hyz85 => first | (refine Or.inr ⟨rfl, ?_⟩; rfl) | (refine Or.inl ⟨rfl, ?_⟩; intro w hSw; (try dsimp only at hSw); go_simp; done) | (refine Or.inl ⟨rfl, ?_⟩; intro w hSw; (try dsimp only at hSw); go_simp; with_reducible rfl)
                try simp only [Act.put, List.setIfInBounds_toArray, List.set_cons_zero, List.set_cons_succ]
                refine wpAnyH_take (i := 4) (oi := ?oiz86) (v := ?vz86) ?h1z86 (by kernel_rfl) (by kernel_rfl) (by kernel_rfl) (fun _ _ _ h => h) ?hyz86 (by assumption) ?_
                case h1z86 => (simp only [List.getElem?_toArray, List.getElem?_cons_succ, List.getElem?_cons_zero]; rfl)
                case hyz86 => first | (refine Or.inr ⟨rfl, ?_⟩; rfl) | (refine Or.inl ⟨rfl, ?_⟩; intro w hSw; (try dsimp only at hSw); go_simp; done) | (refine Or.inl ⟨rfl, ?_⟩; intro w hSw; (try dsimp only at hSw); go_simp; with_reducible rfl)
                try simp only [Act.put, List.setIfInBounds_toArray, List.set_cons_zero, List.set_cons_succ]
                refine wpAnyH_take (i := 5) (oi := ?oiz87) (v := ?vz87) ?h1z87 (by kernel_rfl) (by kernel_rfl) (by kernel_rfl) (fun _ _ _ h => h) ?hyz87 (by assumption) ?_
                case h1z87 => (simp only [List.getElem?_toArray, List.getElem?_cons_succ, List.getElem?_cons_zero]; rfl)
                case hyz87 => first | (refine Or.inr ⟨rfl, ?_⟩; rfl) | (refine Or.inl ⟨rfl, ?_⟩; intro w hSw; (try dsimp only at hSw); go_simp; done) | (refine Or.inl ⟨rfl, ?_⟩; intro w hSw; (try dsimp only at hSw); go_simp; with_reducible rfl)
                try simp only [Act.put, List.setIfInBounds_toArray, List.set_cons_zero, List.set_cons_succ]
                refine wpAnyH_take (i := 6) (oi := ?oiz88) (v := ?vz88) ?h1z88 (by kernel_rfl) (by kernel_rfl) (by kernel_rfl) (fun _ _ _ h => h) ?hyz88 (by assumption) ?_
                case h1z88 => (simp only [List.getElem?_toArray, List.getElem?_cons_succ, List.getElem?_cons_zero]; rfl)
                case hyz88 => first | (refine Or.inr ⟨rfl, ?_⟩; rfl) | (refine Or.inl ⟨rfl, ?_⟩; intro w hSw; (try dsimp only at hSw); go_simp; done) | (refine Or.inl ⟨rfl, ?_⟩; intro w hSw; (try dsimp only at hSw); go_simp; with_reducible rfl)
                try simp only [Act.put, List.setIfInBounds_toArray, List.set_cons_zero, List.set_cons_succ]
                refine wpAnyH_take (i := 7) (oi := ?oiz89) (v := ?vz89) ?h1z89 (by kernel_rfl) (by kernel_rfl) (by kernel_rfl) (fun _ _ _ h => h) ?hyz89 (by assumption) ?_
                case h1z89 => (simp only [List.getElem?_toArray, List.getElem?_cons_succ, List.getElem?_cons_zero]; rfl)
                case hyz89 => first | (refine Or.inr ⟨rfl, ?_⟩; rfl) | (refine Or.inl ⟨rfl, ?_⟩; intro w hSw; (try dsimp only at hSw); go_simp; done) | (refine Or.inl ⟨rfl, ?_⟩; intro w hSw; (try dsimp only at hSw); go_simp; with_reducible rfl)
                try simp only [Act.put, List.setIfInBounds_toArray, List.set_cons_zero, List.set_cons_succ]
                refine wpAnyH_take (i := 8) (oi := ?oiz90) (v := ?vz90) ?h1z90 (by kernel_rfl) (by kernel_rfl) (by kernel_rfl) (fun _ _ _ h => h) ?hyz90 (by assumption) ?_
                case h1z90 => (simp only [List.getElem?_toArray, List.getElem?_cons_succ, List.getElem?_cons_zero]; rfl)
                case hyz90 => first | (refine Or.inr ⟨rfl, ?_⟩; rfl) | (refine Or.inl ⟨rfl, ?_⟩; intro w hSw; (try dsimp only at hSw); go_simp; done) | (refine Or.inl ⟨rfl, ?_⟩; intro w hSw; (try dsimp only at hSw); go_simp; with_reducible rfl)
                try simp only [Act.put, List.setIfInBounds_toArray, List.set_cons_zero, List.set_cons_succ]
                refine wpAnyH_take (i := 9) (oi := ?oiz91) (v := ?vz91) ?h1z91 (by kernel_rfl) (by kernel_rfl) (by kernel_rfl) (fun _ _ _ h => h) ?hyz91 (by assumption) ?_
                case h1z91 => (simp only [List.getElem?_toArray, List.getElem?_cons_succ, List.getElem?_cons_zero]; rfl)
                case hyz91 => first | (refine Or.inr ⟨rfl, ?_⟩; rfl) | (refine Or.inl ⟨rfl, ?_⟩; intro w hSw; (try dsimp only at hSw); go_simp; done) | (refine Or.inl ⟨rfl, ?_⟩; intro w hSw; (try dsimp only at hSw); go_simp; with_reducible rfl)
                try simp only [Act.put, List.setIfInBounds_toArray, List.set_cons_zero, List.set_cons_succ]
                refine wpAnyH_take (i := 10) (oi := ?oiz92) (v := ?vz92) ?h1z92 (by kernel_rfl) (by kernel_rfl) (by kernel_rfl) (fun _ _ _ h => h) ?hyz92 (by assumption) ?_
                case h1z92 => (simp only [List.getElem?_toArray, List.getElem?_cons_succ, List.getElem?_cons_zero]; rfl)
                case hyz92 => first | (refine Or.inr ⟨rfl, ?_⟩; rfl) | (refine Or.inl ⟨rfl, ?_⟩; intro w hSw; (try dsimp only at hSw); go_simp; done) | (refine Or.inl ⟨rfl, ?_⟩; intro w hSw; (try dsimp only at hSw); go_simp; with_reducible rfl)
                try simp only [Act.put, List.setIfInBounds_toArray, List.set_cons_zero, List.set_cons_succ]
                refine wpAnyH_take (i := 11) (oi := ?oiz93) (v := ?vz93) ?h1z93 (by kernel_rfl) (by kernel_rfl) (by kernel_rfl) (fun _ _ _ h => h) ?hyz93 (by assumption) ?_
                case h1z93 => (simp only [List.getElem?_toArray, List.getElem?_cons_succ, List.getElem?_cons_zero]; rfl)
                case hyz93 => first | (refine Or.inr ⟨rfl, ?_⟩; rfl) | (refine Or.inl ⟨rfl, ?_⟩; intro w hSw; (try dsimp only at hSw); go_simp; done) | (refine Or.inl ⟨rfl, ?_⟩; intro w hSw; (try dsimp only at hSw); go_simp; with_reducible rfl)
                try simp only [Act.put, List.setIfInBounds_toArray, List.set_cons_zero, List.set_cons_succ]
                refine wpAnyH_take (i := 12) (oi := ?oiz94) (v := ?vz94) ?h1z94 (by kernel_rfl) (by kernel_rfl) (by kernel_rfl) (fun _ _ _ h => h) ?hyz94 (by assumption) ?_
                case h1z94 => (simp only [List.getElem?_toArray, List.getElem?_cons_succ, List.getElem?_cons_zero]; rfl)
                case hyz94 => first | (refine Or.inr ⟨rfl, ?_⟩; rfl) | (refine Or.inl ⟨rfl, ?_⟩; intro w hSw; (try dsimp only at hSw); go_simp; done) | (refine Or.inl ⟨rfl, ?_⟩; intro w hSw; (try dsimp only at hSw); go_simp; with_reducible rfl)
                try simp only [Act.put, List.setIfInBounds_toArray, List.set_cons_zero, List.set_cons_succ]
                refine wpAnyH_take (i := 13) (oi := ?oiz95) (v := ?vz95) ?h1z95 (by kernel_rfl) (by kernel_rfl) (by kernel_rfl) (fun _ _ _ h => h) ?hyz95 (by assumption) ?_
                case h1z95 => (simp only [List.getElem?_toArray, List.getElem?_cons_succ, List.getElem?_cons_zero]; rfl)
                case hyz95 => first | (refine Or.inr ⟨rfl, ?_⟩; rfl) | (refine Or.inl ⟨rfl, ?_⟩; intro w hSw; (try dsimp only at hSw); go_simp; done) | (refine Or.inl ⟨rfl, ?_⟩; intro w hSw; (try dsimp only at hSw); go_simp; with_reducible rfl)
                try simp only [Act.put, List.setIfInBounds_toArray, List.set_cons_zero, List.set_cons_succ]
                refine wpAnyH_take (i := 14) (oi := ?oiz96) (v := ?vz96) ?h1z96 (by kernel_rfl) (by kernel_rfl) (by kernel_rfl) (fun _ _ _ h => h) ?hyz96 (by assumption) ?_
                case h1z96 => (simp only [List.getElem?_toArray, List.getElem?_cons_succ, List.getElem?_cons_zero]; rfl)
                case hyz96 => first | (refine Or.inr ⟨rfl, ?_⟩; rfl) | (refine Or.inl ⟨rfl, ?_⟩; intro w hSw; (try dsimp only at hSw); go_simp; done) | (refine Or.inl ⟨rfl, ?_⟩; intro w hSw; (try dsimp only at hSw); go_simp; with_reducible rfl)
                try simp only [Act.put, List.setIfInBounds_toArray, List.set_cons_zero, List.set_cons_succ]
                refine wpAnyH_take (i := 15) (oi := ?oiz97) (v := ?vz97) ?h1z97 (by kernel_rfl) (by kernel_rfl) (by kernel_rfl) (fun _ _ _ h => h) ?hyz97 (by assumption) ?_
                case h1z97 => (simp only [List.getElem?_toArray, List.getElem?_cons_succ, List.getElem?_cons_zero]; rfl)
                case hyz97 => first | (refine Or.inr ⟨rfl, ?_⟩; rfl) | (refine Or.inl ⟨rfl, ?_⟩; intro w hSw; (try dsimp only at hSw); go_simp; done) | (refine Or.inl ⟨rfl, ?_⟩; intro w hSw; (try dsimp only at hSw); go_simp; with_reducible rfl)
                try simp only [Act.put, List.setIfInBounds_toArray, List.set_cons_zero, List.set_cons_succ]
                refine wpAnyH_take (i := 16) (oi := ?oiz98) (v := ?vz98) ?h1z98 (by kernel_rfl) (by kernel_rfl) (by kernel_rfl) (fun _ _ _ h => h) ?hyz98 (by assumption) ?_
                case h1z98 => (simp only [List.getElem?_toArray, List.getElem?_cons_succ, List.getElem?_cons_zero]; rfl)
                case hyz98 => first | (refine Or.inr ⟨rfl, ?_⟩; rfl) | (refine Or.inl ⟨rfl, ?_⟩; intro w hSw; (try dsimp only at hSw); go_simp; done) | (refine Or.inl ⟨rfl, ?_⟩; intro w hSw; (try dsimp only at hSw); go_simp; with_reducible rfl)
                try simp only [Act.put, List.setIfInBounds_toArray, List.set_cons_zero, List.set_cons_succ]
                refine wpAnyH_take (i := 17) (oi := ?oiz99) (v := ?vz99) ?h1z99 (by kernel_rfl) (by kernel_rfl) (by kernel_rfl) (fun _ _ _ h => h) ?hyz99 (by assumption) ?_
                case h1z99 => (simp only [List.getElem?_toArray, List.getElem?_cons_succ, List.getElem?_cons_zero]; rfl)
                case hyz99 => first | (refine Or.inr ⟨rfl, ?_⟩; rfl) | (refine Or.inl ⟨rfl, ?_⟩; intro w hSw; (try dsimp only at hSw); go_simp; done) | (refine Or.inl ⟨rfl, ?_⟩; intro w hSw; (try dsimp only at hSw); go_simp; with_reducible rfl)
                try simp only [Act.put, List.setIfInBounds_toArray, List.set_cons_zero, List.set_cons_succ]
                refine wpAnyH_take (i := 18) (oi := ?oiz100) (v := ?vz100) ?h1z100 (by kernel_rfl) (by kernel_rfl) (by kernel_rfl) (fun _ _ _ h => h) ?hyz100 (by assumption) ?_
                case h1z100 => (simp only [List.getElem?_toArray, List.getElem?_cons_succ, List.getElem?_cons_zero]; rfl)
                case hyz100 => first | (refine Or.inr ⟨rfl, ?_⟩; rfl) | (refine Or.inl ⟨rfl, ?_⟩; intro w hSw; (try dsimp only at hSw); go_simp; done) | (refine Or.inl ⟨rfl, ?_⟩; intro w hSw; (try dsimp only at hSw); go_simp; with_reducible rfl)
                try simp only [Act.put, List.setIfInBounds_toArray, List.set_cons_zero, List.set_cons_succ]
                refine wpAnyH_take (i := 19) (oi := ?oiz101) (v := ?vz101) ?h1z101 (by kernel_rfl) (by kernel_rfl) (by kernel_rfl) (fun _ _ _ h => h) ?hyz101 (by assumption) ?_
                case h1z101 => (simp only [List.getElem?_toArray, List.getElem?_cons_succ, List.getElem?_cons_zero]; rfl)
                case hyz101 => first | (refine Or.inr ⟨rfl, ?_⟩; rfl) | (refine Or.inl ⟨rfl, ?_⟩; intro w hSw; (try dsimp only at hSw); go_simp; done) | (refine Or.inl ⟨rfl, ?_⟩; intro w hSw; (try dsimp only at hSw); go_simp; with_reducible rfl)
                try simp only [Act.put, List.setIfInBounds_toArray, List.set_cons_zero, List.set_cons_succ]
                refine wpAnyH_take (i := 20) (oi := ?oiz102) (v := ?vz102) ?h1z102 (by kernel_rfl) (by kernel_rfl) (by kernel_rfl) (fun _ _ _ h => h) ?hyz102 (by assumption) ?_
                case h1z102 => (simp only [List.getElem?_toArray, List.getElem?_cons_succ, List.getElem?_cons_zero]; rfl)
                case hyz102 => first | (refine Or.inr ⟨rfl, ?_⟩; rfl) | (refine Or.inl ⟨rfl, ?_⟩; intro w hSw; (try dsimp only at hSw); go_simp; done) | (refine Or.inl ⟨rfl, ?_⟩; intro w hSw; (try dsimp only at hSw); go_simp; with_reducible rfl)
                try simp only [Act.put, List.setIfInBounds_toArray, List.set_cons_zero, List.set_cons_succ]
                refine wpAnyH_take (i := 21) (oi := ?oiz103) (v := ?vz103) ?h1z103 (by kernel_rfl) (by kernel_rfl) (by kernel_rfl) (fun _ _ _ h => h) ?hyz103 (by assumption) ?_
                case h1z103 => (simp only [List.getElem?_toArray, List.getElem?_cons_succ, List.getElem?_cons_zero]; rfl)
                case hyz103 => first | (refine Or.inr ⟨rfl, ?_⟩; rfl) | (refine Or.inl ⟨rfl, ?_⟩; intro w hSw; (try dsimp only at hSw); go_simp; done) | (refine Or.inl ⟨rfl, ?_⟩; intro w hSw; (try dsimp only at hSw); go_simp; with_reducible rfl)
                try simp only [Act.put, List.setIfInBounds_toArray, List.set_cons_zero, List.set_cons_succ]
                refine wpAnyH_take (i := 22) (oi := ?oiz104) (v := ?vz104) ?h1z104 (by kernel_rfl) (by kernel_rfl) (by kernel_rfl) (fun _ _ _ h => h) ?hyz104 (by assumption) ?_
                case h1z104 => (simp only [List.getElem?_toArray, List.getElem?_cons_succ, List.getElem?_cons_zero]; rfl)
                case hyz104 => first | (refine Or.inr ⟨rfl, ?_⟩; rfl) | (refine Or.inl ⟨rfl, ?_⟩; intro w hSw; (try dsimp only at hSw); go_simp; done) | (refine Or.inl ⟨rfl, ?_⟩; intro w hSw; (try dsimp only at hSw); go_simp; with_reducible rfl)
                try simp only [Act.put, List.setIfInBounds_toArray, List.set_cons_zero, List.set_cons_succ]
                refine wpAnyH_take (i := 23) (oi := ?oiz105) (v := ?vz105) ?h1z105 (by kernel_rfl) (by kernel_rfl) (by kernel_rfl) (fun _ _ _ h => h) ?hyz105 (by assumption) ?_
                case h1z105 => (simp only [List.getElem?_toArray, List.getElem?_cons_succ, List.getElem?_cons_zero]; rfl)
                case hyz105 => first | (refine Or.inr ⟨rfl, ?_⟩; rfl) | (refine Or.inl ⟨rfl, ?_⟩; intro w hSw; (try dsimp only at hSw); go_simp; done) | (refine Or.inl ⟨rfl, ?_⟩; intro w hSw; (try dsimp only at hSw); go_simp; with_reducible rfl)
                try simp only [Act.put, List.setIfInBounds_toArray, List.set_cons_zero, List.set_cons_succ]
                refine wpAnyH_take (i := 24) (oi := ?oiz106) (v := ?vz106) ?h1z106 (by kernel_rfl) (by kernel_rfl) (by kernel_rfl) (fun _ _ _ h => h) ?hyz106 (by assumption) ?_
                case h1z106 => (simp only [List.getElem?_toArray, List.getElem?_cons_succ, List.getElem?_cons_zero]; rfl)
                case hyz106 => first | (refine Or.inr ⟨rfl, ?_⟩; rfl) | (refine Or.inl ⟨rfl, ?_⟩; intro w hSw; (try dsimp only at hSw); go_simp; done) | (refine Or.inl ⟨rfl, ?_⟩; intro w hSw; (try dsimp only at hSw); go_simp; with_reducible rfl)
                try simp only [Act.put, List.setIfInBounds_toArray, List.set_cons_zero, List.set_cons_succ]
                refine wpAnyH_take (i := 25) (oi := ?oiz107) (v := ?vz107) ?h1z107 (by kernel_rfl) (by kernel_rfl) (by kernel_rfl) (fun _ _ _ h => h) ?hyz107 (by assumption) ?_
                case h1z107 => (simp only [List.getElem?_toArray, List.getElem?_cons_succ, List.getElem?_cons_zero]; rfl)
                case hyz107 => first | (refine Or.inr ⟨rfl, ?_⟩; rfl) | (refine Or.inl ⟨rfl, ?_⟩; intro w hSw; (try dsimp only at hSw); go_simp; done) | (refine Or.inl ⟨rfl, ?_⟩; intro w hSw; (try dsimp only at hSw); go_simp; with_reducible rfl)
                try simp only [Act.put, List.setIfInBounds_toArray, List.set_cons_zero, List.set_cons_succ]
                refine wpAnyH_take (i := 26) (oi := ?oiz108) (v := ?vz108) ?h1z108 (by kernel_rfl) (by kernel_rfl) (by kernel_rfl) (fun _ _ _ h => h) ?hyz108 (by assumption) ?_
                case h1z108 => (simp only [List.getElem?_toArray, List.getElem?_cons_succ, List.getElem?_cons_zero]; rfl)
                case hyz108 => first | (refine Or.inr ⟨rfl, ?_⟩; rfl) | (refine Or.inl ⟨rfl, ?_⟩; intro w hSw; (try dsimp only at hSw); go_simp; done) | (refine Or.inl ⟨rfl, ?_⟩; intro w hSw; (try dsimp only at hSw); go_simp; with_reducible rfl)
                try simp only [Act.put, List.setIfInBounds_toArray, List.set_cons_zero, List.set_cons_succ]
                refine wpAnyH_done (by kernel_rfl) ?_ _
                refine NoPanic.normal ?_
                clear hHeld
                all_goals
                  clear y6 z6 hwj q6 q7 q8 hlk
                  clear f1 f2 f3 z0 z1 z2 z3 z4 z5 y0 y1 y2 y3 y4 y5 hd0
                  have HBD := Lib.hid hd1
                  obtain ⟨p0, p1, p2, p3, p4, p5⟩ := HP.out _ hd1
                  clear hd1
                  go_wp2_with fail
                  go_loopw [19] (fun c wy => ∃ k : Nat, k ≤ i ∧ c = .int .i64 k ∧ (∀ j (hj : j < os.length), j < k → ¬ os[j].id = x.id) ∧ ∃ n, wy = w5.drewN n) (fun c _ => i - (intOf c).toNat)
                  case atStart => exact ⟨0, Nat.zero_le _, rfl, fun _ _ q => absurd q (by omega), 0, rfl⟩
                  case round =>
                    obtain ⟨k, hk, rfl, hs, nn, rfl⟩ := hrel
                    have HS := Lib.hid hs
                    have HB6 := Lib.hid (show Below w2.heap.size w2 (w5.drewN nn) from (HBW.out.trans (HBD.out.mono HBW.out.size)).trans (Go.Mem.below_drewN _ _ _))
                    by_cases hlt2 : k < i
                    · have hkl : k < os.length := by have := HNO1.out; omega
                      have a9 := below_cell (HBW.out.trans (HBD.out.mono HBW.out.size)) _ _ (HIDS.out k hkl)
                      have HNT2 := Lib.hid (HNT.out k hkl hlt2)
                      have HNK := Lib.hid (show ¬ os[k].id = x.id → ∀ j (hj : j < os.length), j < k + 1 → ¬ os[j].id = x.id from fun q j hj hjk => by
                        by_cases e : j = k
                        · subst e; exact q
                        · exact hs j hj (by omega))
                      obtain ⟨y, hy⟩ : ∃ y, os[k].id = y := ⟨_, rfl⟩
                      rw [hy] at a9 HNT2 HNK
                      have q3 : (0 : Int) ≤ (k : Int) := by omega
                      have q4 : (k : Int) < (NO : Int) := by omega
                      clear hy hs hkl
                      by_cases hxy : y = x.id
                      · have HN := Lib.hid (HNT2.out hxy)
                        have g1 : (y == x.id) = true := by rw [hxy]; simp
                        clear hxy
                        go_wp2_with fail
                        go_quiet (fail)
                        go_wp2_with fail
                        go_ret
                        exact ⟨by rw [(HN.out).1]; rfl, by rw [(HN.out).2]; exact HSA2.out _ (HB6.out.trans (Go.Mem.below_drewN _ _ _))⟩
                      · have HE := Lib.hid (HNK.out hxy)
                        have g1 : (y == x.id) = false := beq_eq_false_iff_ne.2 hxy
                        clear hxy
                        go_wp2_with fail
                        go_quiet (fail)
                        go_wp2_with fail
                        go_roundw
                        case rel => exact ⟨k + 1, by omega, by go_num, HE.out, _, rfl⟩
                        case measure => simp [intOf]; omega
                    · obtain rfl : k = i := by omega
                      have HNXT := Lib.hid (HNX.out HK1.out (by have := HK2.out; omega) HLOW.out hs)
                      have hb6 := Go.Mem.below_drewN w5.heap.size w5 nn
                      have e0 := below_cell hb6 _ _ p0
                      have e1 := below_cell hb6 _ _ p1
                      have e2 := below_cell hb6 _ _ p2
                      have e3 := below_cell hb6 _ _ p3
                      obtain ⟨w6, hw6⟩ : ∃ w6, w5.drewN nn = w6 := ⟨_, rfl⟩
                      rw [hw6] at e0 e1 e2 e3 HB6 ⊢
                      have hcp := copiedC (w := w6) x _ (HOI.out _ HB6.out) HLB.out.1 HLB.out.2
                      rw [HMN.out] at hcp
                      have HCP := Lib.hid hcp
                      have HWO := Lib.hid (show wo.heap.size ≤ w6.heap.size from by rw [← hw6]; exact Nat.le_trans HWR.out.size (Nat.le_trans HBD.out.size hb6.size))
                      have HM6 := Lib.hid (show LMid w2 K' (os.take k) _ w6 from by rw [← hw6]; exact ((HM.out.below HWR.out).below HBD.out).below hb6)
                      clear hs hlt2 hk hb6 hw6 hcp p0 p1 p2 p3 p4 p5
                      go_wp2_with fail
                      refine HCP.out.mono ?_
                      rintro _ w7 ⟨A6, C6, rfl, ⟨KO6, k1, k2, k3⟩, hb7⟩
                      obtain ⟨KK, hKK⟩ : ∃ KK : Nat → Prop, KK = fun b => K' b ∨ KO6 b ∨ (Value.slice A6 M C6).ownBlock = some b := ⟨_, rfl⟩
                      have HKK := Lib.hid hKK
                      have h7s := hb7.size
                      have hown7 := k1.own_lt
                      have HKK2 := Lib.hid (show ∀ b, KK b → w2.heap.size ≤ b ∧ b < w7.heap.size from fun b q => by
                        have e1 := HWO.out
                        have e2 := HB6.out.size
                        rw [hKK] at q
                        rcases q with q | q | q
                        · have := HKB.out b q; omega
                        · have := k2 b q; omega
                        · have := k3 b q; have := hown7 b q; omega)
                      have HM7 := Lib.hid (show LMid w2 KK (os.take k) _ w7 from by
                        have h := HM6.out.below hb7
                        refine ⟨h.1.more (fun b q => by rw [hKK]; exact .inl q) (fun b q z => ?_), h.2⟩
                        have hv := HM.out.1.own_lt b q
                        have e1 := HWO.out
                        rw [hKK] at z
                        rcases z with z | z | z
                        · obtain ⟨xs, o1, o2, o3⟩ := h.1
                          exact o2 b q z
                        · have := k2 b z; omega
                        · have := k3 b z; omega)
                      have HONX := Lib.hid (show On KK w7 (fun w' => ObjR w' (fun j => #[Value.string x.key, .int .i64 x.id, .int .i64 x.size, .slice A6 M C6].getD j undef) x) from by
                        obtain ⟨A9, C9, e9, h9, g1, g2, g3, g4⟩ := HOI.out _ HB6.out
                        exact (On.more k1.on (fun b q => by rw [hKK]; exact .inr q)).map fun w' q => ⟨rfl, rfl, rfl, by rw [HMN.out] at *; exact q, g1, g2, g3, g4⟩)
                      clear k1 k2 k3 hown7 hKK e0 e1 e2 e3 h7s hb7
                      go_wp2_with (at_builtin; refine wpList_append_builtX (K := KK) _ rfl (.tmp 388) (.tmp 391) 28 rfl TObj _ 56 Try.underlying28 infoObj rfl (by omega) _ _ rfl HM7.out.1 (fun b q => (HKK2.out b q).2) #[.string x.key, .int .i64 x.id, .int .i64 x.size, .slice A6 M C6] x _ rfl rfl rfl (objCells _ _ _ _ _ _) HONX.out (by have := HTL.out; omega) ?_; intro v8 w8 hbu8 ht8 hat8)
                      have HNEW := Lib.hid (show LMid w2 KK (os.take (k + 1)) v8 w8 from by rw [HTK.out]; exact HM7.out.next hbu8 ht8 hat8)
                      have HKK3 := Lib.hid (show ∀ b, KK b → w2.heap.size ≤ b ∧ b < w8.heap.size from fun b q => ⟨(HKK2.out b q).1, Nat.lt_of_lt_of_le (HKK2.out b q).2 ht8.size⟩)
                      clear hbu8 ht8 hat8
                      go_wp2_with fail
                      go_roundw
                      case rel => exact ⟨k + 1, KK, by omega, by go_num, HNEW.out, HKK3.out, HNXT.out⟩
                      case measure => simp [intOf]; omega
          · rw [decide_eq_false k1] at hrc
            have HRC := Lib.hid hrc
            have HN := Lib.hid (HNB.out k1)
            clear hrc k1 HNB HNI HNT
            refine wp_region_noPanic ?_
            refine wp_region_held_drew (S := (fun w' => Below wb.heap.size wb w' ∧ w'.cell? ⟨g5, 0, none⟩ = some (.string x.key) ∧ w'.cell? ⟨g5, 1, none⟩ = some (.int .i64 x.id) ∧ w'.cell? ⟨g5, 2, none⟩ = some (.int .i64 x.size) ∧ w'.cell? ⟨g5, 3, none⟩ = some (.slice A' M C') ∧ w'.cell? ⟨B, 1, none⟩ = some (.int .i64 id) ∧ w'.cell? ⟨B, 5, none⟩ = some (.slice (some ⟨b, o, none⟩) NO Co) )) (by kernel_rfl) ?_ (fun hHeld => ?_)
            · exact ⟨hd0, z0, z1, z2, z3, z4, z5⟩
            refine wpAnyH_take (i := 0) (oi := ?oiz110) (v := ?vz110) ?h1z110 (by kernel_rfl) (by kernel_rfl) (by kernel_rfl) (fun _ _ _ h => h) ?hyz110 (by assumption) ?_
            case h1z110 => (simp only [List.getElem?_toArray, List.getElem?_cons_zero]; rfl)
            case hyz110 => first | (refine Or.inr ⟨rfl, ?_⟩; rfl) | (refine Or.inl ⟨rfl, ?_⟩; intro w hSw; (try dsimp only at hSw); go_simp; done) | (refine Or.inl ⟨rfl, ?_⟩; intro w hSw; (try dsimp only at hSw); go_simp; with_reducible rfl)
            try simp only [Act.put, List.setIfInBounds_toArray, List.set_cons_zero, List.set_cons_succ]
            refine wpAnyH_take (i := 1) (oi := ?oiz111) (v := ?vz111) ?h1z111 (by kernel_rfl) (by kernel_rfl) (by kernel_rfl) (fun _ _ _ h => h) ?hyz111 (by assumption) ?_
            case h1z111 => (simp only [List.getElem?_toArray, List.getElem?_cons_succ, List.getElem?_cons_zero]; rfl)
            case hyz111 => first | (refine Or.inr ⟨rfl, ?_⟩; rfl) | (refine Or.inl ⟨rfl, ?_⟩; intro w hSw; (try dsimp only at hSw); go_simp; done) | (refine Or.inl ⟨rfl, ?_⟩; intro w hSw; (try dsimp only at hSw); go_simp; with_reducible rfl)
            try simp only [Act.put, List.setIfInBounds_toArray, List.set_cons_zero, List.set_cons_succ]
            refine wpAnyH_ready (rs := [2]) (by kernel_rfl) (by simp) ?_
            refine AllReadyH.cons (o := ?oiz109) ?h1z109 (fun K hK => ?_) ?morez109
            case h1z109 => (simp only [List.getElem?_toArray, List.getElem?_cons_succ, List.getElem?_cons_zero]; rfl)
            case morez109 => exact AllReadyH.nil
            go_simp
            go_at_call 30
            refine HRC.out.mono ?_
            rintro _ w5 ⟨rfl, hb5⟩
            have hd1 := nxt hd0 hb5 (Nat.le_refl _)
            have y0 := below_cell hb5 _ _ z0
            have y1 := below_cell hb5 _ _ z1
            have y2 := below_cell hb5 _ _ z2
            have y3 := below_cell hb5 _ _ z3
            have y4 := below_cell hb5 _ _ z4
            have y5 := below_cell hb5 _ _ z5
            clear hb5 hHeld
            refine hK.out _ _ ?_ (fun hHeld => ?_)
            · exact ⟨hd1, y0, y1, y2, y3, y4, y5⟩
            clear hK K
            try simp only [Act.put, List.setIfInBounds_toArray, List.set_cons_zero, List.set_cons_succ]
            refine wpAnyH_take (i := 3) (oi := ?oiz112) (v := ?vz112) ?h1z112 (by kernel_rfl) (by kernel_rfl) (by kernel_rfl) (fun _ _ _ h => h) ?hyz112 (by assumption) ?_
            case h1z112 => (simp only [List.getElem?_toArray, List.getElem?_cons_succ, List.getElem?_cons_zero]; rfl)
            case hyz112 => first | (refine Or.inr ⟨rfl, ?_⟩; rfl) | (refine Or.inl ⟨rfl, ?_⟩; intro w hSw; (try dsimp only at hSw); go_simp; done) | (refine Or.inl ⟨rfl, ?_⟩; intro w hSw; (try dsimp only at hSw); go_simp; with_reducible rfl)
            try simp only [Act.put, List.setIfInBounds_toArray, List.set_cons_zero, List.set_cons_succ]
            refine wpAnyH_take (i := 4) (oi := ?oiz113) (v := ?vz113) ?h1z113 (by kernel_rfl) (by kernel_rfl) (by kernel_rfl) (fun _ _ _ h => h) ?hyz113 (by assumption) ?_
            case h1z113 => (simp only [List.getElem?_toArray, List.getElem?_cons_succ, List.getElem?_cons_zero]; rfl)
            case hyz113 => first | (refine Or.inr ⟨rfl, ?_⟩; rfl) | (refine Or.inl ⟨rfl, ?_⟩; intro w hSw; (try dsimp only at hSw); go_simp; done) | (refine Or.inl ⟨rfl, ?_⟩; intro w hSw; (try dsimp only at hSw); go_simp; with_reducible rfl)
            try simp only [Act.put, List.setIfInBounds_toArray, List.set_cons_zero, List.set_cons_succ]
            refine wpAnyH_take (i := 5) (oi := ?oiz114) (v := ?vz114) ?h1z114 (by kernel_rfl) (by kernel_rfl) (by kernel_rfl) (fun _ _ _ h => h) ?hyz114 (by assumption) ?_
            case h1z114 => (simp only [List.getElem?_toArray, List.getElem?_cons_succ, List.getElem?_cons_zero]; rfl)
            case hyz114 => first | (refine Or.inr ⟨rfl, ?_⟩; rfl) | (refine Or.inl ⟨rfl, ?_⟩; intro w hSw; (try dsimp only at hSw); go_simp; done) | (refine Or.inl ⟨rfl, ?_⟩; intro w hSw; (try dsimp only at hSw); go_simp; with_reducible rfl)
            try simp only [Act.put, List.setIfInBounds_toArray, List.set_cons_zero, List.set_cons_succ]
            refine wpAnyH_take (i := 6) (oi := ?oiz115) (v := ?vz115) ?h1z115 (by kernel_rfl) (by kernel_rfl) (by kernel_rfl) (fun _ _ _ h => h) ?hyz115 (by assumption) ?_
            case h1z115 => (simp only [List.getElem?_toArray, List.getElem?_cons_succ, List.getElem?_cons_zero]; rfl)
            case hyz115 => first | (refine Or.inr ⟨rfl, ?_⟩; rfl) | (refine Or.inl ⟨rfl, ?_⟩; intro w hSw; (try dsimp only at hSw); go_simp; done) | (refine Or.inl ⟨rfl, ?_⟩; intro w hSw; (try dsimp only at hSw); go_simp; with_reducible rfl)
            try simp only [Act.put, List.setIfInBounds_toArray, List.set_cons_zero, List.set_cons_succ]
            refine wpAnyH_take (i := 7) (oi := ?oiz116) (v := ?vz116) ?h1z116 (by kernel_rfl) (by kernel_rfl) (by kernel_rfl) (fun _ _ _ h => h) ?hyz116 (by assumption) ?_
            case h1z116 => (simp only [List.getElem?_toArray, List.getElem?_cons_succ, List.getElem?_cons_zero]; rfl)
            case hyz116 => first | (refine Or.inr ⟨rfl, ?_⟩; rfl) | (refine Or.inl ⟨rfl, ?_⟩; intro w hSw; (try dsimp only at hSw); go_simp; done) | (refine Or.inl ⟨rfl, ?_⟩; intro w hSw; (try dsimp only at hSw); go_simp; with_reducible rfl)
            try simp only [Act.put, List.setIfInBounds_toArray, List.set_cons_zero, List.set_cons_succ]
            refine wpAnyH_take (i := 8) (oi := ?oiz117) (v := ?vz117) ?h1z117 (by kernel_rfl) (by kernel_rfl) (by kernel_rfl) (fun _ _ _ h => h) ?hyz117 (by assumption) ?_
            case h1z117 => (simp only [List.getElem?_toArray, List.getElem?_cons_succ, List.getElem?_cons_zero]; rfl)
            case hyz117 => first | (refine Or.inr ⟨rfl, ?_⟩; rfl) | (refine Or.inl ⟨rfl, ?_⟩; intro w hSw; (try dsimp only at hSw); go_simp; done) | (refine Or.inl ⟨rfl, ?_⟩; intro w hSw; (try dsimp only at hSw); go_simp; with_reducible rfl)
            try simp only [Act.put, List.setIfInBounds_toArray, List.set_cons_zero, List.set_cons_succ]
            refine wpAnyH_take (i := 9) (oi := ?oiz118) (v := ?vz118) ?h1z118 (by kernel_rfl) (by kernel_rfl) (by kernel_rfl) (fun _ _ _ h => h) ?hyz118 (by assumption) ?_
            case h1z118 => (simp only [List.getElem?_toArray, List.getElem?_cons_succ, List.getElem?_cons_zero]; rfl)
            case hyz118 => first | (refine Or.inr ⟨rfl, ?_⟩; rfl) | (refine Or.inl ⟨rfl, ?_⟩; intro w hSw; (try dsimp only at hSw); go_simp; done) | (refine Or.inl ⟨rfl, ?_⟩; intro w hSw; (try dsimp only at hSw); go_simp; with_reducible rfl)
            try simp only [Act.put, List.setIfInBounds_toArray, List.set_cons_zero, List.set_cons_succ]
            refine wpAnyH_take (i := 10) (oi := ?oiz119) (v := ?vz119) ?h1z119 (by kernel_rfl) (by kernel_rfl) (by kernel_rfl) (fun _ _ _ h => h) ?hyz119 (by assumption) ?_
            case h1z119 => (simp only [List.getElem?_toArray, List.getElem?_cons_succ, List.getElem?_cons_zero]; rfl)
            case hyz119 => first | (refine Or.inr ⟨rfl, ?_⟩; rfl) | (refine Or.inl ⟨rfl, ?_⟩; intro w hSw; (try dsimp only at hSw); go_simp; done) | (refine Or.inl ⟨rfl, ?_⟩; intro w hSw; (try dsimp only at hSw); go_simp; with_reducible rfl)
            try simp only [Act.put, List.setIfInBounds_toArray, List.set_cons_zero, List.set_cons_succ]
            refine wpAnyH_take (i := 11) (oi := ?oiz120) (v := ?vz120) ?h1z120 (by kernel_rfl) (by kernel_rfl) (by kernel_rfl) (fun _ _ _ h => h) ?hyz120 (by assumption) ?_
            case h1z120 => (simp only [List.getElem?_toArray, List.getElem?_cons_succ, List.getElem?_cons_zero]; rfl)
            case hyz120 => first | (refine Or.inr ⟨rfl, ?_⟩; rfl) | (refine Or.inl ⟨rfl, ?_⟩; intro w hSw; (try dsimp only at hSw); go_simp; done) | (refine Or.inl ⟨rfl, ?_⟩; intro w hSw; (try dsimp only at hSw); go_simp; with_reducible rfl)
            try simp only [Act.put, List.setIfInBounds_toArray, List.set_cons_zero, List.set_cons_succ]
            refine wpAnyH_take (i := 12) (oi := ?oiz121) (v := ?vz121) ?h1z121 (by kernel_rfl) (by kernel_rfl) (by kernel_rfl) (fun _ _ _ h => h) ?hyz121 (by assumption) ?_
            case h1z121 => (simp only [List.getElem?_toArray, List.getElem?_cons_succ, List.getElem?_cons_zero]; rfl)
            case hyz121 => first | (refine Or.inr ⟨rfl, ?_⟩; rfl) | (refine Or.inl ⟨rfl, ?_⟩; intro w hSw; (try dsimp only at hSw); go_simp; done) | (refine Or.inl ⟨rfl, ?_⟩; intro w hSw; (try dsimp only at hSw); go_simp; with_reducible rfl)
            try simp only [Act.put, List.setIfInBounds_toArray, List.set_cons_zero, List.set_cons_succ]
            refine wpAnyH_take (i := 13) (oi := ?oiz122) (v := ?vz122) ?h1z122 (by kernel_rfl) (by kernel_rfl) (by kernel_rfl) (fun _ _ _ h => h) ?hyz122 (by assumption) ?_
            case h1z122 => (simp only [List.getElem?_toArray, List.getElem?_cons_succ, List.getElem?_cons_zero]; rfl)
            case hyz122 => first | (refine Or.inr ⟨rfl, ?_⟩; rfl) | (refine Or.inl ⟨rfl, ?_⟩; intro w hSw; (try dsimp only at hSw); go_simp; done) | (refine Or.inl ⟨rfl, ?_⟩; intro w hSw; (try dsimp only at hSw); go_simp; with_reducible rfl)
            try simp only [Act.put, List.setIfInBounds_toArray, List.set_cons_zero, List.set_cons_succ]
            refine wpAnyH_take (i := 14) (oi := ?oiz123) (v := ?vz123) ?h1z123 (by kernel_rfl) (by kernel_rfl) (by kernel_rfl) (fun _ _ _ h => h) ?hyz123 (by assumption) ?_
            case h1z123 => (simp only [List.getElem?_toArray, List.getElem?_cons_succ, List.getElem?_cons_zero]; rfl)
            case hyz123 => first | (refine Or.inr ⟨rfl, ?_⟩; rfl) | (refine Or.inl ⟨rfl, ?_⟩; intro w hSw; (try dsimp only at hSw); go_simp; done) | (refine Or.inl ⟨rfl, ?_⟩; intro w hSw; (try dsimp only at hSw); go_simp; with_reducible rfl)
            try simp only [Act.put, List.setIfInBounds_toArray, List.set_cons_zero, List.set_cons_succ]
            refine wpAnyH_take (i := 15) (oi := ?oiz124) (v := ?vz124) ?h1z124 (by kernel_rfl) (by kernel_rfl) (by kernel_rfl) (fun _ _ _ h => h) ?hyz124 (by assumption) ?_
            case h1z124 => (simp only [List.getElem?_toArray, List.getElem?_cons_succ, List.getElem?_cons_zero]; rfl)
            case hyz124 => first | (refine Or.inr ⟨rfl, ?_⟩; rfl) | (refine Or.inl ⟨rfl, ?_⟩; intro w hSw; (try dsimp only at hSw); go_simp; done) | (refine Or.inl ⟨rfl, ?_⟩; intro w hSw; (try dsimp only at hSw); go_simp; with_reducible rfl)
            try simp only [Act.put, List.setIfInBounds_toArray, List.set_cons_zero, List.set_cons_succ]
            refine wpAnyH_take (i := 16) (oi := ?oiz125) (v := ?vz125) ?h1z125 (by kernel_rfl) (by kernel_rfl) (by kernel_rfl) (fun _ _ _ h => h) ?hyz125 (by assumption) ?_
            case h1z125 => (simp only [List.getElem?_toArray, List.getElem?_cons_succ, List.getElem?_cons_zero]; rfl)
            case hyz125 => first | (refine Or.inr ⟨rfl, ?_⟩; rfl) | (refine Or.inl ⟨rfl, ?_⟩; intro w hSw; (try dsimp only at hSw); go_simp; done) | (refine Or.inl ⟨rfl, ?_⟩; intro w hSw; (try dsimp only at hSw); go_simp; with_reducible rfl)
            try simp only [Act.put, List.setIfInBounds_toArray, List.set_cons_zero, List.set_cons_succ]
            refine wpAnyH_take (i := 17) (oi := ?oiz126) (v := ?vz126) ?h1z126 (by kernel_rfl) (by kernel_rfl) (by kernel_rfl) (fun _ _ _ h => h) ?hyz126 (by assumption) ?_
            case h1z126 => (simp only [List.getElem?_toArray, List.getElem?_cons_succ, List.getElem?_cons_zero]; rfl)
            case hyz126 => first | (refine Or.inr ⟨rfl, ?_⟩; rfl) | (refine Or.inl ⟨rfl, ?_⟩; intro w hSw; (try dsimp only at hSw); go_simp; done) | (refine Or.inl ⟨rfl, ?_⟩; intro w hSw; (try dsimp only at hSw); go_simp; with_reducible rfl)
            try simp only [Act.put, List.setIfInBounds_toArray, List.set_cons_zero, List.set_cons_succ]
            refine wpAnyH_take (i := 18) (oi := ?oiz127) (v := ?vz127) ?h1z127 (by kernel_rfl) (by kernel_rfl) (by kernel_rfl) (fun _ _ _ h => h) ?hyz127 (by assumption) ?_
            case h1z127 => (simp only [List.getElem?_toArray, List.getElem?_cons_succ, List.getElem?_cons_zero]; rfl)
            case hyz127 => first | (refine Or.inr ⟨rfl, ?_⟩; rfl) | (refine Or.inl ⟨rfl, ?_⟩; intro w hSw; (try dsimp only at hSw); go_simp; done) | (refine Or.inl ⟨rfl, ?_⟩; intro w hSw; (try dsimp only at hSw); go_simp; with_reducible rfl)
            try simp only [Act.put, List.setIfInBounds_toArray, List.set_cons_zero, List.set_cons_succ]
            refine wpAnyH_take (i := 19) (oi := ?oiz128) (v := ?vz128) ?h1z128 (by kernel_rfl) (by kernel_rfl) (by kernel_rfl) (fun _ _ _ h => h) ?hyz128 (by assumption) ?_
            case h1z128 => (simp only [List.getElem?_toArray, List.getElem?_cons_succ, List.getElem?_cons_zero]; rfl)
            case hyz128 => first | (refine Or.inr ⟨rfl, ?_⟩; rfl) | (refine Or.inl ⟨rfl, ?_⟩; intro w hSw; (try dsimp only at hSw); go_simp; done) | (refine Or.inl ⟨rfl, ?_⟩; intro w hSw; (try dsimp only at hSw); go_simp; with_reducible rfl)
            try simp only [Act.put, List.setIfInBounds_toArray, List.set_cons_zero, List.set_cons_succ]
            refine wpAnyH_take (i := 20) (oi := ?oiz129) (v := ?vz129) ?h1z129 (by kernel_rfl) (by kernel_rfl) (by kernel_rfl) (fun _ _ _ h => h) ?hyz129 (by assumption) ?_
            case h1z129 => (simp only [List.getElem?_toArray, List.getElem?_cons_succ, List.getElem?_cons_zero]; rfl)
            case hyz129 => first | (refine Or.inr ⟨rfl, ?_⟩; rfl) | (refine Or.inl ⟨rfl, ?_⟩; intro w hSw; (try dsimp only at hSw); go_simp; done) | (refine Or.inl ⟨rfl, ?_⟩; intro w hSw; (try dsimp only at hSw); go_simp; with_reducible rfl)
            try simp only [Act.put, List.setIfInBounds_toArray, List.set_cons_zero, List.set_cons_succ]
            refine wpAnyH_take (i := 21) (oi := ?oiz130) (v := ?vz130) ?h1z130 (by kernel_rfl) (by kernel_rfl) (by kernel_rfl) (fun _ _ _ h => h) ?hyz130 (by assumption) ?_
            case h1z130 => (simp only [List.getElem?_toArray, List.getElem?_cons_succ, List.getElem?_cons_zero]; rfl)
            case hyz130 => first | (refine Or.inr ⟨rfl, ?_⟩; rfl) | (refine Or.inl ⟨rfl, ?_⟩; intro w hSw; (try dsimp only at hSw); go_simp; done) | (refine Or.inl ⟨rfl, ?_⟩; intro w hSw; (try dsimp only at hSw); go_simp; with_reducible rfl)
            try simp only [Act.put, List.setIfInBounds_toArray, List.set_cons_zero, List.set_cons_succ]
            refine wpAnyH_take (i := 22) (oi := ?oiz131) (v := ?vz131) ?h1z131 (by kernel_rfl) (by kernel_rfl) (by kernel_rfl) (fun _ _ _ h => h) ?hyz131 (by assumption) ?_
            case h1z131 => (simp only [List.getElem?_toArray, List.getElem?_cons_succ, List.getElem?_cons_zero]; rfl)
            case hyz131 => first | (refine Or.inr ⟨rfl, ?_⟩; rfl) | (refine Or.inl ⟨rfl, ?_⟩; intro w hSw; (try dsimp only at hSw); go_simp; done) | (refine Or.inl ⟨rfl, ?_⟩; intro w hSw; (try dsimp only at hSw); go_simp; with_reducible rfl)
            try simp only [Act.put, List.setIfInBounds_toArray, List.set_cons_zero, List.set_cons_succ]
            refine wpAnyH_take (i := 23) (oi := ?oiz132) (v := ?vz132) ?h1z132 (by kernel_rfl) (by kernel_rfl) (by kernel_rfl) (fun _ _ _ h => h) ?hyz132 (by assumption) ?_
            case h1z132 => (simp only [List.getElem?_toArray, List.getElem?_cons_succ, List.getElem?_cons_zero]; rfl)
            case hyz132 => first | (refine Or.inr ⟨rfl, ?_⟩; rfl) | (refine Or.inl ⟨rfl, ?_⟩; intro w hSw; (try dsimp only at hSw); go_simp; done) | (refine Or.inl ⟨rfl, ?_⟩; intro w hSw; (try dsimp only at hSw); go_simp; with_reducible rfl)
            try simp only [Act.put, List.setIfInBounds_toArray, List.set_cons_zero, List.set_cons_succ]
            refine wpAnyH_take (i := 24) (oi := ?oiz133) (v := ?vz133) ?h1z133 (by kernel_rfl) (by kernel_rfl) (by kernel_rfl) (fun _ _ _ h => h) ?hyz133 (by assumption) ?_
            case h1z133 => (simp only [List.getElem?_toArray, List.getElem?_cons_succ, List.getElem?_cons_zero]; rfl)
            case hyz133 => first | (refine Or.inr ⟨rfl, ?_⟩; rfl) | (refine Or.inl ⟨rfl, ?_⟩; intro w hSw; (try dsimp only at hSw); go_simp; done) | (refine Or.inl ⟨rfl, ?_⟩; intro w hSw; (try dsimp only at hSw); go_simp; with_reducible rfl)
            try simp only [Act.put, List.setIfInBounds_toArray, List.set_cons_zero, List.set_cons_succ]
            refine wpAnyH_take (i := 25) (oi := ?oiz134) (v := ?vz134) ?h1z134 (by kernel_rfl) (by kernel_rfl) (by kernel_rfl) (fun _ _ _ h => h) ?hyz134 (by assumption) ?_
            case h1z134 => (simp only [List.getElem?_toArray, List.getElem?_cons_succ, List.getElem?_cons_zero]; rfl)
            case hyz134 => first | (refine Or.inr ⟨rfl, ?_⟩; rfl) | (refine Or.inl ⟨rfl, ?_⟩; intro w hSw; (try dsimp only at hSw); go_simp; done) | (refine Or.inl ⟨rfl, ?_⟩; intro w hSw; (try dsimp only at hSw); go_simp; with_reducible rfl)
            try simp only [Act.put, List.setIfInBounds_toArray, List.set_cons_zero, List.set_cons_succ]
            refine wpAnyH_take (i := 26) (oi := ?oiz135) (v := ?vz135) ?h1z135 (by kernel_rfl) (by kernel_rfl) (by kernel_rfl) (fun _ _ _ h => h) ?hyz135 (by assumption) ?_
            case h1z135 => (simp only [List.getElem?_toArray, List.getElem?_cons_succ, List.getElem?_cons_zero]; rfl)
            case hyz135 => first | (refine Or.inr ⟨rfl, ?_⟩; rfl) | (refine Or.inl ⟨rfl, ?_⟩; intro w hSw; (try dsimp only at hSw); go_simp; done) | (refine Or.inl ⟨rfl, ?_⟩; intro w hSw; (try dsimp only at hSw); go_simp; with_reducible rfl)
            try simp only [Act.put, List.setIfInBounds_toArray, List.set_cons_zero, List.set_cons_succ]
            refine wpAnyH_done (by kernel_rfl) ?_ _
            refine NoPanic.normal ?_
            clear hHeld
            all_goals
              have HBB := Lib.hid (HBW.out.trans (hd1.mono HBW.out.size))
              clear z0 z1 z2 z3 z4 z5 y0 y1 y2 y3 y4 y5 hd0 hd1
              go_wp2_with fail
              go_ret
              exact ⟨by rw [(HN.out).1]; rfl, by rw [(HN.out).2]; exact HSA2.out _ HBB.out⟩
        · obtain rfl : i = NO := by omega
          have etk : os.take i = os := List.take_of_length_le (by rw [HNO1.out]; omega)
          rw [etk] at hal hm
          have HY := Lib.hid (HYES5.out hal)
          clear HM HAL HKB hlt hi hal etk
          have hdi := HDS2.out.below hm.2.2
          obtain ⟨v3, w3, hr3, hbu3, hb3, A3, C3, e3⟩ := int_app (P := Try.prog) (wo.drewN 1) 29 29 3 Try.underlying29 infoInt Ad nd Cd ds (hdi.below (Go.Mem.below_drewN _ _ _)) (by have := HDV.out; omega)
          subst e3
          have hb3' : Below wo.heap.size wo w3 := (Go.Mem.below_drewN wo.heap.size wo 1).trans hb3
          have z1 := HX.out.size
          have z2 := HB2.out.size
          have z3 := hm.2.2.size
          have z4 := hb3'.size
          have hbw : Below w.heap.size w wo := (HX.out.trans (HB2.out.mono z1)).trans (hm.2.2.mono (Nat.le_trans z1 z2))
          have hq0 := HH.out.on.news (hbw.trans (hb3'.mono hbw.size))
          have hr := HH.out.lt r HH.out.gr
          have hV : ∀ b, (Value.slice Au i Cu).ownBlock = some b → w2.heap.size ≤ b ∧ b < wo.heap.size := fun b q => ⟨hm.2.1 b q, hm.1.own_lt b q⟩
          have hown : ∀ b, (Value.slice A3 ds.length C3).ownBlock = some b → wo.heap.size ≤ b ∧ b < w3.heap.size := hbu3.own_lt
          have hq1 := hq0.objs (K' := fun b => K b ∨ K' b) (V' := .slice Au i Cu) (L := os) ((hm.1.below hb3').more (fun b q => .inr q) (fun b q z => by
            have := hV b q
            rcases z with z | z
            · have := HH.out.lt b (HH.out.gk b z).1; omega
            · obtain ⟨xs, o1, o2, o3⟩ := hm.1
              exact o2 b q z)) (fun b q => .inl q) (fun b q => by
            rcases q with q | q
            · exact hq0.now.gk b q
            · have := hK' b q
              exact ⟨.inr (by omega), by omega⟩) (fun b q => by
            have := hV b q
            exact ⟨.inr (by omega), by omega⟩)
          have hq3 := (hq1.last id).epoch size
          have hst3 : Turned (fun b => b = r) w3 (((w3.setCell ⟨r, 2, none⟩ (.slice Au i Cu)).setCell ⟨r, 5, none⟩ (.int .i64 id)).setCell ⟨r, 4, none⟩ (.int .i64 size)) := ((Turned.set (F := fun b => b = r) (b := r) _ rfl).trans (Turned.set (F := fun b => b = r) (b := r) _ rfl) (Grown.refl _ _)).trans (Turned.set (F := fun b => b = r) (b := r) _ rfl) (Grown.refl _ _)
          have hq5 := hq3.states (S' := .slice A3 ds.length C3) (l := ds) ((ints_own hbu3).turned hst3 (fun b q z => by have := hown b z; omega)) (fun b q => by
            have h1 := hown b q
            exact ⟨.inr (by omega), by omega, fun e => by have := hV b e; omega⟩)
          have HFIN := Lib.hid hq5.done
          have y2 := hq0.now.cell (i := 2) (by omega)
          have y3 := hq0.now.cell (i := 3) (by omega)
          have y4 := hq0.now.cell (i := 4) (by omega)
          have y5 := hq0.now.cell (i := 5) (by omega)
          have l2 := hq0.now.free 2
          have l3 := hq0.now.free 3
          have l4 := hq0.now.free 4
          have l5 := hq0.now.free 5
          rw [HND.out] at hr3 HFIN
          have HR3 := Lib.hid hr3
          have g1 := below_cell hm.2.2 _ _ s2
          have g2 := below_cell hm.2.2 _ _ s3
          have g6 := below_cell hm.2.2 _ _ s6
          have HRB := Lib.hid (show ¬ r = B from fun e => by have := HBE.out; omega)
          have S3 := Lib.hid (show w3.cell? ⟨B, 1, none⟩ = some (.int .i64 id) ∧ w3.cell? ⟨B, 2, none⟩ = some (.int .i64 size) ∧ w3.cell? ⟨B, 6, none⟩ = some (.slice Ad nd Cd) from ⟨below_cell hb3' _ _ g1, below_cell hb3' _ _ g2, below_cell hb3' _ _ g6⟩)
          clear hm hK' hdi hr3 hbu3 hb3 hb3' hbw hq0 hq1 hq3 hst3 hq5 hown hV hr z1 z2 z3 z4 hb
          go_wp2_with fail
          clear e4 e5 s0 s1 s2 s3 s5 s6
          go_region_held3 (fun w' => w'.cell? ⟨B, 1, none⟩ = some (.int .i64 id) ∧ w'.cell? ⟨B, 2, none⟩ = some (.int .i64 size) ∧ w'.cell? ⟨B, 6, none⟩ = some (.slice Ad nd Cd))
            (first | go_keep | with_reducible exact S3.out | with_reducible exact three_kept HRB.out S3.out | with_reducible exact three_kept HRB.out (three_kept HRB.out S3.out) | with_reducible exact three_kept HRB.out (three_kept HRB.out (three_kept HRB.out S3.out)) | with_reducible exact three_kept HRB.out (three_kept HRB.out (three_kept HRB.out (three_kept HRB.out S3.out))))
            (refine step_append_run _ _ _ rfl (.tmp 402) (.tmp 404) _ _ rfl _ _ rfl rfl HR3.out ?_)
          all_goals
            go_wp2_with fail
            go_ret
            exact ⟨by rw [(HY.out).1]; rfl, by rw [(HY.out).2]; first | exact HFIN.out | exact HFIN.out.below (Go.Mem.below_drewN _ _ _)⟩
    · rw [decide_eq_false k5] at hdr
      have HN := Lib.hid (HNO.out (fun q => k5 q.2.2.2.2.1))
      have HD := Lib.hid (hdr 0)
      clear k1 k2 k3 k4 k5 HNO HYES hdr
      go_wp2_with fail
      refine HD.out.mono ?_
      rintro _ w2 ⟨rfl, n2, rfl⟩
      go_wp2_with fail
      go_ret
      exact ⟨by rw [(HN.out).1]; rfl, by rw [(HN.out).2]; exact HSA1.out _ (Go.Mem.below_drewN _ _ _)⟩
end Go.Proofs.Ytlgdchflegflkaa.Tbl
