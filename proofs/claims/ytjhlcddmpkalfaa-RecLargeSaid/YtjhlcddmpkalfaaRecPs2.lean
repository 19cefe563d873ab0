/- The program's own answer whether two records are the same: objects, records. -/
import Derived.Test.YtjhlcddmpkalfaaRecPs
import Derived.Test.YtjhlcddmpkalfaaRecRd8
namespace Go.Proofs.Ytjhlcddmpkalfaa.Rec
set_option linter.unusedVariables false
open Go.ChangeShapes Go.WideShapes Go.ChangeAt Go.RowKit
open Go.Mem RecM
theorem pStpsC (l m : List StpD) (v u : Value) (w : World) (h : Stps w v l) (g : Stps w u m) : Calls Try.prog 25 #[v, u] w (Saw w (eqB l m)) := by
  have H := Lib.hid h
  have G := Lib.hid g
  clear h g
  go_enter Try.func25, Try.ntmps25
  go_wp2_with fail
  refine (pStpsEq l m _ _ _ H.out G.out).mono ?_
  rintro _ w2 ⟨rfl, hb⟩
  have HB := Lib.hid hb
  clear hb
  go_wp2
  go_ret
  exact ⟨rfl, HB.out⟩
set_option maxHeartbeats 1000000 in
theorem pObjC (w : World) (x y : ObjD) (A A2 : Option Addr) (C C2 : Nat) (hi : Stps w (.slice A x.stripes.length C) x.stripes) (gi : Stps w (.slice A2 y.stripes.length C2) y.stripes) :
    Calls Try.prog 27 #[.agg #[.string x.key, .int .i64 x.id, .int .i64 x.size, .slice A x.stripes.length C], .agg #[.string y.key, .int .i64 y.id, .int .i64 y.size, .slice A2 y.stripes.length C2]] w (Saw w (eqB x y)) := by
  have hbl : Below w.heap.size w ((w.alloc (.cells #[.string x.key, .int .i64 x.id, .int .i64 x.size, .slice A x.stripes.length C] 44)).alloc (.cells #[.string y.key, .int .i64 y.id, .int .i64 y.size, .slice A2 y.stripes.length C2] 44)) := ((Below.refl _ _).alloc (Nat.le_refl _) _).alloc (by simp) _
  have HI := Lib.hid (hi.below hbl)
  have GI := Lib.hid (gi.below hbl)
  have HBL := Lib.hid hbl
  clear hi gi hbl
  by_cases ek : x.key = y.key
  · have fk := str_same ek
    by_cases e0 : x.id = y.id
    · have f0 := beq_yes e0
      by_cases e1 : x.size = y.size
      · have f1 := beq_yes e1
        by_cases e2 : x.stripes = y.stripes
        · have HU := Lib.hid (eqB_yes (obj_eq ek e0 e1 e2))
          have HF := Lib.hid (eqB_yes e2)
          clear ek e0 e1 e2
          go_enter Try.func27, Try.ntmps27
          go_wp2_with fail
          refine (pStpsC x.stripes y.stripes _ _ _ HI.out GI.out).mono ?_
          rintro _ w2 ⟨rfl, hb⟩
          rw [HF.out]
          have HB := Lib.hid (below_nxt HBL.out hb (Nat.le_refl _))
          clear hb
          go_wp2
          go_ret
          exact ⟨ret_bool HU.out.symm, HB.out⟩
        · have HU := Lib.hid (eqB_no (fun e : x = y => e2 (by rw [e])))
          have HF := Lib.hid (eqB_no e2)
          clear ek e0 e1 e2
          go_enter Try.func27, Try.ntmps27
          go_wp2_with fail
          refine (pStpsC x.stripes y.stripes _ _ _ HI.out GI.out).mono ?_
          rintro _ w2 ⟨rfl, hb⟩
          rw [HF.out]
          have HB := Lib.hid (below_nxt HBL.out hb (Nat.le_refl _))
          clear hb
          go_wp2
          go_ret
          exact ⟨ret_bool HU.out.symm, HB.out⟩
      · have HU := Lib.hid (eqB_no (fun e : x = y => e1 (by rw [e])))
        have f1 := beq_no e1
        clear ek e0 e1
        go_enter Try.func27, Try.ntmps27
        go_wp2
        go_ret
        exact ⟨ret_bool HU.out.symm, HBL.out⟩
    · have HU := Lib.hid (eqB_no (fun e : x = y => e0 (by rw [e])))
      have f0 := beq_no e0
      clear ek e0
      go_enter Try.func27, Try.ntmps27
      go_wp2
      go_ret
      exact ⟨ret_bool HU.out.symm, HBL.out⟩
  · have HU := Lib.hid (eqB_no (fun e : x = y => ek (by rw [e])))
    have fk := str_not ek
    clear ek
    go_enter Try.func27, Try.ntmps27
    go_wp2
    go_ret
    exact ⟨ret_bool HU.out.symm, HBL.out⟩
set_option maxHeartbeats 2000000 in
theorem pObjsEq (l m : List ObjD) (v u : Value) (w : World) (h : Objs w v l) (g : Objs w u m) :
    Calls Try.prog 26 #[v, u, .func (.func 27) #[] #[]] w (Saw w (eqB l m)) := by
  obtain ⟨A, C, rfl, h1, h2, -⟩ := h.shape
  obtain ⟨A1, C1, rfl, g1, g2, -⟩ := g.shape
  by_cases hl : l.length = m.length
  · have HL := Lib.hid hl
    rw [← hl] at g g1 ⊢
    obtain ⟨L, hL⟩ : ∃ L, l.length = L := ⟨_, rfl⟩
    have HLL := Lib.hid hL
    rw [hL] at h g h1 g1 ⊢
    clear hl hL
    have hq : ((L : Int) != (L : Int)) = false := by simp
    go_enter Try.func26, Try.ntmps26
    go_wp2
    clear hq
    go_loopw [17] (fun c wr => ∃ k : Nat, k ≤ L ∧ AgreeF l m k ∧ c = .int .i64 k ∧ Below w.heap.size w wr) (fun c _ => L - (intOf c).toNat)
    case atStart => exact ⟨0, Nat.zero_le _, (fun i _ _ hi => absurd hi (by omega)), rfl, Below.refl _ _⟩
    case round =>
      obtain ⟨k, hk, hu, rfl, hbw⟩ := hrel
      have HBW := Lib.hid hbw
      by_cases hlt : k < L
      · have hltl : k < l.length := by have := HLL.out; omega
        have hltm : k < m.length := by have := HL.out; omega
        obtain ⟨b, o, A', C', rfl, c0, c1, c2, c3, hi, -, -, -, -⟩ := (h.below hbw).at hltl
        obtain ⟨b1, o1, A2, C2, rfl, d0, d1, d2, d3, gi, -, -, -, -⟩ := (g.below hbw).at hltm
        obtain ⟨x, hx⟩ : ∃ x, l[k] = x := ⟨_, rfl⟩
        obtain ⟨y, hy⟩ : ∃ y, m[k] = y := ⟨_, rfl⟩
        have HSU := Lib.hid (fun e => hu.succ hltl hltm e)
        have HNO := Lib.hid (fun e => agree_no hltl hltm e)
        rw [hx, hy] at HSU HNO
        rw [hx] at c0 c1 c2 c3 hi
        rw [hy] at d0 d1 d2 d3 gi
        have q1 : (0 : Int) ≤ (k : Int) := by omega
        have q2 : (k : Int) < (L : Int) := by omega
        have HI := Lib.hid hi
        have GI := Lib.hid gi
        clear hx hy hltl hltm hi gi hu hbw
        have hbx : Below wr.heap.size wr ((wr.alloc (.cells #[.string x.key, .int .i64 x.id, .int .i64 x.size, .slice A' x.stripes.length C'] 44)).alloc (.cells #[.string y.key, .int .i64 y.id, .int .i64 y.size, .slice A2 y.stripes.length C2] 44)) := ((Below.refl _ _).alloc (Nat.le_refl _) _).alloc (by simp) _
        have HBX := Lib.hid hbx
        have HII := Lib.hid (HI.out.below hbx)
        have HGG := Lib.hid (GI.out.below hbx)
        have hbx1 : Below wr.heap.size wr (wr.alloc (.cells #[.string x.key, .int .i64 x.id, .int .i64 x.size, .slice A' x.stripes.length C'] 44)) := (Below.refl _ _).alloc (Nat.le_refl _) _
        have D0 := below_cell hbx1 _ _ d0
        have D1 := below_cell hbx1 _ _ d1
        have D2 := below_cell hbx1 _ _ d2
        have D3 := below_cell hbx1 _ _ d3
        clear hbx hbx1 d0 d1 d2 d3
        by_cases exy : x = y
        · have HU := Lib.hid (HSU.out exy)
          have HE := Lib.hid (eqB_yes exy)
          clear exy
          go_wp2_with fail
          refine (pObjC _ x y _ _ _ _ HII.out HGG.out).mono ?_
          rintro _ w2 ⟨rfl, hb2⟩
          rw [HE.out]
          have HB2 := Lib.hid (below_nxt HBW.out (below_nxt HBX.out hb2 (Nat.le_refl _)) (Nat.le_refl _))
          clear hb2
          go_wp2
          go_roundw
          case rel => exact ⟨k + 1, by omega, HU.out, by go_num, HB2.out⟩
          case measure => simp [intOf]; omega
        · have HN := Lib.hid (HNO.out exy)
          have HE := Lib.hid (eqB_no exy)
          clear exy
          go_wp2_with fail
          refine (pObjC _ x y _ _ _ _ HII.out HGG.out).mono ?_
          rintro _ w2 ⟨rfl, hb2⟩
          rw [HE.out]
          have HB2 := Lib.hid (below_nxt HBW.out (below_nxt HBX.out hb2 (Nat.le_refl _)) (Nat.le_refl _))
          clear hb2
          go_wp2
          go_ret
          exact ⟨ret_bool HN.out.symm, HB2.out⟩
      · obtain rfl : k = L := by omega
        have HY := Lib.hid (agree_yes HL.out (by rw [HLL.out]; exact hu))
        clear hbw
        go_wp2
        go_ret
        exact ⟨ret_bool HY.out.symm, HBW.out⟩
  · have HN := Lib.hid (agree_len hl)
    have hq : ((l.length : Int) != (m.length : Int)) = true := by rw [bne_iff_ne]; omega
    clear hl
    go_enter Try.func26, Try.ntmps26
    go_wp2
    go_ret
    exact ⟨ret_bool HN.out.symm, Below.refl _ _⟩
set_option maxHeartbeats 8000000 in
theorem psameC (W : World) (V U : Value) (r q : RecD) (h : RecV W V r) (g : RecV W U q) : Calls Try.prog 15 #[V, U] W (Saw W (eqB r q)) := by
  obtain ⟨As, Ao, Ad, Cs, Co, Cd, rfl, h⟩ := h
  obtain ⟨As2, Ao2, Ad2, Cs2, Co2, Cd2, rfl, g⟩ := g
  unfold recVal
  obtain ⟨W1, hW1⟩ : ∃ W1, W.alloc (.cells #[.int .i64 r.kind, .int .i64 r.id, .int .i64 r.size, .string r.key, .slice As r.stripes.length Cs, .slice Ao r.objects.length Co, .slice Ad r.drives.length Cd] 26) = W1 := ⟨_, rfl⟩
  have hb0 : Below W.heap.size W ((W.alloc (.cells #[.int .i64 r.kind, .int .i64 r.id, .int .i64 r.size, .string r.key, .slice As r.stripes.length Cs, .slice Ao r.objects.length Co, .slice Ad r.drives.length Cd] 26)).alloc (.cells #[.int .i64 q.kind, .int .i64 q.id, .int .i64 q.size, .string q.key, .slice As2 q.stripes.length Cs2, .slice Ao2 q.objects.length Co2, .slice Ad2 q.drives.length Cd2] 26)) := ((Below.refl _ _).alloc (Nat.le_refl _) _).alloc (by simp) _
  have HB0 := Lib.hid hb0
  have HBW := Lib.hid hb0
  have HLE := Lib.hid (show W.heap.size ≤ (((W.alloc (.cells #[.int .i64 r.kind, .int .i64 r.id, .int .i64 r.size, .string r.key, .slice As r.stripes.length Cs, .slice Ao r.objects.length Co, .slice Ad r.drives.length Cd] 26)).alloc (.cells #[.int .i64 q.kind, .int .i64 q.id, .int .i64 q.size, .string q.key, .slice As2 q.stripes.length Cs2, .slice Ao2 q.objects.length Co2, .slice Ad2 q.drives.length Cd2] 26))).heap.size by simp; omega)
  have HR := Lib.hid h
  have HQ := Lib.hid g
  have HC := Lib.hid (fun (w' : World) (hb : Below (((W.alloc (.cells #[.int .i64 r.kind, .int .i64 r.id, .int .i64 r.size, .string r.key, .slice As r.stripes.length Cs, .slice Ao r.objects.length Co, .slice Ad r.drives.length Cd] 26)).alloc (.cells #[.int .i64 q.kind, .int .i64 q.id, .int .i64 q.size, .string q.key, .slice As2 q.stripes.length Cs2, .slice Ao2 q.objects.length Co2, .slice Ad2 q.drives.length Cd2] 26))).heap.size ((W.alloc (.cells #[.int .i64 r.kind, .int .i64 r.id, .int .i64 r.size, .string r.key, .slice As r.stripes.length Cs, .slice Ao r.objects.length Co, .slice Ad r.drives.length Cd] 26)).alloc (.cells #[.int .i64 q.kind, .int .i64 q.id, .int .i64 q.size, .string q.key, .slice As2 q.stripes.length Cs2, .slice Ao2 q.objects.length Co2, .slice Ad2 q.drives.length Cd2] 26)) w') i hi => (below_cell hb _ _ (below_cell ((Below.refl _ _).alloc (Nat.le_refl _) _) _ _ (row_cells W #[.int .i64 r.kind, .int .i64 r.id, .int .i64 r.size, .string r.key, .slice As r.stripes.length Cs, .slice Ao r.objects.length Co, .slice Ad r.drives.length Cd] 26 i hi))))
  have hrc := row_cells (W.alloc (.cells #[.int .i64 r.kind, .int .i64 r.id, .int .i64 r.size, .string r.key, .slice As r.stripes.length Cs, .slice Ao r.objects.length Co, .slice Ad r.drives.length Cd] 26)) #[.int .i64 q.kind, .int .i64 q.id, .int .i64 q.size, .string q.key, .slice As2 q.stripes.length Cs2, .slice Ao2 q.objects.length Co2, .slice Ad2 q.drives.length Cd2] 26
  rw [show (W.alloc (.cells #[.int .i64 r.kind, .int .i64 r.id, .int .i64 r.size, .string r.key, .slice As r.stripes.length Cs, .slice Ao r.objects.length Co, .slice Ad r.drives.length Cd] 26)).heap.size = W.heap.size + 1 by simp] at hrc
  have HD := Lib.hid (fun (w' : World) (hb : Below (((W.alloc (.cells #[.int .i64 r.kind, .int .i64 r.id, .int .i64 r.size, .string r.key, .slice As r.stripes.length Cs, .slice Ao r.objects.length Co, .slice Ad r.drives.length Cd] 26)).alloc (.cells #[.int .i64 q.kind, .int .i64 q.id, .int .i64 q.size, .string q.key, .slice As2 q.stripes.length Cs2, .slice Ao2 q.objects.length Co2, .slice Ad2 q.drives.length Cd2] 26))).heap.size ((W.alloc (.cells #[.int .i64 r.kind, .int .i64 r.id, .int .i64 r.size, .string r.key, .slice As r.stripes.length Cs, .slice Ao r.objects.length Co, .slice Ad r.drives.length Cd] 26)).alloc (.cells #[.int .i64 q.kind, .int .i64 q.id, .int .i64 q.size, .string q.key, .slice As2 q.stripes.length Cs2, .slice Ao2 q.objects.length Co2, .slice Ad2 q.drives.length Cd2] 26)) w') i hi => (below_cell hb _ _ (hrc i hi)))
  clear hW1 h g hb0 hrc
  by_cases e0 : r.kind = q.kind
  · have f0 := beq_yes e0
    by_cases e1 : r.id = q.id
    · have f1 := beq_yes e1
      by_cases e2 : r.size = q.size
      · have f2 := beq_yes e2
        by_cases e3 : r.key = q.key
        · have f3 := str_same e3
          by_cases e4 : r.stripes = q.stripes
          · have HF4 := Lib.hid (eqB_yes e4)
            by_cases e5 : r.objects = q.objects
            · have HF5 := Lib.hid (eqB_yes e5)
              by_cases e6 : r.drives = q.drives
              · have HF6 := Lib.hid (eqB_yes e6)
                have HU := Lib.hid (eqB_yes (rec_eq e0 e1 e2 e3 e4 e5 e6))
                clear e0 e1 e2 e3 e4 e5 e6
                go_enter Try.func15, Try.ntmps15
                go_wp2_with fail
                refine (pStpsC r.stripes q.stripes _ _ _ (HR.out.s.below HB0.out) (HQ.out.s.below HB0.out)).mono ?_
                rintro _ w1 ⟨rfl, hb1'⟩
                have hb1 := below_nxt (Below.refl _ _) hb1' (Nat.le_refl _)
                have HB1 := Lib.hid hb1
                rw [HF4.out]
                have c4 := HC.out w1 hb1 5 (by simp)
                have c5 := HC.out w1 hb1 6 (by simp)
                have d4 := HD.out w1 hb1 5 (by simp)
                have d5 := HD.out w1 hb1 6 (by simp)
                clear hb1 hb1'
                go_wp2_with fail
                refine (pObjsEq r.objects q.objects _ _ _ ((HR.out.o.below HB0.out).below HB1.out) ((HQ.out.o.below HB0.out).below HB1.out)).mono ?_
                rintro _ w2 ⟨rfl, hb2'⟩
                have hb2 := below_nxt HB1.out hb2' (Nat.le_refl _)
                have HB2 := Lib.hid hb2
                rw [HF5.out]
                clear c4 c5 d4 d5
                have c5 := HC.out w2 hb2 6 (by simp)
                have d5 := HD.out w2 hb2 6 (by simp)
                clear hb2 hb2'
                go_wp2_with fail
                refine (pIntsC r.drives q.drives _ _ _ ((HR.out.d.below HB0.out).below HB2.out) ((HQ.out.d.below HB0.out).below HB2.out)).mono ?_
                rintro _ _ ⟨rfl, n, rfl⟩
                rw [HF6.out]
                have HB3 := Lib.hid (below_nxt HB2.out (below_drewN _ w2 n) (Nat.le_refl _))
                go_wp2
                go_ret
                exact ⟨ret_bool HU.out.symm, HBW.out.trans (HB3.out.mono HLE.out)⟩
              · have HU := Lib.hid (eqB_no (fun e : r = q => e6 (by rw [e])))
                have HF6 := Lib.hid (eqB_no e6)
                clear e0 e1 e2 e3 e4 e5 e6
                go_enter Try.func15, Try.ntmps15
                go_wp2_with fail
                refine (pStpsC r.stripes q.stripes _ _ _ (HR.out.s.below HB0.out) (HQ.out.s.below HB0.out)).mono ?_
                rintro _ w1 ⟨rfl, hb1'⟩
                have hb1 := below_nxt (Below.refl _ _) hb1' (Nat.le_refl _)
                have HB1 := Lib.hid hb1
                rw [HF4.out]
                have c4 := HC.out w1 hb1 5 (by simp)
                have c5 := HC.out w1 hb1 6 (by simp)
                have d4 := HD.out w1 hb1 5 (by simp)
                have d5 := HD.out w1 hb1 6 (by simp)
                clear hb1 hb1'
                go_wp2_with fail
                refine (pObjsEq r.objects q.objects _ _ _ ((HR.out.o.below HB0.out).below HB1.out) ((HQ.out.o.below HB0.out).below HB1.out)).mono ?_
                rintro _ w2 ⟨rfl, hb2'⟩
                have hb2 := below_nxt HB1.out hb2' (Nat.le_refl _)
                have HB2 := Lib.hid hb2
                rw [HF5.out]
                clear c4 c5 d4 d5
                have c5 := HC.out w2 hb2 6 (by simp)
                have d5 := HD.out w2 hb2 6 (by simp)
                clear hb2 hb2'
                go_wp2_with fail
                refine (pIntsC r.drives q.drives _ _ _ ((HR.out.d.below HB0.out).below HB2.out) ((HQ.out.d.below HB0.out).below HB2.out)).mono ?_
                rintro _ _ ⟨rfl, n, rfl⟩
                rw [HF6.out]
                have HB3 := Lib.hid (below_nxt HB2.out (below_drewN _ w2 n) (Nat.le_refl _))
                go_wp2
                go_ret
                exact ⟨ret_bool HU.out.symm, HBW.out.trans (HB3.out.mono HLE.out)⟩
            · have HU := Lib.hid (eqB_no (fun e : r = q => e5 (by rw [e])))
              have HF5 := Lib.hid (eqB_no e5)
              clear e0 e1 e2 e3 e4 e5
              go_enter Try.func15, Try.ntmps15
              go_wp2_with fail
              refine (pStpsC r.stripes q.stripes _ _ _ (HR.out.s.below HB0.out) (HQ.out.s.below HB0.out)).mono ?_
              rintro _ w1 ⟨rfl, hb1'⟩
              have hb1 := below_nxt (Below.refl _ _) hb1' (Nat.le_refl _)
              have HB1 := Lib.hid hb1
              rw [HF4.out]
              have c4 := HC.out w1 hb1 5 (by simp)
              have c5 := HC.out w1 hb1 6 (by simp)
              have d4 := HD.out w1 hb1 5 (by simp)
              have d5 := HD.out w1 hb1 6 (by simp)
              clear hb1 hb1'
              go_wp2_with fail
              refine (pObjsEq r.objects q.objects _ _ _ ((HR.out.o.below HB0.out).below HB1.out) ((HQ.out.o.below HB0.out).below HB1.out)).mono ?_
              rintro _ w2 ⟨rfl, hb2'⟩
              have hb2 := below_nxt HB1.out hb2' (Nat.le_refl _)
              have HB2 := Lib.hid hb2
              rw [HF5.out]
              clear c4 c5 d4 d5
              have c5 := HC.out w2 hb2 6 (by simp)
              have d5 := HD.out w2 hb2 6 (by simp)
              clear hb2 hb2'
              go_wp2
              go_ret
              exact ⟨ret_bool HU.out.symm, HBW.out.trans (HB2.out.mono HLE.out)⟩
          · have HU := Lib.hid (eqB_no (fun e : r = q => e4 (by rw [e])))
            have HF4 := Lib.hid (eqB_no e4)
            clear e0 e1 e2 e3 e4
            go_enter Try.func15, Try.ntmps15
            go_wp2_with fail
            refine (pStpsC r.stripes q.stripes _ _ _ (HR.out.s.below HB0.out) (HQ.out.s.below HB0.out)).mono ?_
            rintro _ w1 ⟨rfl, hb1'⟩
            have hb1 := below_nxt (Below.refl _ _) hb1' (Nat.le_refl _)
            have HB1 := Lib.hid hb1
            rw [HF4.out]
            have c4 := HC.out w1 hb1 5 (by simp)
            have c5 := HC.out w1 hb1 6 (by simp)
            have d4 := HD.out w1 hb1 5 (by simp)
            have d5 := HD.out w1 hb1 6 (by simp)
            clear hb1 hb1'
            go_wp2
            go_ret
            exact ⟨ret_bool HU.out.symm, HBW.out.trans (HB1.out.mono HLE.out)⟩
        · have HU := Lib.hid (eqB_no (fun e : r = q => e3 (by rw [e])))
          have f3 := str_not e3
          clear e0 e1 e2 e3
          go_enter Try.func15, Try.ntmps15
          go_wp2
          go_ret
          exact ⟨ret_bool HU.out.symm, HBW.out⟩
      · have HU := Lib.hid (eqB_no (fun e : r = q => e2 (by rw [e])))
        have f2 := beq_no e2
        clear e0 e1 e2
        go_enter Try.func15, Try.ntmps15
        go_wp2
        go_ret
        exact ⟨ret_bool HU.out.symm, HBW.out⟩
    · have HU := Lib.hid (eqB_no (fun e : r = q => e1 (by rw [e])))
      have f1 := beq_no e1
      clear e0 e1
      go_enter Try.func15, Try.ntmps15
      go_wp2
      go_ret
      exact ⟨ret_bool HU.out.symm, HBW.out⟩
  · have HU := Lib.hid (eqB_no (fun e : r = q => e0 (by rw [e])))
    have f0 := beq_no e0
    clear e0
    go_enter Try.func15, Try.ntmps15
    go_wp2
    go_ret
    exact ⟨ret_bool HU.out.symm, HBW.out⟩
theorem recI : RecI := ⟨fun W V r h _ => encodeC h, fun W v l r h _ hr => decodeC W v l r h hr, fun W v l h _ hr => decodeNoC W v l h hr, fun W V U r q h g => psameC W V U r q h g⟩
end Go.Proofs.Ytjhlcddmpkalfaa.Rec
