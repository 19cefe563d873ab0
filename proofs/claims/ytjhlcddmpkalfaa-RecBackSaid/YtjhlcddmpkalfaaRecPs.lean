/- The program's own answer whether two records are the same. -/
import Derived.Test.YtjhlcddmpkalfaaRecI
import Derived.Test.YtjhlcddmpkalfaaShelf
namespace Go.Proofs.Ytjhlcddmpkalfaa.Rec
set_option linter.unusedVariables false
open Go.ChangeShapes Go.WideShapes Go.ChangeAt Go.RowKit
open Go.Mem RecM
theorem eqB_beq {l m : List Int} : (l == m) = eqB l m := by
  by_cases h : l = m
  · rw [eqB_yes h, h]; simp
  · rw [eqB_no h]; simpa using h
theorem beq_yes {a b : Int} (h : a = b) : (a == b) = true := by rw [h]; simp
theorem beq_no {a b : Int} (h : ¬ a = b) : (a == b) = false := by simpa using h
theorem below_nxt {B : Nat} {w w1 w2 : World} (h : Below B w w1) (k : Below w1.heap.size w1 w2) (hB : B ≤ w.heap.size) : Below B w w2 := h.trans (k.mono (Nat.le_trans hB h.size))
theorem pIntsC (l m : List Int) (v u : Value) (w : World) (h : Ints w v l) (g : Ints w u m) :
    Calls Try.prog 28 #[v, u] w fun e w' => e = .returned (.bool (eqB l m)) ∧ ∃ n, w' = w.drewN n := by
  obtain ⟨A, C, rfl, h1, h2, -⟩ := h.shape
  obtain ⟨A1, C1, rfl, g1, g2, -⟩ := g.shape
  by_cases hl : l.length = m.length
  · rcases Nat.eq_zero_or_pos l.length with h0 | h0
    · have hm : m.length = 0 := by omega
      have e1 : l = [] := List.length_eq_zero_iff.1 h0
      have e2 : m = [] := List.length_eq_zero_iff.1 hm
      subst e1; subst e2
      refine (Try.slices_Equal_int_empty _ _ _ _ _ w (by simp)).mono ?_
      rintro _ _ ⟨rfl, rfl⟩
      exact ⟨by rw [eqB_yes rfl]; rfl, 0, rfl⟩
    · obtain ⟨b, o, rfl, -⟩ := h.at h0
      obtain ⟨b', o', rfl, -⟩ := g.at (i := 0) (by omega)
      refine (Try.slices_Equal_int b o l.length C b' o' m.length C1 l m w (Nat.le_refl _) (Nat.le_refl _) (by omega) (by omega) (fun j hj => by
        rw [(h.here hj).1]; simp [List.getD, hj]) (fun j hj => by
        rw [(g.here hj).1]; simp [List.getD, hj])).mono ?_
      rintro _ _ ⟨rfl, n, rfl⟩
      exact ⟨by rw [List.take_length, List.take_length, eqB_beq], n, rfl⟩
  · refine (Try.slices_Equal_int_lens _ _ _ _ _ _ w hl).mono ?_
    rintro _ _ ⟨rfl, rfl⟩
    exact ⟨by rw [agree_len hl], 0, rfl⟩
set_option maxHeartbeats 1000000 in
theorem pStpC (w : World) (x y : StpD) (A A2 : Option Addr) (C C2 : Nat) (hi : Ints w (.slice A x.locs.length C) x.locs) (gi : Ints w (.slice A2 y.locs.length C2) y.locs) :
    Calls Try.prog 45 #[.agg #[.int .i64 x.id, .int .i64 x.ep, .slice A x.locs.length C], .agg #[.int .i64 y.id, .int .i64 y.ep, .slice A2 y.locs.length C2]] w (Saw w (eqB x y)) := by
  have hbl : Below w.heap.size w ((w.alloc (.cells #[.int .i64 x.id, .int .i64 x.ep, .slice A x.locs.length C] 41)).alloc (.cells #[.int .i64 y.id, .int .i64 y.ep, .slice A2 y.locs.length C2] 41)) := ((Below.refl _ _).alloc (Nat.le_refl _) _).alloc (by simp) _
  have HI := Lib.hid (hi.below hbl)
  have GI := Lib.hid (gi.below hbl)
  have HBL := Lib.hid (show ∀ n, Below w.heap.size w (((w.alloc (.cells #[.int .i64 x.id, .int .i64 x.ep, .slice A x.locs.length C] 41)).alloc (.cells #[.int .i64 y.id, .int .i64 y.ep, .slice A2 y.locs.length C2] 41)).drewN n) from fun n => hbl.trans (below_drewN _ _ _))
  clear hi gi hbl
  by_cases e0 : x.id = y.id
  · have f0 := beq_yes e0
    by_cases e1 : x.ep = y.ep
    · have f1 := beq_yes e1
      by_cases e2 : x.locs = y.locs
      · have HU := Lib.hid (eqB_yes (stp_eq e0 e1 e2))
        have f2 := eqB_yes e2
        clear e0 e1 e2
        go_enter Try.func45, Try.ntmps45
        go_wp2_with fail
        refine (pIntsC x.locs y.locs _ _ _ HI.out GI.out).mono ?_
        rintro _ _ ⟨rfl, n, rfl⟩
        rw [f2]
        go_wp2
        go_ret
        exact ⟨ret_bool HU.out.symm, HBL.out _⟩
      · have HU := Lib.hid (eqB_no (fun e : x = y => e2 (by rw [e])))
        have f2 := eqB_no e2
        clear e0 e1 e2
        go_enter Try.func45, Try.ntmps45
        go_wp2_with fail
        refine (pIntsC x.locs y.locs _ _ _ HI.out GI.out).mono ?_
        rintro _ _ ⟨rfl, n, rfl⟩
        rw [f2]
        go_wp2
        go_ret
        exact ⟨ret_bool HU.out.symm, HBL.out _⟩
    · have HU := Lib.hid (eqB_no (fun e : x = y => e1 (by rw [e])))
      have f1 := beq_no e1
      clear e0 e1
      go_enter Try.func45, Try.ntmps45
      go_wp2
      go_ret
      exact ⟨ret_bool HU.out.symm, HBL.out 0⟩
  · have HU := Lib.hid (eqB_no (fun e : x = y => e0 (by rw [e])))
    have f0 := beq_no e0
    clear e0
    go_enter Try.func45, Try.ntmps45
    go_wp2
    go_ret
    exact ⟨ret_bool HU.out.symm, HBL.out 0⟩
set_option maxHeartbeats 2000000 in
theorem pStpsEq (l m : List StpD) (v u : Value) (w : World) (h : Stps w v l) (g : Stps w u m) :
    Calls Try.prog 44 #[v, u, .func (.func 45) #[] #[]] w (Saw w (eqB l m)) := by
  obtain ⟨A, C, rfl, h1, h2, -⟩ := h.shape
  obtain ⟨A1, C1, rfl, g1, g2, -⟩ := g.shape
  by_cases hl : l.length = m.length
  · have HL := Lib.hid hl
    rw [← hl] at g g1 ⊢
    obtain ⟨L, hL⟩ : ∃ L, l.length = L := ⟨_, rfl⟩
    have HLL := Lib.hid hL
    rw [hL] at h g h1 g1 ⊢
    clear hl hL
    have hq : ((L : Int) != (L : Int)) = false := by simp
    go_enter Try.func44, Try.ntmps44
    go_wp2
    clear hq
    go_loopw [17] (fun c wr => ∃ k : Nat, k ≤ L ∧ AgreeF l m k ∧ c = .int .i64 k ∧ Below w.heap.size w wr) (fun c _ => L - (intOf c).toNat)
    case atStart => exact ⟨0, Nat.zero_le _, (fun i _ _ hi => absurd hi (by omega)), rfl, Below.refl _ _⟩
    case round =>
      obtain ⟨k, hk, hu, rfl, hbw⟩ := hrel
      have HBW := Lib.hid hbw
      by_cases hlt : k < L
      · have hltl : k < l.length := by have := HLL.out; omega
        have hltm : k < m.length := by have := HL.out; omega
        obtain ⟨b, o, A', C', rfl, c0, c1, c2, hi, -, -, -⟩ := (h.below hbw).at hltl
        obtain ⟨b1, o1, A2, C2, rfl, d0, d1, d2, gi, -, -, -⟩ := (g.below hbw).at hltm
        obtain ⟨x, hx⟩ : ∃ x, l[k] = x := ⟨_, rfl⟩
        obtain ⟨y, hy⟩ : ∃ y, m[k] = y := ⟨_, rfl⟩
        have HSU := Lib.hid (fun e => hu.succ hltl hltm e)
        have HNO := Lib.hid (fun e => agree_no hltl hltm e)
        rw [hx, hy] at HSU HNO
        rw [hx] at c0 c1 c2 hi
        rw [hy] at d0 d1 d2 gi
        have q1 : (0 : Int) ≤ (k : Int) := by omega
        have q2 : (k : Int) < (L : Int) := by omega
        have HI := Lib.hid hi
        have GI := Lib.hid gi
        clear hx hy hltl hltm hi gi hu hbw
        have hbx : Below wr.heap.size wr ((wr.alloc (.cells #[.int .i64 x.id, .int .i64 x.ep, .slice A' x.locs.length C'] 41)).alloc (.cells #[.int .i64 y.id, .int .i64 y.ep, .slice A2 y.locs.length C2] 41)) := ((Below.refl _ _).alloc (Nat.le_refl _) _).alloc (by simp) _
        have HBX := Lib.hid hbx
        have HII := Lib.hid (HI.out.below hbx)
        have HGG := Lib.hid (GI.out.below hbx)
        have hbx1 : Below wr.heap.size wr (wr.alloc (.cells #[.int .i64 x.id, .int .i64 x.ep, .slice A' x.locs.length C'] 41)) := (Below.refl _ _).alloc (Nat.le_refl _) _
        have D0 := below_cell hbx1 _ _ d0
        have D1 := below_cell hbx1 _ _ d1
        have D2 := below_cell hbx1 _ _ d2
        clear hbx hbx1 d0 d1 d2
        by_cases exy : x = y
        · have HU := Lib.hid (HSU.out exy)
          have HE := Lib.hid (eqB_yes exy)
          clear exy
          go_wp2_with fail
          refine (pStpC _ x y _ _ _ _ HII.out HGG.out).mono ?_
          rintro _ w2 ⟨rfl, hb2⟩
          rw [HE.out]
          have HB2 := Lib.hid (below_nxt HBW.out (below_nxt HBX.out hb2 (Nat.le_refl _)) (Nat.le_refl _))
          clear hb2
          go_wp2
          go_roundw
          case rel => exact ⟨k + 1, by omega, HU.out, by go_num, HB2.out⟩
          case measure => simp [intOf]; omega
        · have HN := Lib.hid (HNO.out exy)
          have HE := Lib.hid (eqB_no exy)
          clear exy
          go_wp2_with fail
          refine (pStpC _ x y _ _ _ _ HII.out HGG.out).mono ?_
          rintro _ w2 ⟨rfl, hb2⟩
          rw [HE.out]
          have HB2 := Lib.hid (below_nxt HBW.out (below_nxt HBX.out hb2 (Nat.le_refl _)) (Nat.le_refl _))
          clear hb2
          go_wp2
          go_ret
          exact ⟨ret_bool HN.out.symm, HB2.out⟩
      · obtain rfl : k = L := by omega
        have HY := Lib.hid (agree_yes HL.out (by rw [HLL.out]; exact hu))
        clear hbw
        go_wp2
        go_ret
        exact ⟨ret_bool HY.out.symm, HBW.out⟩
  · have HN := Lib.hid (agree_len hl)
    have hq : ((l.length : Int) != (m.length : Int)) = true := by rw [bne_iff_ne]; omega
    clear hl
    go_enter Try.func44, Try.ntmps44
    go_wp2
    go_ret
    exact ⟨ret_bool HN.out.symm, Below.refl _ _⟩
end Go.Proofs.Ytjhlcddmpkalfaa.Rec
