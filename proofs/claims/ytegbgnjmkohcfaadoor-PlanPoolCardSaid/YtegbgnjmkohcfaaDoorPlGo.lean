/- Package plan: Target, Wrong. -/
import Derived.Test.YtegbgnjmkohcfaaDoorPlTab
import Derived.Test.YtegbgnjmkohcfaaDoorQRkO
namespace Go.Proofs.YtegbgnjmkohcfaaDoor.Pl
set_option linter.unusedVariables false
open Go.ChangeShapes Go.WideShapes Go.ChangeAt Go.RowKit
open Go.Mem RecM Tbl Rk Rec
abbrev TStp : Nat := 29
theorem eqB_dec (a b : List Int) : eqB a b = decide (a = b) := by
  by_cases h : a = b
  · rw [eqB_yes h]; exact (decide_eq_true h).symm
  · rw [eqB_no h]; exact (decide_eq_false h).symm
set_option maxRecDepth 100000 in
set_option maxHeartbeats 1000000 in
theorem equalC (l m : List Int) (v u : Value) (w : World) (h : Ints w v l) (g : Ints w u m) :
    Calls Tryd.prog 22 #[v, u] w fun e w' => e = .returned (.bool (eqB l m)) ∧ ∃ n, w' = w.drewN n := by
  obtain ⟨A, C, rfl, h1, h2, -⟩ := h.shape
  obtain ⟨A1, C1, rfl, g1, g2, -⟩ := g.shape
  by_cases hl : l.length = m.length
  · have hq : ((l.length : Int) != (m.length : Int)) = false := by rw [hl]; simp
    have HL := Lib.hid hl; clear hl
    go_enter Tryd.func22, Tryd.ntmps22
    go_wp2
    go_loopw [13] (fun c wr => ∃ k : Nat, k ≤ l.length ∧ AgreeF l m k ∧ c = .int .i64 k ∧ ∃ n, wr = w.drewN n) (fun c _ => l.length - (intOf c).toNat)
    case atStart => exact ⟨0, Nat.zero_le _, fun i _ _ hi => absurd hi (by omega), rfl, 0, rfl⟩
    case round =>
      obtain ⟨k, hk, hu, rfl, n, rfl⟩ := hrel
      by_cases hlt : k < l.length
      · have hlt' : k < m.length := by have := HL.out; omega
        obtain ⟨b, o, rfl, hc, -⟩ := h.at hlt
        obtain ⟨b0, o0, rfl, hc0, -⟩ := g.at hlt'
        by_cases hr : l[k] = m[k]
        · have HU := Lib.hid (hu.succ hlt hlt' hr)
          have hq := eq_int hr
          clear hr
          go_wp2
          go_quiet (fail)
          go_wp2
          go_roundw
          case rel => exact ⟨k + 1, by omega, HU.out, by go_num, _, rfl⟩
          case measure => simp [intOf]; omega
        · have HN := Lib.hid (agree_no hlt hlt' hr)
          have hq := ne_int hr
          clear hr
          go_wp2
          go_quiet (fail)
          go_wp2
          go_ret
          exact ⟨ret_bool HN.out.symm, quiets _ _ _⟩
      · obtain rfl : k = l.length := by omega
        have HY := Lib.hid (agree_yes HL.out hu)
        go_wp2
        go_ret
        exact ⟨ret_bool HY.out.symm, _, rfl⟩
  · have HN := Lib.hid (agree_len hl)
    have hq : ((l.length : Int) != (m.length : Int)) = true := by rw [bne_iff_ne]; omega
    clear hl
    go_enter Tryd.func22, Tryd.ntmps22
    go_wp2
    go_ret
    exact ⟨ret_bool HN.out.symm, 0, rfl⟩
section
variable {w : World} {F : Nat → Prop} {p : Nat} {t : Tb.TabD}
set_option maxRecDepth 100000 in
set_option maxHeartbeats 1000000 in
theorem targetYes (h : PDt w F p t) (hT : Hash.Tabs w) (id n : Int) (hid : I64 id) (hn : I64 n) {s : StpD} (hs : Tb.stripe t id = some s) :
    Calls Tryd.prog 10 #[.pointer (some ⟨p, 0, none⟩), .int .i64 id, .int .i64 n] w (Tgted w id t.states n) := by
  have HDL := Lib.hid (show t.states.length ≤ 100 from Nat.le_trans (pd_ok h).drv.2 (by decide))
  have HP := Lib.hid h
  have HT := Lib.hid hT
  have HS := Lib.hid hs
  clear h hT hs
  go_enter Tryd.func10, Tryd.ntmps10
  go_wp2_with fail
  refine (stripeP HP.out id hid).mono ?_
  rintro _ w1 ⟨V, rfl, hV, hb⟩
  rw [HS.out] at hV ⊢
  obtain ⟨A, C, rfl, -, -, -, -⟩ := (show StpIs w1 V s from hV)
  obtain ⟨m, hm⟩ : ∃ m, s.locs.length = m := ⟨_, rfl⟩
  rw [hm] at hV ⊢
  have hal : Below w1.heap.size w1 (w1.alloc (.cells #[.int .i64 s.id, .int .i64 s.ep, .slice A m C] TStp)) := (Below.refl _ _).alloc (Nat.le_refl _) _
  have HB := Lib.hid (hb.trans (hal.mono hb.size))
  clear hV hb hal hm
  go_wp2_with fail
  refine (statesP (pd_below HP.out HB.out)).mono ?_
  rintro _ w2 ⟨u, rfl, hu, hb2⟩
  obtain ⟨A2, C2, rfl, -, -, -⟩ := hu.shape
  have HU := Lib.hid hu
  have HB2 := Lib.hid (HB.out.trans (hb2.mono HB.out.size))
  clear hu hb2
  go_wp2_with fail
  refine (targetsC _ id _ t.states n (HT.out.below HB2.out) HU.out hid hn HDL.out).mono ?_
  rintro _ w3 ⟨u3, rfl, hu3, hb3⟩
  have HX := Lib.hid (show Tgted w id t.states n (.returned (.tuple #[u3, .bool (tgtOk t.states n)])) w3 from ⟨u3, rfl, hu3, HB2.out.trans (hb3.mono HB2.out.size)⟩)
  obtain ⟨A3, C3, rfl, -, -, -⟩ := hu3.shape
  clear hu3 hb3
  obtain ⟨ok, hok⟩ : ∃ ok, tgtOk t.states n = ok := ⟨_, rfl⟩
  rw [hok] at HX ⊢
  clear hok
  go_wp2
  go_ret2
  exact HX.out
set_option maxRecDepth 100000 in
set_option maxHeartbeats 1000000 in
theorem targetNo (h : PDt w F p t) (id n : Int) (hid : I64 id) (hs : Tb.stripe t id = none) :
    Calls Tryd.prog 10 #[.pointer (some ⟨p, 0, none⟩), .int .i64 id, .int .i64 n] w fun e w' => e = .returned (.tuple #[.slice none 0 0, .bool false]) ∧ Below w.heap.size w w' := by
  have HP := Lib.hid h
  have HS := Lib.hid hs
  clear h hs
  go_enter Tryd.func10, Tryd.ntmps10
  go_wp2_with fail
  refine (stripeP HP.out id hid).mono ?_
  rintro _ w1 ⟨V, rfl, hV, hb⟩
  rw [HS.out] at hV ⊢
  obtain ⟨A, C, rfl, -, -, -, -⟩ := (show StpIs w1 V noStp from hV)
  have hal : Below w1.heap.size w1 (w1.alloc (.cells #[.int .i64 noStp.id, .int .i64 noStp.ep, .slice A noStp.locs.length C] TStp)) := (Below.refl _ _).alloc (Nat.le_refl _) _
  have HB := Lib.hid (hb.trans (hal.mono hb.size))
  clear hV hb hal
  go_wp2
  go_ret2
  exact ⟨rfl, HB.out⟩
/-- the first k are held against their targets -/
def PAt (x : List Int) (n : Int) (L : List StpD) (k : Nat) (W : World) (v : Value) (wr : World) : Prop := Built IntR wr W.heap.size 3 v (wrong x n (L.take k)) ∧ Below W.heap.size W wr
set_option maxRecDepth 100000 in
set_option maxHeartbeats 4000000 in
theorem wrongC (h : PDt w F p t) (hf : Few t) (hrl : (Tb.rowS t).length ≤ 100000) (hT : Hash.Tabs w) (n : Int) (hn : I64 n) :
    Calls Tryd.prog 12 #[.pointer (some ⟨p, 0, none⟩), .int .i64 n] w fun e w' => ∃ u, e = .returned u ∧ Ints w' u (wrong t.states n (Tb.rowS t)) ∧ Below w.heap.size w w' ∧ ∀ b, u.ownBlock = some b → w.heap.size ≤ b := by
  have HDL := Lib.hid (show t.states.length ≤ 100 from Nat.le_trans (pd_ok h).drv.2 (by decide))
  have HRL := Lib.hid hrl
  have HP := Lib.hid h
  have HT := Lib.hid hT
  have HF := Lib.hid hf
  have HN := Lib.hid hn
  obtain ⟨n0, n1⟩ := hn
  obtain ⟨x, hx⟩ : ∃ x, t.states = x := ⟨_, rfl⟩
  obtain ⟨L, hL⟩ : ∃ L, Tb.rowS t = L := ⟨_, rfl⟩
  have HXX := Lib.hid hx
  have HLL := Lib.hid hL
  rw [hx] at HDL
  rw [hL] at HRL
  rw [hx, hL]
  clear h hT hf hrl hx hL
  go_enter Tryd.func12, Tryd.ntmps12
  go_wp2_with fail
  refine (statesP HP.out).mono ?_
  rintro _ w1 ⟨u, rfl, hu, hb1⟩
  rw [HXX.out] at hu
  obtain ⟨A1, C1, rfl, -, -, -⟩ := hu.shape
  obtain ⟨m1, hm1⟩ : ∃ m, x.length = m := ⟨_, rfl⟩
  rw [hm1] at hu ⊢
  have HU := Lib.hid hu
  have HB1 := Lib.hid hb1
  clear hu hb1 hm1
  go_wp2_with fail
  refine (stripesP (pd_below HP.out HB1.out) HF.out).mono ?_
  rintro _ w2 ⟨V, rfl, hV, hb2⟩
  rw [HLL.out] at hV
  obtain ⟨A2, C2, rfl, g1, g2, -⟩ := hV.shape
  obtain ⟨M, hM⟩ : ∃ M, L.length = M := ⟨_, rfl⟩
  rw [hM] at hV g1 HRL ⊢
  have HM := Lib.hid hM
  have HV := Lib.hid hV
  have HB2 := Lib.hid (HB1.out.trans (hb2.mono HB1.out.size))
  have HU2 := Lib.hid (HU.out.below hb2)
  have HT2 := Lib.hid (HT.out.below HB2.out)
  have HWL := Lib.hid (show ∀ k, (wrong x n (L.take k)).length ≤ 100000 from fun k => Nat.le_trans (wrong_len _ _ _) (by rw [List.length_take, hM]; have := HRL.out; omega))
  clear hV hb2 hM HP HT HF HU HB1 HXX HLL
  go_wp2
  go_loopw [5, 16] (fun v c wr => ∃ k : Nat, k ≤ M ∧ c = .int .i64 k ∧ PAt x n L k w2 v wr) (fun _ c _ => M - (intOf c).toNat)
  case atStart => exact ⟨0, Nat.zero_le _, rfl, by rw [PAt, List.take_zero]; exact ⟨Built.start _ _ _, Below.refl _ _⟩⟩
  case round =>
    obtain ⟨k, hk, rfl, hbu, hbl⟩ := hrel
    have HBU := Lib.hid hbu
    have HBL := Lib.hid hbl
    by_cases hlt : k < M
    · have hk' : k < L.length := by rw [HM.out]; exact hlt
      obtain ⟨b, o, A', C', rfl, c0, c1, c2, hi, hid, -, -⟩ := (HV.out.below hbl).at hk'
      have HNX := Lib.hid (wrong_take (x := x) (n := n) hk')
      obtain ⟨s, hs⟩ : ∃ s, L[k] = s := ⟨_, rfl⟩
      rw [hs] at c0 c1 c2 hi hid HNX
      obtain ⟨m, hm⟩ : ∃ m, s.locs.length = m := ⟨_, rfl⟩
      rw [hm] at c2 hi
      have q1 : (0 : Int) ≤ (k : Int) := by omega
      have q2 : (k : Int) < (M : Int) := by omega
      have hal : Below wr.heap.size wr (wr.alloc (.cells #[.int .i64 s.id, .int .i64 s.ep, .slice A' m C'] TStp)) := (Below.refl _ _).alloc (Nat.le_refl _) _
      have hrow : (wr.alloc (.cells #[.int .i64 s.id, .int .i64 s.ep, .slice A' m C'] TStp)).rowIs wr.heap.size TStp 3 (fun j => #[Value.int .i64 s.id, .int .i64 s.ep, .slice A' m C'].getD j undef) := row_of wr _ _
      obtain ⟨wa, hwa⟩ : ∃ wa, wr.alloc (.cells #[.int .i64 s.id, .int .i64 s.ep, .slice A' m C'] TStp) = wa := ⟨_, rfl⟩
      rw [hwa] at hal hrow
      have HWA := Lib.hid hwa
      have HAL := Lib.hid hal
      have HROW := Lib.hid hrow
      have HID := Lib.hid hid
      have HI := Lib.hid (hi.below hal)
      obtain ⟨Av, Cv, e1, hl1, hl2⟩ := hbu.len
      obtain ⟨Lv, hLv⟩ : ∃ Lv, (wrong x n (L.take k)).length = Lv := ⟨_, rfl⟩
      have HLV := Lib.hid hLv
      rw [hLv] at e1 hl1
      subst e1
      have d0 := hrow.cell (i := 0) (by omega)
      clear hbu hbl hs hm hk' hi hal hrow hwa hid hLv
      go_upto_region 6 with fail
      rw [HWA.out]
      go_wp2_with fail
      refine (targetsC _ s.id _ x n (HT2.out.below (HBL.out.trans (HAL.out.mono HBL.out.size))) (HU2.out.below (HBL.out.trans (HAL.out.mono HBL.out.size))) HID.out HN.out HDL.out).mono ?_
      rintro _ w3 ⟨u3, rfl, hu3, hb3⟩
      obtain ⟨A3, C3, rfl, -, -, -⟩ := hu3.shape
      obtain ⟨m3, hm3⟩ : ∃ m3, (tgt s.id x n).length = m3 := ⟨_, rfl⟩
      rw [hm3] at hu3 ⊢
      have e0 := below_cell hb3 _ _ d0
      have e2 := below_cell hb3 _ _ (HROW.out.cell (i := 2) (by omega))
      have HU3 := Lib.hid hu3
      have HI3 := Lib.hid (HI.out.below hb3)
      have hbr : Below wr.heap.size wr w3 := HAL.out.trans (hb3.mono HAL.out.size)
      have HBU3 := Lib.hid (HBU.out.below hbr)
      have HBL3 := Lib.hid (HBL.out.trans (hbr.mono HBL.out.size))
      clear hu3 hb3 hm3 d0 hbr
      cases hok : tgtOk x n
      · have HX := Lib.hid (show PAt x n L (k + 1) w2 (.slice Av Lv Cv) w3 from ⟨by rw [HNX.out, if_neg (by unfold off; rw [hok]; simp), List.append_nil]; exact HBU3.out, HBL3.out⟩)
        clear hok
        go_wp2
        go_roundw
        case rel => exact ⟨k + 1, by omega, by go_num, HX.out⟩
        case measure => simp [intOf]; omega
      · have HOK := Lib.hid hok
        clear hok
        go_wp2_with fail
        refine (equalC _ _ _ _ _ HU3.out HI3.out).mono ?_
        rintro _ w4 ⟨rfl, j, hj⟩
        have hb4 : Below w3.heap.size w3 w4 := by rw [hj]; exact below_drewN _ w3 j
        have HBU4 := Lib.hid (HBU3.out.below hb4)
        have HBL4 := Lib.hid (HBL3.out.trans (hb4.mono HBL3.out.size))
        have e4 := below_cell hb4 _ _ e0
        clear hj hb4 e0
        cases hq : eqB (tgt s.id x n) s.locs
        · have HNX2 := Lib.hid (show wrong x n (L.take (k + 1)) = wrong x n (L.take k) ++ [s.id] by rw [HNX.out, if_pos (by unfold off; rw [HOK.out, ← eqB_dec, hq]; rfl)])
          clear hq
          go_wp2_with (at_builtin; refine wpList_append_built (R := IntR) _ rfl (.tmp 36) (.tmp 39) 22 rfl w2.heap.size 3 (.int .i64 0) 8 Tryd.underlying22 Rk.infoInt rfl _ _ rfl HBU4.out _ s.id _ rfl rfl rfl (fun _ _ => ⟨rfl, HID.out⟩) (by have := HWL.out k; omega) HBL4.out.size ?_; intro v' w' hbu' hg' hb'; have HX := Lib.hid (show PAt x n L (k + 1) w2 v' w' from ⟨by rw [HNX2.out]; exact hbu', HBL4.out.trans hb'⟩); obtain ⟨A5, C5, e5, _⟩ := hbu'.len; obtain ⟨L5, hL5⟩ : ∃ L5, (wrong x n (L.take k) ++ [s.id]).length = L5 := ⟨_, rfl⟩; rw [hL5] at e5; subst e5; clear hbu' hg' hb' hL5)
          go_roundw
          case rel => exact ⟨k + 1, by omega, by go_num, HX.out⟩
          case measure => simp [intOf]; omega
        · have HX := Lib.hid (show PAt x n L (k + 1) w2 (.slice Av Lv Cv) w4 from ⟨by rw [HNX.out, if_neg (by unfold off; rw [HOK.out, ← eqB_dec, hq]; simp), List.append_nil]; exact HBU4.out, HBL4.out⟩)
          clear hq
          go_wp2
          go_roundw
          case rel => exact ⟨k + 1, by omega, by go_num, HX.out⟩
          case measure => simp [intOf]; omega
    · obtain rfl : k = M := by omega
      rw [List.take_of_length_le (Nat.le_of_eq HM.out)] at hbu
      have HIN := Lib.hid (show Ints wr _ (wrong x n L) from hbu.slice)
      have HNW := Lib.hid (fun b q => Nat.le_trans HB2.out.size (hbu.own_lt b q).1)
      obtain ⟨A5, C5, e5, -, -⟩ := hbu.len
      obtain ⟨L5, hL5⟩ : ∃ L5, (wrong x n L).length = L5 := ⟨_, rfl⟩
      rw [hL5] at e5
      subst e5
      have HB5 := Lib.hid (HB2.out.trans (hbl.mono HB2.out.size))
      clear hbu hbl hL5 HBU HBL
      go_wp2
      go_ret
      exact ⟨_, rfl, HIN.out, HB5.out, HNW.out⟩
end
end Go.Proofs.YtegbgnjmkohcfaaDoor.Pl
