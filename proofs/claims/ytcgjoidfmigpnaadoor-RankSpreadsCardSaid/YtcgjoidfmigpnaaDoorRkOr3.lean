/- The program's order of drives, those that are in, the nearest ones, as walks. -/
import Derived.Test.YtcgjoidfmigpnaaDoorRkOr2
import Derived.Test.YtcgjoidfmigpnaaDoorRkI
import Derived.Test.YtcgjoidfmigpnaaDoorHashWei
namespace Go.Proofs.YtcgjoidfmigpnaaDoor.Rk
set_option linter.unusedVariables false
open Go.ChangeShapes Go.WideShapes Go.ChangeAt Go.RowKit
open Go.Mem Sha Hash Rec
theorem made_zeros (w : World) (t n : Nat) : RowZ (w.alloc (.cells (madeCells #[.int .i64 0] n) t)) w.heap.size (List.replicate n 0) := by
  have hm : (madeCells #[.int .i64 0] n : Array Value).size = n := size_madeCells _ _
  have h := World.rowIs_alloc w (madeCells #[.int .i64 0] n) t (fun _ => .int .i64 0) (fun i hi => by
    have hi' : i < n := by rw [hm] at hi; exact hi
    simp [madeCells, hi', Nat.mod_one])
  refine ⟨fun i hi => ?_, fun i _ => h.frozen i⟩
  have hi' : i < n := by simpa using hi
  rw [h.cell (i := i) (by rw [hm]; exact hi')]
  simp [List.getD, hi']
/-- the first k of X, and z behind them -/
def fillZ {α : Type} (z : α) (X : List α) (k : Nat) : List α := X.take k ++ List.replicate (X.length - k) z
theorem fillZ_len {α : Type} (z : α) (X : List α) (k : Nat) (h : k ≤ X.length) : (fillZ z X k).length = X.length := by simp [fillZ]; omega
theorem fillZ_set {α : Type} (z : α) (X : List α) (k : Nat) (h : k < X.length) : (fillZ z X k).set k X[k] = fillZ z X (k + 1) := by
  unfold fillZ
  rw [List.set_append_right _ _ (by simp; omega), List.length_take, Nat.min_eq_left (by omega), Nat.sub_self, show X.length - k = (X.length - (k + 1)) + 1 by omega, List.replicate_succ, List.set_cons_zero, List.take_succ_eq_append_getElem h, List.append_assoc]
  rfl
theorem fillZ_zero {α : Type} (z : α) (X : List α) : fillZ z X 0 = List.replicate X.length z := by simp [fillZ]
theorem fillZ_all {α : Type} (z : α) (X : List α) : fillZ z X X.length = X := by simp [fillZ]
theorem makeW (k : Nat) (hk : k ≤ 100) (w : World) : (Instr.makeSlice 35 (.int .i64 (k : Nat)) (.int .i64 (k : Nat))).run Tryd.prog w = .ok (.slice (some ⟨w.heap.size, 0, none⟩) k k) (w.alloc (.cells (madeCells #[.int .i64 0, .int .u64 0] (k * 2)) 37)) := by
  obtain ⟨i, hi, hz0, hz1, hz2⟩ := info_parts (show (Tryd.prog.info? 37).map (fun i => (i.zero, i.size, i.bytes)) = some (some (.agg #[.int .i64 0, .int .u64 0]), 2, 16) by kernel_rfl)
  have hr := run_make (P := Tryd.prog) w 35 37 i _ Tryd.underlying35 hi hz0 .i64 .i64 k k (by omega) (Int.le_refl _) (by rw [hz2]; omega) (by omega)
  simp only [Int.toNat_natCast, hz1] at hr
  exact hr
def WAt (s : Int) (l : List Int) (k : Nat) (W : World) (b : Nat) (wr : World) : Prop := WRow wr b (fillZ (0, 0) (weigh s l) k) ∧ Below W.heap.size W wr ∧ b < wr.heap.size
def OAt (S : List (Int × Int)) (k : Nat) (W : World) (b g : Nat) (wr : World) : Prop := WRow wr b S ∧ RowZ wr g (fillZ 0 (S.map Prod.fst) k) ∧ Below W.heap.size W wr ∧ g < wr.heap.size
set_option maxHeartbeats 4000000 in
theorem orderC (W : World) (s : Int) (v : Value) (l : List Int) (hT : Tabs W) (hI : Ints W v l) (hs : I64 s) (hl : l.length ≤ 100) :
    Calls Tryd.prog 9 #[.int .i64 s, v] W (Ordered W s l) := by
  obtain ⟨A, C, rfl, g1, g2, -⟩ := hI.shape
  have HI := Lib.hid hI
  have HT := Lib.hid hT
  have H64 := Lib.hid (ints_i64 hI)
  obtain ⟨L, hL⟩ : ∃ L, l.length = L := ⟨_, rfl⟩
  have HL := Lib.hid hL
  have HWL := Lib.hid (show (weigh s l).length = L by unfold weigh; rw [List.length_map, hL])
  rw [hL] at hl g1 HI ⊢
  clear hI hL hT
  have hmk0 := run_make_row' (P := Tryd.prog) 22 3 (.int .i64 0) 8 Tryd.underlying22 infoInt rfl .i64 .i64 L (by omega) (by omega)
  have HMK := Lib.hid hmk0
  have hmk := makeW L hl
  have HST := Lib.hid (show WAt s l 0 W W.heap.size (W.alloc (.cells (madeCells #[.int .i64 0, .int .u64 0] (L * 2)) 37)) from ⟨by rw [fillZ_zero, HWL.out]; exact WRow.made W _ L, (Below.refl _ _).alloc (Nat.le_refl _) _, by simp⟩)
  clear hmk0
  go_enter Tryd.func9, Tryd.ntmps9
  go_wp2
  go_loopw [16] (fun c wr => ∃ k : Nat, k ≤ L ∧ c = .int .i64 k ∧ WAt s l k W W.heap.size wr) (fun c _ => L - (intOf c).toNat)
  case atStart => exact ⟨0, Nat.zero_le _, rfl, HST.out⟩
  case round =>
    clear HST hmk
    obtain ⟨k, hk, rfl, hrow, hbl, hgs⟩ := hrel
    have HBL := Lib.hid hbl
    by_cases hlt : k < L
    · have hk' : k < l.length := by rw [HL.out]; exact hlt
      obtain ⟨b, o, rfl, hc, hz⟩ := (HI.out.below hbl).at hk'
      have hkw : k < (weigh s l).length := by rw [HWL.out]; exact hlt
      have HNX := Lib.hid (fillZ_set ((0 : Int), (0 : Int)) (weigh s l) k hkw)
      have HLN := Lib.hid (fillZ_len ((0 : Int), (0 : Int)) (weigh s l) k (by omega))
      have HGW := Lib.hid (show (weigh s l)[k] = (l[k], ((wt s l[k] : Nat) : Int)) by simp [weigh])
      rw [HGW.out] at HNX
      obtain ⟨x, hx⟩ : ∃ x, l[k] = x := ⟨_, rfl⟩
      rw [hx] at hc hz HNX
      have q1 : (0 : Int) ≤ (k : Int) := by omega
      have q2 : (k : Int) < (L : Int) := by omega
      have HROW := Lib.hid hrow
      clear hrow hbl hk' hx HGW hkw
      go_wp2_with fail
      refine (weightC s x _ (HT.out.below HBL.out)).mono ?_
      rintro _ w1 ⟨rfl, hb1⟩
      have HB1 := Lib.hid (below_nxt HBL.out hb1 (Nat.le_refl _))
      have HR1 := Lib.hid (HROW.out.keep (hb1.block W.heap.size hgs))
      have hkl : k < (fillZ ((0 : Int), (0 : Int)) (weigh s l) k).length := by rw [HLN.out, HWL.out]; exact hlt
      obtain ⟨z0, c0⟩ : ∃ z : Int, w1.cell? ⟨W.heap.size, k * 2, none⟩ = some (.int .i64 z) := ⟨_, HR1.out.c0 k hkl⟩
      obtain ⟨z1, c1⟩ : ∃ z : Int, w1.cell? ⟨W.heap.size, k * 2 + 1, none⟩ = some (.int .u64 z) := ⟨_, HR1.out.c1 k hkl⟩
      have f0 := HR1.out.free (k * 2) (by omega)
      have f1 := HR1.out.free (k * 2 + 1) (by omega)
      have HX := Lib.hid (show WAt s l (k + 1) W W.heap.size ((w1.setCell ⟨W.heap.size, k * 2, none⟩ (.int .i64 x)).setCell ⟨W.heap.size, k * 2 + 1, none⟩ (.int .u64 (wt s x : Nat))) from
        ⟨by rw [← HNX.out]; exact HR1.out.set k x _, (HB1.out.setCell (Nat.le_refl _) _).setCell (Nat.le_refl _) _, by simpa using Nat.lt_of_lt_of_le hgs hb1.size⟩)
      clear hb1 hgs hkl
      go_wp2
      go_roundw
      case rel => exact ⟨k + 1, by omega, by go_num, HX.out⟩
      case measure => simp [intOf]; omega
    · obtain rfl : k = L := by omega
      rw [← HWL.out, fillZ_all] at hrow
      have HROW := Lib.hid hrow
      have HSL := Lib.hid (show (sortP (weigh s l)).length = k by rw [sortP_len, HWL.out])
      have HSO := Lib.hid (sortP_ord s l)
      obtain ⟨S, hS⟩ : ∃ S, sortP (weigh s l) = S := ⟨_, rfl⟩
      rw [hS] at HSL HSO
      have HS := Lib.hid hS
      clear hrow hbl hS
      go_wp2_with fail
      refine (sortC _ W.heap.size k k (weigh s l) HROW.out hgs HWL.out hl).mono ?_
      rintro _ w2 ⟨rfl, hrow2, hb2⟩
      rw [HS.out] at hrow2
      have HB2 := Lib.hid (HBL.out.trans hb2)
      have HR2 := Lib.hid hrow2
      have hmk2 := HMK.out w2
      have HST2 := Lib.hid (show OAt S 0 W W.heap.size w2.heap.size (w2.alloc (.cells (madeCells #[.int .i64 0] k) 3)) from
        ⟨HR2.out.keep (((Below.refl _ _).alloc (Nat.le_refl _) _).block _ (Nat.lt_of_lt_of_le hgs hb2.size)), by rw [fillZ_zero, List.length_map, HSL.out]; exact made_zeros w2 _ k, HB2.out.alloc (by have := HB2.out.size; omega) _, by simp⟩)
      have HGS := Lib.hid (show W.heap.size < w2.heap.size from Nat.lt_of_lt_of_le hgs hb2.size)
      clear hrow2 hb2 hgs HBL HROW
      go_wp2
      go_loopw [37] (fun c wr => ∃ j : Nat, j ≤ k ∧ c = .int .i64 j ∧ OAt S j W W.heap.size w2.heap.size wr) (fun c _ => k - (intOf c).toNat)
      case atStart => exact ⟨0, Nat.zero_le _, rfl, HST2.out⟩
      case round =>
        clear HST2 hmk2
        obtain ⟨j, hj, rfl, hrow, hro, hbl, hgs⟩ := hrel
        have HSM := Lib.hid (show (S.map Prod.fst).length = k by rw [List.length_map, HSL.out])
        by_cases hlt : j < k
        · have q1 : (0 : Int) ≤ (j : Int) := by omega
          have q2 : (j : Int) < (k : Int) := by omega
          have hjS : j < S.length := by rw [HSL.out]; exact hlt
          have hjM : j < (S.map Prod.fst).length := by rw [HSM.out]; exact hlt
          have c0 := hrow.c0 j hjS
          have c1 := hrow.c1 j hjS
          have HNX := Lib.hid (fillZ_set (0 : Int) (S.map Prod.fst) j hjM)
          have HLN := Lib.hid (fillZ_len (0 : Int) (S.map Prod.fst) j (by omega))
          have HGW := Lib.hid (show (S.map Prod.fst)[j] = S[j].1 by simp)
          rw [HGW.out] at HNX
          obtain ⟨x, hx⟩ : ∃ x, S[j].1 = x := ⟨_, rfl⟩
          obtain ⟨y, hy⟩ : ∃ y, S[j].2 = y := ⟨_, rfl⟩
          rw [hx] at c0 HNX
          rw [hy] at c1
          have cc := hro.cell j (by rw [HLN.out]; exact hjM)
          have fr := hro.free j (by rw [HLN.out]; exact hjM)
          have HROW := Lib.hid hrow
          have HRO := Lib.hid hro
          have HBL := Lib.hid hbl
          have HX := Lib.hid (show OAt S (j + 1) W W.heap.size w2.heap.size ((wr.setCell ⟨w2.heap.size, j, none⟩ (.int .i64 x)).alloc (.cells #[.int .i64 x, .int .u64 y] 37)) from by
            have hsz : (wr.setCell ⟨w2.heap.size, j, none⟩ (.int .i64 x)).heap.size = wr.heap.size := by simp
            have hbb : Below w2.heap.size wr ((wr.setCell ⟨w2.heap.size, j, none⟩ (.int .i64 x)).alloc (.cells #[.int .i64 x, .int .u64 y] 37)) := ((Below.refl w2.heap.size wr).setCell (Nat.le_refl w2.heap.size) _).alloc (by rw [hsz]; omega) _
            refine ⟨hrow.keep (hbb.block _ HGS.out), ?_, hbl.trans (hbb.mono HB2.out.size), by simp; omega⟩
            rw [← HNX.out]
            exact (hro.set j x).keep (((Below.refl (wr.setCell ⟨w2.heap.size, j, none⟩ (.int .i64 x)).heap.size _).alloc (Nat.le_refl _) _).block w2.heap.size (by rw [hsz]; exact hgs)))
          clear hrow hro hbl hx hy HGW hjS hjM
          go_wp2
          go_roundw
          case rel => exact ⟨j + 1, by omega, by go_num, HX.out⟩
          case measure => simp [intOf]; omega
        · obtain rfl : j = k := by omega
          have hro2 := hro
          rw [show fillZ 0 (S.map Prod.fst) j = ord s l by rw [← HSM.out, fillZ_all, HSO.out]] at hro2
          have hol : (ord s l).length = j := by rw [ord_len, HL.out]
          have hin := hro2.ints (C := j) (fun x hx => H64.out x (ord_mem.1 hx)) (by omega) (by omega)
          rw [hol] at hin
          have HIN := Lib.hid hin
          have HBL := Lib.hid hbl
          clear hrow hro hro2 hbl hol hin
          go_wp2
          go_ret
          exact ⟨_, rfl, HIN.out, HBL.out⟩
set_option maxHeartbeats 4000000 in
theorem inC (W : World) (v : Value) (l : List Int) (hI : Ints W v l) (hl : l.length ≤ 100) :
    Calls Tryd.prog 18 #[v] W fun e w' => ∃ u, e = .returned u ∧ Ints w' u (insOf l) ∧ Below W.heap.size W w' := by
  obtain ⟨A, C, rfl, g1, g2, -⟩ := hI.shape
  have HI := Lib.hid hI
  obtain ⟨L, hL⟩ : ∃ L, l.length = L := ⟨_, rfl⟩
  have HL := Lib.hid hL
  have HIL := Lib.hid (show ∀ k, (insOf (l.take k)).length ≤ L from fun k => Nat.le_trans (insOf_len _) (by rw [List.length_take]; omega))
  rw [hL] at hl g1 HI ⊢
  clear hI hL
  go_enter Tryd.func18, Tryd.ntmps18
  go_wp2
  go_loopw [3, 8] (fun v c wr => ∃ k : Nat, k ≤ L ∧ c = .int .i64 k ∧ InsAt l k W v wr) (fun _ c _ => L - (intOf c).toNat)
  case atStart => exact ⟨0, Nat.zero_le _, rfl, by rw [InsAt, List.take_zero]; exact ⟨Built.start _ _ _, Below.refl _ _⟩⟩
  case round =>
    obtain ⟨k, hk, rfl, hbu, hbl⟩ := hrel
    have HBU := Lib.hid hbu
    have HBL := Lib.hid hbl
    by_cases hlt : k < L
    · have hk' : k < l.length := by rw [HL.out]; exact hlt
      obtain ⟨b, o, rfl, hc, hz⟩ := (HI.out.below hbl).at hk'
      have HNX := Lib.hid (insOf_take hk')
      obtain ⟨x, hx⟩ : ∃ x, l[k] = x := ⟨_, rfl⟩
      rw [hx] at hc hz HNX
      have q1 : (0 : Int) ≤ (k : Int) := by omega
      have q2 : (k : Int) < (L : Int) := by omega
      obtain ⟨A1, C1, e1, hl1, hl2⟩ := hbu.len
      obtain ⟨M, hM⟩ : ∃ M, (insOf (l.take k)).length = M := ⟨_, rfl⟩
      have HM := Lib.hid hM
      rw [hM] at e1 hl1
      subst e1
      have hML : M ≤ L := by rw [← hM]; exact HIL.out k
      clear hbu hx hk' hM
      by_cases h1 : x = 1
      · have hq : (x == 1) = true := by rw [h1]; rfl
        have HNX2 := Lib.hid (show insOf (l.take (k + 1)) = insOf (l.take k) ++ [(k : Int)] by rw [HNX.out, if_pos h1])
        clear h1 hbl
        go_wp2_with (at_builtin; refine wpList_append_built (R := IntR) _ rfl (.tmp 15) (.tmp 17) 22 rfl W.heap.size 3 (.int .i64 0) 8 Tryd.underlying22 infoInt rfl _ _ rfl HBU.out _ (k : Int) _ rfl rfl rfl (fun _ _ => ⟨rfl, by omega, by omega⟩) (by rw [HM.out]; omega) HBL.out.size ?_; intro v' w' hbu' hg' hb'; have HX := Lib.hid (show InsAt l (k + 1) W v' w' from ⟨by rw [HNX2.out]; exact hbu', HBL.out.trans hb'⟩); obtain ⟨A2, C2, e2, _⟩ := hbu'.len; obtain ⟨L2, hL2⟩ : ∃ L2, (insOf (l.take k) ++ [(k : Int)]).length = L2 := ⟨_, rfl⟩; rw [hL2] at e2; subst e2; clear hbu' hg' hb' hL2)
        go_roundw
        case rel => exact ⟨k + 1, by omega, by go_num, HX.out⟩
        case measure => simp [intOf]; omega
      · have hq : (x == 1) = false := by simpa using h1
        have HX := Lib.hid (show InsAt l (k + 1) W (.slice A1 M C1) wr from ⟨by rw [HNX.out, if_neg h1, List.append_nil]; exact HBU.out, HBL.out⟩)
        clear h1 hbl
        go_wp2
        go_roundw
        case rel => exact ⟨k + 1, by omega, by go_num, HX.out⟩
        case measure => simp [intOf]; omega
    · obtain rfl : k = L := by omega
      rw [List.take_of_length_le (Nat.le_of_eq HL.out)] at HBU
      obtain ⟨A1, C1, e1, hl1, hl2⟩ := hbu.len
      have HIN := Lib.hid (show Ints wr _ (insOf l) from HBU.out.slice)
      obtain ⟨M, hM⟩ : ∃ M, (insOf (l.take k)).length = M := ⟨_, rfl⟩
      rw [hM] at e1
      subst e1
      clear hbu hbl hM HBU
      go_wp2
      go_ret
      exact ⟨_, rfl, HIN.out, HBL.out⟩
theorem ints_take3 {w : World} {A : Option Addr} {n C : Nat} {l : List Int} (h : Ints w (.slice A n C) l) {j D : Nat} (hj : j ≤ l.length) (hD : j ≤ D) (hC : D ≤ C) : Ints w (.slice A j D) (l.take j) := by
  obtain ⟨A', n', C', q1, q2, q3, q4, q5, q6⟩ := h
  cases q1
  refine ⟨A, j, D, rfl, by simp; omega, hD, by omega, fun e => by have := q5 e; omega, fun i hi => ?_⟩
  have hi' : i < j := by simp at hi; omega
  rw [List.getElem_take]
  exact q6 i (by omega)
set_option maxHeartbeats 4000000 in
theorem targetsC (W : World) (s : Int) (v : Value) (l : List Int) (n : Int) (hT : Tabs W) (hI : Ints W v l) (hs : I64 s) (hn : I64 n) (hl : l.length ≤ 100) :
    Calls Tryd.prog 12 #[.int .i64 s, v, .int .i64 n] W (Tgted W s l n) := by
  obtain ⟨A, C, rfl, g1, g2, -⟩ := hI.shape
  have HI := Lib.hid hI
  have HT := Lib.hid hT
  obtain ⟨n0, n1⟩ := hn
  have HTO := Lib.hid (show tgtOk l n = (decide (0 ≤ n) && decide (n ≤ ((insOf l).length : Int))) from rfl)
  have HOL := Lib.hid (ord_len s (insOf l))
  have hle : (insOf l).length ≤ 100 := Nat.le_trans (insOf_len l) hl
  have HLN := Lib.hid hl
  obtain ⟨M, hM⟩ : ∃ M, (insOf l).length = M := ⟨_, rfl⟩
  have HM := Lib.hid hM
  rw [hM] at HTO HOL hle
  clear hI hT hM
  go_enter Tryd.func12, Tryd.ntmps12
  go_wp2_with fail
  refine (inC _ _ l HI.out HLN.out).mono ?_
  rintro _ w1 ⟨u1, rfl, hu1, hb1⟩
  obtain ⟨A1, C1, rfl, k1, k2, -⟩ := hu1.shape
  rw [HM.out] at hu1 k1 ⊢
  have HU1 := Lib.hid hu1
  have HB1 := Lib.hid hb1
  clear hu1 hb1
  by_cases c1 : n < 0
  · have d1 : decide (n < 0) = true := by simpa using c1
    have HF := Lib.hid (show tgtOk l n = false by rw [HTO.out]; simp; omega)
    go_wp2
    go_ret2
    exact ⟨.slice none 0 0, by rw [HF.out]; rfl, by rw [tgt_no HF.out]; exact Ints.nil _, HB1.out⟩
  · have d1 : decide (n < 0) = false := by simpa using c1
    by_cases c2 : (M : Int) < n
    · have d2 : decide ((M : Int) < n) = true := by simpa using c2
      have HF := Lib.hid (show tgtOk l n = false by rw [HTO.out]; simp; omega)
      go_wp2
      go_ret2
      exact ⟨.slice none 0 0, by rw [HF.out]; rfl, by rw [tgt_no HF.out]; exact Ints.nil _, HB1.out⟩
    · have d2 : decide ((M : Int) < n) = false := by simpa using c2
      have HF := Lib.hid (show tgtOk l n = true by rw [HTO.out]; simp; omega)
      obtain ⟨N, rfl⟩ := Int.eq_ofNat_of_zero_le (show 0 ≤ n by omega)
      have hNM : N ≤ M := by omega
      go_wp2_with fail
      refine (orderC _ s _ (insOf l) (HT.out.below HB1.out) HU1.out hs (by rw [HM.out]; exact hle)).mono ?_
      rintro _ w2 ⟨u, rfl, hu, hb2⟩
      have HB2 := Lib.hid (below_nxt HB1.out hb2 (Nat.le_refl _))
      obtain ⟨A2, C2, rfl, k3, k4, -⟩ := hu.shape
      rw [HOL.out] at hu k3 ⊢
      have hNC : N ≤ C2 := by omega
      have HTT := Lib.hid (show Ints w2 (.slice A2 N N) (tgt s l (N : Nat)) by
        rw [tgt_yes HF.out, Int.toNat_natCast]
        exact ints_take3 hu (by rw [HOL.out]; omega) (Nat.le_refl _) hNC)
      clear hu hb2
      go_wp2
      go_ret2
      exact ⟨.slice A2 N N, by rw [HF.out]; rfl, HTT.out, HB2.out⟩
theorem rankI : RankI Tabs := ⟨fun _ _ h hb => h.below hb, fun W s v l hT hI hs hl => orderC W s v l hT hI hs hl, fun W s v l n hT hI hs hn hl => targetsC W s v l n hT hI hs hn hl⟩
end Go.Proofs.YtcgjoidfmigpnaaDoor.Rk
