/- The law of layer 10 of whatever happens to two tapes, as a walk. -/
import Derived.Test.YtndponihilfidaaTpBoth
import Derived.Test.YtndponihilfidaaBits
import Derived.Deep.LoopGhost
import Derived.Deep.CutRange
import Derived.Deep.CutBlock
import Derived.Deep.RegionHeld3
namespace Go.Proofs.Ytndponihilfidaa.Tape
set_option linter.unusedVariables false
open Go.ChangeShapes Go.WideShapes Go.ChangeAt Go.RowKit
open Go.Mem Tp Same
variable {PD : Thing}
theorem step_append_run {P : Program} (w w' : World) (v' : Value) {ops : Array Oper} {o : Oper} {a : Act} {K : Act → World → Prop} {Q : Exit → Act → World → Prop} {E : Prop} (hgd : o.guard = none) (s x : Operand) (t tn : TypeId)
    (ho : o.op = .call { callee := .builtin .append, args := #[s, x], argTypes := #[t, tn] }) (vs vx : Value) (hs : a.eval s = vs) (hx : a.eval x = vx) (hr : (Builtin.append_ #[t, tn] o.type #[vs, vx]).run P w = .ok v' w') (h : K (a.put o.dst v') w') :
    if Region.wanted o (yielded ops a.tmps) = true then Oper.wp P o a w K Q else E := by
  rw [if_pos (show Region.wanted o (yielded ops a.tmps) = true by simp [Region.wanted, hgd])]
  exact Lib.wp_append_run w s x t tn ho vs vx hs hx v' w' hr h
theorem app1d (w : World) (u : Value) (l : List Nat) (hu : Bytes w u l) (hl : l.length ≤ 4000000) : ∃ v w', (Builtin.append_ #[27, 27] 27 #[.slice (some ⟨w.heap.size, 0, none⟩) 0 0, u]).run Try.prog (w.alloc (.cells #[] 5)).drew = .ok v w' ∧
    RowIn (fun b => w.heap.size ≤ b ∧ b < w'.heap.size) w' v l ∧ Below w.heap.size w w' ∧ ∃ A C, v = .slice A l.length C := by
  obtain ⟨A, C, rfl, h1, h2, -⟩ := hu.shape
  have hx : Below w.heap.size w (w.alloc (.cells #[] 5)).drew := ((Below.refl _ _).alloc (Nat.le_refl _) _).drew
  obtain ⟨v4, w4, hr4, hbu4, hg4, hb4, hat4⟩ := run_append_src (P := Try.prog) (w.alloc (.cells #[] 5)).drew w.heap.size 27 27 27 5 Try.underlying27 infoByte' _ _ ((built_none w (Nat.le_refl _)).below (below_drewN _ _ 1)) _ _ (BSrc.ofBytes Try.underlying27 (hu.below hx)) (by simp only [List.length_nil, Nat.zero_add]; omega) hx.size
  rw [List.nil_append] at hbu4
  obtain ⟨A5, C5, e5, -, -⟩ := hbu4.len
  exact ⟨v4, w4, hr4, hbu4.rowIn (fun b hb => hbu4.own_lt b hb), hx.trans hb4, A5, C5, e5⟩
abbrev actCells (what n : Int) (A1 : Option Addr) (N C1 : Nat) : Array Value := #[.int .i64 what, .int .i64 n, .slice A1 N C1]
theorem Both.start (I : Iface PD) {w w1 : World} {p : Nat} {F : Nat → Prop} {s : St} (h1 : PD w1 F p s) (hF : ∀ b, F b → w.heap.size ≤ b) (hb1 : Below w.heap.size w w1) :
    Both PD w (w1.alloc (.cells #[.slice none 0 0, .slice none 0 0, .bool false, .bool false, .bool false, .slice none 0 0, .slice none 0 0, .bool false, .bool false, .bool false, .int .i64 (-1), .bool false] 32)) p w1.heap.size s fresh (fun _ => False) := by
  have hb2 : Below w1.heap.size w1 (w1.alloc (.cells #[.slice none 0 0, .slice none 0 0, .bool false, .bool false, .bool false, .slice none 0 0, .slice none 0 0, .bool false, .bool false, .bool false, .int .i64 (-1), .bool false] 32)) := (Below.refl _ _).alloc (Nat.le_refl _) _
  refine ⟨F, fun b => b = w1.heap.size, I.turned h1 (Turned.of_below (fun _ => False) hb2) (fun _ q => q.elim), ⟨fun _ => .slice none 0 0, ?_, ?_, rfl, ?_⟩, fun b hb q => by have := I.lt h1 b hb; omega, hF, fun b hb => by subst hb; exact hb1.size, hb1.trans (hb2.mono hb1.size), fun _ q => q.elim⟩
  · exact World.rowIs_alloc w1 _ 32 (tc (fun _ => .slice none 0 0) fresh) (fun i hi => lt12 (P := fun j => (#[Value.slice none 0 0, .slice none 0 0, .bool false, .bool false, .bool false, .slice none 0 0, .slice none 0 0, .bool false, .bool false, .bool false, .int .i64 (-1), .bool false] : Array Value)[j]? = some (tc (fun _ => .slice none 0 0) fresh j)) rfl rfl rfl rfl rfl rfl rfl rfl rfl rfl rfl rfl i hi)
  · intro i hi
    rcases (by omega : i = 0 ∨ i = 1 ∨ i = 2 ∨ i = 3) with rfl | rfl | rfl | rfl <;> exact RowIn.nil _ _
  · intro b hb
    subst hb
    simp
theorem Both.apart {W w : World} {p r : Nat} {s t : St} {N : Nat → Prop} (h : Both PD W w p r s t N) {b : Nat} (hb : N b) : b ≠ r := by
  obtain ⟨F, G, _, ⟨V, h2⟩, _, _, _, _, h7⟩ := h
  exact fun e => (h7 b hb).2.1 (e ▸ h2.gr)
theorem set_far {s : St} {n : Int} (h0 : ¬ n = 0) (h1 : ¬ n = 1) (x : Sd) : s.set n x = s := by unfold St.set; rw [if_neg h0, if_neg h1]
theorem or_one (n : Nat) (hn : n < 9223372036854775808) : bits .or .i64 (n : Int) 1 = ((n ||| 1 : Nat) : Int) := i64_or_nat n 1 hn (by omega)
theorem view_all (s : Sd) (n : Nat) (hn : s.l.length = n) : s.all ((n ||| 1 : Nat) : Int) = s.view := by
  have ho : (n ||| 1) % 2 = 1 := by rw [Nat.or_mod_two_eq_one]; omega
  have hge : n ≤ n ||| 1 := Nat.left_le_or
  unfold Sd.all Sd.view
  split
  · rfl
  · split
    · rw [if_neg (by omega)]
    · rw [Int.toNat_natCast, List.take_of_length_le (by omega)]
theorem read_lost {s : St} {i : Int} (h0 : 0 ≤ i) (h1 : i ≤ 1) (h : (s.sd i).lost = true) : s.readE i = 8 ∧ s.readB i = [] := by
  have e : s.readE i = 8 := by unfold St.readE; rw [if_neg (by omega), if_pos h]
  refine ⟨e, ?_⟩
  unfold St.readB; rw [e]; rfl
theorem read_there {s : St} {i : Int} (h0 : 0 ≤ i) (h1 : i ≤ 1) (h : (s.sd i).lost = false) : s.readE i = 0 ∧ s.readB i = (s.sd i).view := by
  have e : s.readE i = 0 := by unfold St.readE; rw [if_neg (by omega), if_neg (by rw [h]; decide)]
  refine ⟨e, ?_⟩
  unfold St.readB; rw [if_pos e]
theorem byte_up (x : Nat) : ((x : Int) + 1) % 256 = (((x + 1) % 256 : Nat) : Int) := by omega
set_option maxRecDepth 100000 in
set_option maxHeartbeats 16000000 in
theorem TapePlaysC (I : Iface PD) (L : List TAct) (v : Value) (w : World) (hL : TActs w v L) :
    Calls Try.prog 3 #[v] w fun e w' => e = .returned (.bool true) ∧ Below w.heap.size w w' := by
  obtain ⟨A, C, rfl, h1, h2, _⟩ := hL.shape
  obtain ⟨m, hm⟩ : ∃ m, L.length = m := ⟨_, rfl⟩
  rw [hm] at h1 hL ⊢
  have HL := Lib.hid hL
  have HM := Lib.hid hm
  clear hL hm
  by_cases hlong : 100 < m
  · have hd : (100 : Int) < (m : Int) := by omega
    go_enter Try.func3, Try.ntmps3
    go_wp2_with fail
    refine (answersC I w).mono ?_
    rintro _ w1 ⟨rfl, hb1⟩
    go_wp2_with fail
    go_ret
    exact ⟨rfl, hb1⟩
  · have hd : ¬ (100 : Int) < (m : Int) := by omega
    go_enter Try.func3, Try.ntmps3
    go_wp2_with fail
    refine (I.new w).mono ?_
    rintro _ w1 ⟨F1, p, rfl, hp1, hf1, hb1⟩
    have HBO0 := Lib.hid (Both.start I hp1 hf1 hb1)
    clear hp1 hf1 hb1
    go_upto_region 4 with (fail)
    generalize hw2 : w1.alloc (.cells #[.slice none 0 0, .slice none 0 0, .bool false, .bool false, .bool false, .slice none 0 0, .slice none 0 0, .bool false, .bool false, .bool false, .int .i64 (-1), .bool false] 32) = w2 at HBO0
    obtain ⟨r, hr⟩ : ∃ r, w1.heap.size = r := ⟨_, rfl⟩
    rw [hr] at HBO0 ⊢
    have HBO := Lib.hid HBO0.out
    clear HBO0 hw2 hr
    go_wp2_with fail
    go_loopg [5] m (fun k c wr => ∃ i : Nat, i + k = m ∧ c = .int .i64 i ∧ ∃ s : St, s.fit (300 * i) ∧ Both PD w wr p r s s (fun _ => False))
    case atStart => exact ⟨0, by omega, rfl, fresh, fresh_fit _, HBO.out⟩
    case round =>
      obtain ⟨i, hik, rfl, s, hsf, hbo⟩ := hrel
      have HBR := Lib.hid hbo
      have HSF := Lib.hid hsf
      clear hbo hsf
      by_cases hlt : i < m
      · obtain ⟨b, o, A1, C1, rfl, c0, c1, c2, hbb, hxk⟩ := HL.out.at (i := i) (by rw [HM.out]; exact hlt)
        obtain ⟨x, hx⟩ : ∃ x, L[i]'(by rw [HM.out]; exact hlt) = x := ⟨_, rfl⟩
        rw [hx] at c0 c1 c2 hbb hxk
        obtain ⟨q1, q2, q3, q4⟩ := hxk
        obtain ⟨what, n, bl⟩ := x
        dsimp only at c0 c1 c2 hbb q1 q2 q3 q4
        obtain ⟨N, hN⟩ : ∃ N, bl.length = N := ⟨_, rfl⟩
        rw [hN] at c2 hbb
        have HBB := Lib.hid hbb
        have HN := Lib.hid hN
        have c0 := below_cell HBR.out.bel _ _ c0
        have c1 := below_cell HBR.out.bel _ _ c1
        have c2 := below_cell HBR.out.bel _ _ c2
        have hN1 : N ≤ C1 := by
          obtain ⟨A', C', e, k1, _⟩ := hbb.shape
          cases e
          rw [hN] at k1
          exact k1
        have l1 : (i : Int) < (m : Int) := by omega
        clear hx hbb hN
        go_upto_region 8 with (fail)
        clear c0 c1 c2
        have hal : Below wr.heap.size wr (wr.alloc (.cells (actCells what n A1 N C1) 34)) := (Below.refl _ _).alloc (Nat.le_refl _) _
        have HBA0 := Lib.hid (HBR.out.more I hal (M := fun b => b = wr.heap.size) (fun b hb => by subst hb; simp))
        have HQB0 := Lib.hid (heap_alloc_new wr (.cells (actCells what n A1 N C1) 34))
        have hgo : wr.alloc (.cells #[.int .i64 what, .int .i64 n, .slice A1 N C1] 34) = wr.alloc (.cells (actCells what n A1 N C1) 34) := rfl
        rw [hgo]
        clear hgo
        generalize hwa : wr.alloc (.cells (actCells what n A1 N C1) 34) = wa at HBA0 HQB0
        obtain ⟨Q, hQ⟩ : ∃ Q, wr.heap.size = Q := ⟨_, rfl⟩
        rw [hQ] at HBA0 HQB0 ⊢
        have HBA := Lib.hid (show Both PD w wa p r s s (fun b => b = Q) from HBA0.out.less (fun b hb => .inr hb))
        have HQB := Lib.hid (show wa.heap[Q]? = some (.cells (actCells what n A1 N C1) 34 (0, 0)) from HQB0.out)
        clear hal HBA0 HQB0 hwa hQ
        have a0 : wa.cell? ⟨Q, 0, none⟩ = some (.int .i64 what) := by rw [cell_of_row _ _ _ _ _ _ HQB.out]; rfl
        have a1 : wa.cell? ⟨Q, 1, none⟩ = some (.int .i64 n) := by rw [cell_of_row _ _ _ _ _ _ HQB.out]; rfl
        have a2 : wa.cell? ⟨Q, 2, none⟩ = some (.slice A1 N C1) := by rw [cell_of_row _ _ _ _ _ _ HQB.out]; rfl
        by_cases hbig : 300 < N
        · have hbg : (300 : Int) < (N : Int) := by omega
          go_wp2_with fail
          go_roundg (gk - 1)
          case measure => omega
          case rel => exact ⟨i + 1, by omega, by go_num, s, fit_mono HSF.out (by omega), HBA.out.less (fun _ q => q.elim)⟩
        · have hbg : ¬ (300 : Int) < (N : Int) := by omega
          obtain ⟨vi, wi, hri, hvi, hbi, hbui, Ai, Cn, ei⟩ := app1 wa (.slice A1 N C1) bl (HBB.out.below HBA.out.bel) (by rw [HN.out]; omega)
          rw [HN.out] at ei
          subst ei
          have HRI := Lib.hid hri
          have HBUI := Lib.hid hbui
          have HBI := Lib.hid (HBA.out.more I hbi (M := fun b => Value.ownBlock (.slice Ai N Cn) = some b) (fun b hb => hbui.own_lt b hb))
          have HQI := Lib.hid ((hbi.block Q (Array.getElem?_eq_some_iff.1 HQB.out).1).trans HQB.out)
          have HVI := Lib.hid (show RowIn (fun b => b = Q ∨ Value.ownBlock (.slice Ai N Cn) = some b) wi (.slice Ai N Cn) bl from hbui.rowIn (fun b hb => .inr hb))
          have hpl : Q < wa.heap.size := (Array.getElem?_eq_some_iff.1 HQB.out).1
          clear hri hbui hbi hvi
          have i0 : wi.cell? ⟨Q, 0, none⟩ = some (.int .i64 what) := by rw [cell_of_row _ _ _ _ _ _ HQI.out]; rfl
          have i1 : wi.cell? ⟨Q, 1, none⟩ = some (.int .i64 n) := by rw [cell_of_row _ _ _ _ _ _ HQI.out]; rfl
          have i2 : wi.cell? ⟨Q, 2, none⟩ = some (.slice A1 N C1) := by rw [cell_of_row _ _ _ _ _ _ HQI.out]; rfl
          go_upto_block 2 with (at_builtin; refine Lib.wpList_append_run _ rfl (.tmp 35) (.tmp 37) _ _ rfl _ _ rfl rfl _ _ HRI.out ?_)
          have HUP := Lib.hid (show s.upto 1000000 from fit_upto HSF.out (by omega))
          clear a0 a1 a2 hpl
          go_cut [7, 8] from 21 to 202 (fun e f wx => ∃ (s' : St) (c : Int), e = .int .i64 c ∧ f = .int .i64 c ∧ s'.fit (300 * (i + 1)) ∧ Both PD w wx p r s' s' (fun b => b = Q ∨ Value.ownBlock (.slice Ai N Cn) = some b) ∧ ∀ b, b = Q ∨ Value.ownBlock (.slice Ai N Cn) = some b → wx.heap[b]? = wi.heap[b]?)
          case first =>
            by_cases hw0 : what = 0
            · subst hw0
              as_aux_lemma =>
                go_upto_region 13 with (fail)
                go_region_law (first
                  | (go_simp; go_at_call 9; refine (Both.append I (HBI.out.below I (Below.refl _ _).drew) HUP.out bl _ (below_row HVI.out (Below.refl _ _).drew) (by rw [HN.out]; omega)).mono ?_; rintro _ w7 ⟨rfl, hbo7, hn7⟩; have HBO7 := Lib.hid hbo7; have HN7 := Lib.hid hn7; have HQ7 := Lib.hid ((hn7 Q (.inl rfl)).trans (show wi.drew.heap[Q]? = _ from HQI.out)); have k2 : w7.cell? ⟨Q, 2, none⟩ = some (.slice A1 N C1) := by rw [cell_of_row _ _ _ _ _ _ HQ7.out]; rfl
                     clear hbo7 hn7)
                  | (go_simp; go_at_call 10; refine (Both.rwrite I HBO7.out HUP.out HSF.out.2.2 bl _ HBB.out (by rw [HN.out]; omega) false).mono ?_; rintro _ w8 ⟨rfl, hbo8, hn8⟩; have HBO8 := Lib.hid hbo8; have HN8 := Lib.hid hn8; clear hbo8 hn8))
                all_goals
                  clear k2
                  go_wp2_with fail
                  go_meet
                  case rel => exact ⟨s.write bl false, s.writeE, rfl, rfl, fit_mono (write_fit HSF.out (m := 300) (by rw [HN.out]; omega) false) (by omega), HBO8.out, fun b hb => (HN8.out b hb).trans (HN7.out b hb)⟩
            have g0 : (what == 0) = false := by rw [beq_eq_false_iff_ne]; exact hw0
            by_cases hw1 : what = 1
            · subst hw1
              clear hw0 g0
              as_aux_lemma =>
                go_upto_region 15 with (fail)
                go_region_law (first
                  | (go_simp; go_at_call 11; refine (Both.replace I (HBI.out.below I (Below.refl _ _).drew) HUP.out bl _ (below_row HVI.out (Below.refl _ _).drew) (by rw [HN.out]; omega)).mono ?_; rintro _ w7 ⟨rfl, hbo7, hn7⟩; have HBO7 := Lib.hid hbo7; have HN7 := Lib.hid hn7; have HQ7 := Lib.hid ((hn7 Q (.inl rfl)).trans (show wi.drew.heap[Q]? = _ from HQI.out)); have k2 : w7.cell? ⟨Q, 2, none⟩ = some (.slice A1 N C1) := by rw [cell_of_row _ _ _ _ _ _ HQ7.out]; rfl
                     clear hbo7 hn7)
                  | (go_simp; go_at_call 10; refine (Both.rwrite I HBO7.out HUP.out HSF.out.2.2 bl _ HBB.out (by rw [HN.out]; omega) true).mono ?_; rintro _ w8 ⟨rfl, hbo8, hn8⟩; have HBO8 := Lib.hid hbo8; have HN8 := Lib.hid hn8; clear hbo8 hn8))
                all_goals
                  clear k2
                  go_wp2_with fail
                  go_meet
                  case rel => exact ⟨s.write bl true, s.writeE, rfl, rfl, fit_mono (write_fit HSF.out (m := 300) (by rw [HN.out]; omega) true) (by omega), HBO8.out, fun b hb => (HN8.out b hb).trans (HN7.out b hb)⟩
            have g1 : (what == 1) = false := by rw [beq_eq_false_iff_ne]; exact hw1
            by_cases hw2 : what = 2
            · subst hw2
              clear hw0 g0 hw1 g1
              as_aux_lemma =>
                go_wp2_with fail
                refine (Both.fuse I HBI.out n ⟨q3, q4⟩).mono ?_
                rintro _ w7 ⟨rfl, hbo7, hn7⟩
                have HBO7 := Lib.hid hbo7
                have HN7 := Lib.hid hn7
                have HQ7 := Lib.hid ((hn7 Q (.inl rfl)).trans HQI.out)
                have k1 : w7.cell? ⟨Q, 1, none⟩ = some (.int .i64 n) := by rw [cell_of_row _ _ _ _ _ _ HQ7.out]; rfl
                obtain ⟨G7, V7, hat7, hall7⟩ := hbo7.ron I
                have hQr : Q ≠ r := hbo7.apart (.inl rfl)
                have hrQ : r ≠ Q := fun q => hQr q.symm
                have e10 := hat7.cell (i := 10) (by omega)
                have f10 := hat7.free 10
                clear hbo7 hn7
                by_cases hn0 : n < 0
                · have hd0 : decide (n < 0) = true := by simpa using hn0
                  have HX := Lib.hid (hall7 _ _ _ _ ((hat7.on.fuse n).fuse 0))
                  have HB := Lib.hid (show ({ ({ s with fuse := n } : St) with fuse := 0 } : St) = s.burn n by unfold St.burn; rw [if_pos hn0])
                  have e10' : (w7.setCell ⟨r, 10, none⟩ (.int .i64 n)).cell? ⟨r, 10, none⟩ = some (.int .i64 n) := (hat7.fuse n).cell (i := 10) (by omega)
                  have f10' := (hat7.fuse n).free 10
                  have k1' : (w7.setCell ⟨r, 10, none⟩ (.int .i64 n)).cell? ⟨Q, 1, none⟩ = some (.int .i64 n) := (World.cell?_of_block (w := w7) (a := ⟨Q, 1, none⟩) (Below.heap_setCell w7 ⟨r, 10, none⟩ _ Q hQr)).trans k1
                  clear hat7 hall7 hn0
                  go_wp2_with fail
                  go_meet
                  case rel => exact ⟨s.burn n, 0, rfl, rfl, fit_mono (burn_fit HSF.out q4) (by omega), HB.out ▸ HX.out.1, fun b hb => (HX.out.2 b hb).trans (HN7.out b hb)⟩
                · have hd0 : decide (n < 0) = false := by simpa using hn0
                  have HX := Lib.hid (hall7 _ _ _ _ (hat7.on.fuse n))
                  have HB := Lib.hid (show ({ s with fuse := n } : St) = s.burn n by unfold St.burn; rw [if_neg hn0])
                  have k1' : (w7.setCell ⟨r, 10, none⟩ (.int .i64 n)).cell? ⟨Q, 1, none⟩ = some (.int .i64 n) := (World.cell?_of_block (w := w7) (a := ⟨Q, 1, none⟩) (Below.heap_setCell w7 ⟨r, 10, none⟩ _ Q hQr)).trans k1
                  clear hat7 hall7 hn0
                  go_wp2_with fail
                  go_meet
                  case rel => exact ⟨s.burn n, 0, rfl, rfl, fit_mono (burn_fit HSF.out q4) (by omega), HB.out ▸ HX.out.1, fun b hb => (HX.out.2 b hb).trans (HN7.out b hb)⟩
            have g2 : (what == 2) = false := by rw [beq_eq_false_iff_ne]; exact hw2
            by_cases hw3 : what = 3
            · subst hw3
              clear hw0 g0 hw1 g1 hw2 g2
              as_aux_lemma =>
                go_wp2_with fail
                refine (Both.crash I HBI.out HUP.out n ⟨q3, q4⟩).mono ?_
                rintro _ w7 ⟨rfl, hbo7, hn7⟩
                have HBO7 := Lib.hid hbo7
                have HN7 := Lib.hid hn7
                have HQ7 := Lib.hid ((hn7 Q (.inl rfl)).trans HQI.out)
                have k1 : w7.cell? ⟨Q, 1, none⟩ = some (.int .i64 n) := by rw [cell_of_row _ _ _ _ _ _ HQ7.out]; rfl
                clear hbo7 hn7
                go_wp2_with fail
                refine (Both.rcrash I HBO7.out HUP.out n ⟨q3, q4⟩).mono ?_
                rintro _ w8 ⟨rfl, hbo8, hn8⟩
                have HBO8 := Lib.hid hbo8
                have HN8 := Lib.hid hn8
                clear hbo8 hn8 k1
                go_wp2_with fail
                go_meet
                case rel => exact ⟨s.crash n, 0, rfl, rfl, fit_mono (crash_fit HSF.out n) (by omega), HBO8.out, fun b hb => (HN8.out b hb).trans (HN7.out b hb)⟩
            have g3 : (what == 3) = false := by rw [beq_eq_false_iff_ne]; exact hw3
            by_cases hw4 : what = 4
            · subst hw4
              clear hw0 g0 hw1 g1 hw2 g2 hw3 g3
              as_aux_lemma =>
                go_wp2_with fail
                refine (Both.lose I HBI.out n ⟨q3, q4⟩).mono ?_
                rintro _ w7 ⟨rfl, hbo7, hn7⟩
                have HBO7 := Lib.hid hbo7
                have HN7 := Lib.hid hn7
                have HQ7 := Lib.hid ((hn7 Q (.inl rfl)).trans HQI.out)
                have k1 : w7.cell? ⟨Q, 1, none⟩ = some (.int .i64 n) := by rw [cell_of_row _ _ _ _ _ _ HQ7.out]; rfl
                obtain ⟨G7, V7, hat7, hall7⟩ := hbo7.ron I
                have hQr : Q ≠ r := hbo7.apart (.inl rfl)
                have hrQ : r ≠ Q := fun q => hQr q.symm
                have HSP := Lib.hid (show s.lose n = s.lose n from rfl)
                have HFT := Lib.hid (show (s.lose n).fit (300 * (i + 1)) from fit_mono (lose_fit HSF.out n) (by omega))
                clear hbo7 hn7
                by_cases hc0 : n = 0
                · subst hc0
                  have e0 := hat7.cell (i := 0) (by omega)
                  have f0 := hat7.free 0
                  have e1 := hat7.cell (i := 1) (by omega)
                  have f1 := hat7.free 1
                  have e2 := hat7.cell (i := 2) (by omega)
                  have f2 := hat7.free 2
                  have e3 := hat7.cell (i := 3) (by omega)
                  have f3 := hat7.free 3
                  have e4 := hat7.cell (i := 4) (by omega)
                  have f4 := hat7.free 4
                  have HX := Lib.hid (hall7 _ _ _ _ (((((((hat7.on.b0 (.slice none 0 0) [] (RowIn.nil _ _)).l0 (.slice none 0 0) [] (RowIn.nil _ _)).wet0 false).swap0 false).lost0 true).below (below_drewN _ _ 1))))
                  clear hat7 hall7
                  go_wp2_with fail
                  go_region_law (fail)
                  all_goals
                    clear e0 e1 e2 e3 e4 f0 f1 f2 f3 f4 k1
                    go_wp2_with fail
                    go_meet
                    case rel => exact ⟨s.lose 0, 0, rfl, rfl, HFT.out, HX.out.1, fun b hb => (HX.out.2 b hb).trans (HN7.out b hb)⟩
                by_cases hc1 : n = 1
                · subst hc1
                  have e0 := hat7.cell (i := 5) (by omega)
                  have f0 := hat7.free 5
                  have e1 := hat7.cell (i := 6) (by omega)
                  have f1 := hat7.free 6
                  have e2 := hat7.cell (i := 7) (by omega)
                  have f2 := hat7.free 7
                  have e3 := hat7.cell (i := 8) (by omega)
                  have f3 := hat7.free 8
                  have e4 := hat7.cell (i := 9) (by omega)
                  have f4 := hat7.free 9
                  have HX := Lib.hid (hall7 _ _ _ _ (((((((hat7.on.b1 (.slice none 0 0) [] (RowIn.nil _ _)).l1 (.slice none 0 0) [] (RowIn.nil _ _)).wet1 false).swap1 false).lost1 true).below (below_drewN _ _ 1))))
                  clear hat7 hall7
                  go_wp2_with fail
                  go_region_law (fail)
                  all_goals
                    clear e0 e1 e2 e3 e4 f0 f1 f2 f3 f4 k1
                    go_wp2_with fail
                    go_meet
                    case rel => exact ⟨s.lose 1, 0, rfl, rfl, HFT.out, HX.out.1, fun b hb => (HX.out.2 b hb).trans (HN7.out b hb)⟩
                have g0 : (n == 0) = false := by rw [beq_eq_false_iff_ne]; exact hc0
                have g1' : (n == 1) = false := by rw [beq_eq_false_iff_ne]; exact hc1
                have HX := Lib.hid (show s.lose n = s from set_far hc0 hc1 _)
                clear hat7 hall7 hc0 hc1
                go_wp2_with fail
                go_meet
                case rel => exact ⟨s.lose n, 0, rfl, rfl, HFT.out, by have := HBO7.out; rw [HX.out] at this ⊢; exact this, fun b hb => HN7.out b hb⟩
            have g4 : (what == 4) = false := by rw [beq_eq_false_iff_ne]; exact hw4
            by_cases hw5 : what = 5
            · subst hw5
              clear hw0 g0 hw1 g1 hw2 g2 hw3 g3 hw4 g4
              as_aux_lemma =>
                go_wp2_with fail
                refine (Both.spoil I HBI.out HUP.out n ⟨q3, q4⟩ bl _ HVI.out (by rw [HN.out]; omega)).mono ?_
                rintro _ w7 ⟨rfl, hbo7, hn7⟩
                have HBO7 := Lib.hid hbo7
                have HN7 := Lib.hid hn7
                have HQ7 := Lib.hid ((hn7 Q (.inl rfl)).trans HQI.out)
                have k1 : w7.cell? ⟨Q, 1, none⟩ = some (.int .i64 n) := by rw [cell_of_row _ _ _ _ _ _ HQ7.out]; rfl
                obtain ⟨G7, V7, hat7, hall7⟩ := hbo7.ron I
                have hQr : Q ≠ r := hbo7.apart (.inl rfl)
                have hrQ : r ≠ Q := fun q => hQr q.symm
                have HSP := Lib.hid (show s.spoil n bl = s.spoil n bl from rfl)
                have HFT := Lib.hid (show (s.spoil n bl).fit (300 * (i + 1)) from fit_mono (spoil_fit HSF.out n (l := bl) (m := 300) (by rw [HN.out]; omega)) (by omega))
                clear hbo7 hn7
                by_cases hc0 : n = 0
                · subst hc0
                  obtain ⟨v8, w8, hr8, hv8, hb8, -, A8, C8, e8⟩ := app1 (w7.drewN 1) (.slice A1 N C1) bl ((HBB.out.below HBO7.out.bel).drewN 1) (by rw [HN.out]; omega)
                  have hb8 : Below w7.heap.size w7 w8 := (below_drewN _ w7 1).trans hb8
                  have hv8 : RowIn (fun b => w7.heap.size ≤ b ∧ b < w8.heap.size) w8 v8 bl := hv8
                  rw [HN.out] at e8
                  subst e8
                  have hon8 := hat7.on.news hb8
                  have hon9 := (((((hon8.b0 _ bl (hat7.on.new_row hv8)).l0 (.slice none 0 0) [] (RowIn.nil _ _)).wet0 false).swap0 false).lost0 s.s0.lost)
                  have HX := Lib.hid (hall7 _ _ _ _ hon9)
                  have e4 : w7.cell? ⟨r, 4, none⟩ = some (.bool s.s0.lost) := hat7.cell (i := 4) (by omega)
                  obtain ⟨lo, hlo⟩ : ∃ x, s.s0.lost = x := ⟨_, rfl⟩
                  have HLO := Lib.hid hlo
                  rw [hlo] at e4 HX hon9
                  have P4 : _ = some (Value.bool lo) := hon9.1.cell (i := 4) (by omega)
                  have P4 := Lib.hid P4
                  have P1 := Lib.hid ((World.cell?_of_block (w := w7) (a := ⟨Q, 1, none⟩) (HX.out.2 Q (.inl rfl))).trans k1)
                  have HST := Lib.hid (show s.spoil 0 bl = ({ s with s0 := ⟨bl, [], false, false, lo⟩ } : St) by rw [← hlo]; rfl)
                  have k2 : w7.cell? ⟨Q, 2, none⟩ = some (.slice A1 N C1) := by rw [cell_of_row _ _ _ _ _ _ HQ7.out]; rfl
                  have P2 := Lib.hid ((World.cell?_of_block (w := w7) (a := ⟨Q, 2, none⟩) (HX.out.2 Q (.inl rfl))).trans k2)
                  have hal7 : Below w7.heap.size w7 (w7.alloc (.cells #[] 5)) := (Below.refl _ _).alloc (Nat.le_refl _) _
                  have k2' : (w7.alloc (.cells #[] 5)).cell? ⟨Q, 2, none⟩ = some (.slice A1 N C1) := below_cell hal7 _ _ k2
                  have k1' : (w7.alloc (.cells #[] 5)).cell? ⟨Q, 1, none⟩ = some (.int .i64 0) := below_cell hal7 _ _ k1
                  have k1'' : w8.cell? ⟨Q, 1, none⟩ = some (.int .i64 0) := below_cell hb8 _ _ k1
                  have k2'' : w8.cell? ⟨Q, 2, none⟩ = some (.slice A1 N C1) := below_cell hb8 _ _ k2
                  have m4 : w8.cell? ⟨r, 4, none⟩ = some (.bool lo) := below_cell hb8 _ _ e4
                  have e4' : (w7.alloc (.cells #[] 5)).cell? ⟨r, 4, none⟩ = some (.bool lo) := below_cell hal7 _ _ e4
                  have m0 := hon8.1.cell (i := 0) (by omega)
                  have m1 := hon8.1.cell (i := 1) (by omega)
                  have m2 := hon8.1.cell (i := 2) (by omega)
                  have m3 := hon8.1.cell (i := 3) (by omega)
                  have n0 := hon8.1.free 0
                  have n1 := hon8.1.free 1
                  have n2 := hon8.1.free 2
                  have n3 := hon8.1.free 3
                  have n4 := hon8.1.free 4
                  have HR8 := Lib.hid hr8
                  clear hat7 hall7 hr8 hv8 hb8 hon8 hon9 hlo hal7
                  go_wp2_with fail
                  go_region_held3 (fun w' => w'.cell? ⟨Q, 1, none⟩ = some (.int .i64 0) ∧ w'.cell? ⟨Q, 2, none⟩ = some (.slice A1 N C1) ∧ w'.cell? ⟨r, 4, none⟩ = some (.bool lo))
                    (first | go_keep | with_reducible exact ⟨k1'', k2'', m4⟩ | with_reducible exact ⟨P1.out, P2.out, P4.out⟩ | exact ⟨P1.out, P2.out, P4.out⟩)
                    (refine step_append_run _ _ _ rfl (.tmp 133) (.tmp 135) _ _ rfl _ _ rfl rfl HR8.out ?_)
                  all_goals
                    clear e4 k1 k2 k2' k1' k1'' k2'' m0 m1 m2 m3 m4 n0 n1 n2 n3 n4 e4'
                    go_wp2_with fail
                    go_meet
                    case rel => exact ⟨s.spoil 0 bl, 0, rfl, rfl, HFT.out, by have hq := HX.out.1; rw [← HST.out] at hq; exact hq, fun b hb => (HX.out.2 b hb).trans (HN7.out b hb)⟩
                by_cases hc1 : n = 1
                · subst hc1
                  obtain ⟨v8, w8, hr8, hv8, hb8, -, A8, C8, e8⟩ := app1 (w7.drewN 1) (.slice A1 N C1) bl ((HBB.out.below HBO7.out.bel).drewN 1) (by rw [HN.out]; omega)
                  have hb8 : Below w7.heap.size w7 w8 := (below_drewN _ w7 1).trans hb8
                  have hv8 : RowIn (fun b => w7.heap.size ≤ b ∧ b < w8.heap.size) w8 v8 bl := hv8
                  rw [HN.out] at e8
                  subst e8
                  have hon8 := hat7.on.news hb8
                  have hon9 := (((((hon8.b1 _ bl (hat7.on.new_row hv8)).l1 (.slice none 0 0) [] (RowIn.nil _ _)).wet1 false).swap1 false).lost1 s.s1.lost)
                  have HX := Lib.hid (hall7 _ _ _ _ hon9)
                  have e4 : w7.cell? ⟨r, 9, none⟩ = some (.bool s.s1.lost) := hat7.cell (i := 9) (by omega)
                  obtain ⟨lo, hlo⟩ : ∃ x, s.s1.lost = x := ⟨_, rfl⟩
                  have HLO := Lib.hid hlo
                  rw [hlo] at e4 HX hon9
                  have P4 : _ = some (Value.bool lo) := hon9.1.cell (i := 9) (by omega)
                  have P4 := Lib.hid P4
                  have P1 := Lib.hid ((World.cell?_of_block (w := w7) (a := ⟨Q, 1, none⟩) (HX.out.2 Q (.inl rfl))).trans k1)
                  have HST := Lib.hid (show s.spoil 1 bl = ({ s with s1 := ⟨bl, [], false, false, lo⟩ } : St) by rw [← hlo]; rfl)
                  have k2 : w7.cell? ⟨Q, 2, none⟩ = some (.slice A1 N C1) := by rw [cell_of_row _ _ _ _ _ _ HQ7.out]; rfl
                  have P2 := Lib.hid ((World.cell?_of_block (w := w7) (a := ⟨Q, 2, none⟩) (HX.out.2 Q (.inl rfl))).trans k2)
                  have hal7 : Below w7.heap.size w7 (w7.alloc (.cells #[] 5)) := (Below.refl _ _).alloc (Nat.le_refl _) _
                  have k2' : (w7.alloc (.cells #[] 5)).cell? ⟨Q, 2, none⟩ = some (.slice A1 N C1) := below_cell hal7 _ _ k2
                  have k1' : (w7.alloc (.cells #[] 5)).cell? ⟨Q, 1, none⟩ = some (.int .i64 1) := below_cell hal7 _ _ k1
                  have k1'' : w8.cell? ⟨Q, 1, none⟩ = some (.int .i64 1) := below_cell hb8 _ _ k1
                  have k2'' : w8.cell? ⟨Q, 2, none⟩ = some (.slice A1 N C1) := below_cell hb8 _ _ k2
                  have m4 : w8.cell? ⟨r, 9, none⟩ = some (.bool lo) := below_cell hb8 _ _ e4
                  have e4' : (w7.alloc (.cells #[] 5)).cell? ⟨r, 9, none⟩ = some (.bool lo) := below_cell hal7 _ _ e4
                  have m0 := hon8.1.cell (i := 5) (by omega)
                  have m1 := hon8.1.cell (i := 6) (by omega)
                  have m2 := hon8.1.cell (i := 7) (by omega)
                  have m3 := hon8.1.cell (i := 8) (by omega)
                  have n0 := hon8.1.free 5
                  have n1 := hon8.1.free 6
                  have n2 := hon8.1.free 7
                  have n3 := hon8.1.free 8
                  have n4 := hon8.1.free 9
                  have HR8 := Lib.hid hr8
                  clear hat7 hall7 hr8 hv8 hb8 hon8 hon9 hlo hal7
                  go_wp2_with fail
                  go_region_held3 (fun w' => w'.cell? ⟨Q, 1, none⟩ = some (.int .i64 1) ∧ w'.cell? ⟨Q, 2, none⟩ = some (.slice A1 N C1) ∧ w'.cell? ⟨r, 9, none⟩ = some (.bool lo))
                    (first | go_keep | with_reducible exact ⟨k1'', k2'', m4⟩ | with_reducible exact ⟨P1.out, P2.out, P4.out⟩ | exact ⟨P1.out, P2.out, P4.out⟩)
                    (refine step_append_run _ _ _ rfl (.tmp 133) (.tmp 135) _ _ rfl _ _ rfl rfl HR8.out ?_)
                  all_goals
                    clear e4 k1 k2 k2' k1' k1'' k2'' m0 m1 m2 m3 m4 n0 n1 n2 n3 n4 e4'
                    go_wp2_with fail
                    go_meet
                    case rel => exact ⟨s.spoil 1 bl, 0, rfl, rfl, HFT.out, by have hq := HX.out.1; rw [← HST.out] at hq; exact hq, fun b hb => (HX.out.2 b hb).trans (HN7.out b hb)⟩
                have g0 : (n == 0) = false := by rw [beq_eq_false_iff_ne]; exact hc0
                have g1' : (n == 1) = false := by rw [beq_eq_false_iff_ne]; exact hc1
                have HX := Lib.hid (show s.spoil n bl = s from set_far hc0 hc1 _)
                clear hat7 hall7 hc0 hc1
                go_wp2_with fail
                go_meet
                case rel => exact ⟨s.spoil n bl, 0, rfl, rfl, HFT.out, by have := HBO7.out; rw [HX.out] at this ⊢; exact this, fun b hb => HN7.out b hb⟩
            have g5 : (what == 5) = false := by rw [beq_eq_false_iff_ne]; exact hw5
            go_wp2_with fail
            go_meet
            case rel => exact ⟨s, 0, rfl, rfl, fit_mono HSF.out (by omega), HBI.out, fun b hb => rfl⟩
          case rest =>
            as_aux_lemma =>
              obtain ⟨s', c, rfl, rfl, hsf', hbo', hst'⟩ := hcut
              have HBC := Lib.hid hbo'
              have HSF' := Lib.hid hsf'
              have HUP' := Lib.hid (show s'.upto 1000000 from fit_upto hsf' (by omega))
              have HRW := Lib.hid (show ∃ g f, (0 < N → Ai = some ⟨g, 0, none⟩) ∧ Row wc g 0 N f by
                by_cases h0 : 0 < N
                · obtain ⟨g, C', e, _, _, hg⟩ := HBUI.out.some (n := N) HN.out h0
                  cases e
                  have hr := HBUI.out.writes
                  rw [HN.out] at hr
                  exact ⟨g, _, fun _ => rfl, hr.keep (hst' g (.inr rfl))⟩
                · obtain rfl : N = 0 := by omega
                  exact ⟨Q + 1, fun _ => 0, fun q => absurd q (by omega), ⟨fun i hi => absurd hi (by omega), fun i hi => absurd hi (by omega), fun i hi => absurd hi (by omega)⟩⟩)
              clear hbo' hsf' hst' i0 i1 i2
              go_wp2_with fail
              go_loopg [10] N (fun kk cc wx => ∃ k : Nat, k + kk = N ∧ cc = .int .i64 k ∧ Both PD w wx p r s' s' (fun b => b = Q ∨ Value.ownBlock (.slice Ai N Cn) = some b) ∧ ∃ g f, (0 < N → Ai = some ⟨g, 0, none⟩) ∧ Row wx g 0 N f)
              case atStart => exact ⟨0, by omega, rfl, HBC.out, HRW.out⟩
              case round =>
                obtain ⟨k, hkk, rfl, hbx, g, f, hg1, hrow⟩ := hrel
                have HBX := Lib.hid hbx
                have HROW := Lib.hid hrow
                clear hbx hrow
                by_cases hkN : k < N
                · have hge := hg1 (by omega)
                  subst hge
                  have b0 := HROW.out.cell k hkN
                  have b1 := HROW.out.free k hkN
                  have b2 := HROW.out.bd k hkN
                  rw [Nat.zero_add] at b0 b1
                  have HR2 := Lib.hid (HROW.out.set (k := k) (x := (f k + 1) % 256) hkN (Nat.mod_lt _ (by omega)))
                  have HB2 := Lib.hid (fun v => HBX.out.turned I (Turned.set (o := k) v (.inr rfl)))
                  rw [Nat.zero_add] at HR2
                  obtain ⟨y, hy⟩ : ∃ y, f k = y := ⟨_, rfl⟩
                  rw [hy] at b0 b2 HR2
                  have HUPB := Lib.hid (byte_up y)
                  have l2 : (k : Int) < (N : Int) := by omega
                  clear hy
                  go_wp2
                  go_roundg (gk - 1)
                  case measure => omega
                  case rel => exact ⟨k + 1, by omega, by go_num, HB2.out _, g, _, fun _ => rfl, by rw [HUPB.out]; exact HR2.out⟩
                · obtain rfl : k = N := by omega
                  clear hkN hg1 HROW
                  have t1 : ((c : Int) != c) = false := by simp
                  obtain ⟨wo, hwo⟩ : ∃ wo : World, wo = wr := ⟨_, rfl⟩
                  subst hwo
                  go_wp2_with fail
                  clear t1
                  go_loopg [11] 2 (fun kk cc wx => ∃ k : Nat, k + kk = 2 ∧ cc = .int .i64 k ∧ Both PD w wx p r s' s' (fun _ => False))
                  case atStart => exact ⟨0, by omega, rfl, HBX.out.less (fun _ q => q.elim)⟩
                  case round =>
                    obtain ⟨k, hkk, rfl, hbx⟩ := hrel
                    clear HBX
                    rcases (by omega : k = 0 ∨ k = 1 ∨ k = 2) with rfl | rfl | rfl
                    · have HBX := Lib.hid hbx
                      clear hbx
                      cases hlo : s'.s0.lost
                      · have hrt := read_there (s := s') (i := 0) (by omega) (by omega) (show (s'.sd 0).lost = false from hlo)
                        go_wp2_with fail
                        refine (Both.read I HBX.out HUP'.out 0 ⟨by omega, by omega⟩).mono ?_
                        rintro _ w9 ⟨u9, rfl, hu9, hb9⟩
                        rw [hrt.1]
                        rw [hrt.2] at hu9
                        have HB9 := Lib.hid (HBX.out.below I hb9)
                        obtain ⟨G9, V9, hat9, -⟩ := (HBX.out.below I hb9).ron I
                        have HU9 := Lib.hid (show Bytes w9 u9 s'.s0.view from hu9)
                        obtain ⟨A9, C9, e9, -, -, -⟩ := hu9.shape
                        obtain ⟨N9, hN9⟩ : ∃ x, (s'.sd 0).view.length = x := ⟨_, rfl⟩
                        rw [hN9] at e9
                        subst e9
                        obtain ⟨B0, D0, e0, -, -, -⟩ := (hat9.rows 0 (by omega)).1.shape
                        obtain ⟨B1, D1, e1, -, -, -⟩ := (hat9.rows 1 (by omega)).1.shape
                        obtain ⟨M0, hM0⟩ : ∃ x, s'.s0.b.length = x := ⟨_, rfl⟩
                        obtain ⟨M1, hM1⟩ : ∃ x, s'.s0.l.length = x := ⟨_, rfl⟩
                        have e0 : V9 0 = .slice B0 M0 D0 := hM0 ▸ e0
                        have e1 : V9 1 = .slice B1 M1 D1 := hM1 ▸ e1
                        have hr0 : RowIn (fun b => G9 b ∧ b ≠ r) w9 (V9 0) s'.s0.b := hat9.rows 0 (by omega)
                        have hr1 : RowIn (fun b => G9 b ∧ b ≠ r) w9 (V9 1) s'.s0.l := hat9.rows 1 (by omega)
                        have d0 : w9.cell? ⟨r, 0, none⟩ = some (V9 0) := hat9.cell (i := 0) (by omega)
                        have d1 : w9.cell? ⟨r, 1, none⟩ = some (V9 1) := hat9.cell (i := 1) (by omega)
                        have d2 : w9.cell? ⟨r, 2, none⟩ = some (.bool s'.s0.wet) := hat9.cell (i := 2) (by omega)
                        have d3 : w9.cell? ⟨r, 3, none⟩ = some (.bool s'.s0.swap) := hat9.cell (i := 3) (by omega)
                        have d4 : w9.cell? ⟨r, 4, none⟩ = some (.bool s'.s0.lost) := hat9.cell (i := 4) (by omega)
                        rw [e0] at hr0 d0
                        rw [e1] at hr1 d1
                        rw [hlo] at d4
                        have hM : M1 ≤ 1000000 := by have := HUP'.out.1.2; omega
                        have HOR := or_one M1 (by omega)
                        have HVA := Lib.hid (view_all s'.s0 M1 hM1)
                        have HTOP := Lib.hid (show (M1 ||| 1) < 2 ^ 20 from Nat.or_lt_two_pow (by omega) (by omega))
                        have HUS := Lib.hid (show s'.s0.upto 1000000 from HUP'.out.1)
                        have HR0 := Lib.hid hr0
                        have HR1 := Lib.hid hr1
                        have HAL := Lib.hid (show Calls Try.prog 19 #[.agg #[.slice B0 M0 D0, .slice B1 M1 D1, .bool s'.s0.wet, .bool s'.s0.swap, .bool false], .int .i64 ((M1 ||| 1 : Nat) : Int)] (w9.drewN 1) (AllPost s'.s0 (fun b => G9 b ∧ b ≠ r) ((M1 ||| 1 : Nat) : Int) (w9.drewN 1)) from hlo ▸ refAllC s'.s0 _ _ _ (w9.drewN 1) (below_row HR0.out (below_drewN _ w9 1)) (below_row HR1.out (below_drewN _ w9 1)) ((M1 ||| 1 : Nat) : Int) (by omega) (by have := HTOP.out; omega) HUS.out)
                        obtain ⟨P, hP⟩ : ∃ P, M1 ||| 1 = P := ⟨_, rfl⟩
                        rw [hP] at HOR HVA HTOP HAL
                        clear hrt hu9 hb9 hat9 hN9 e0 e1 hM0 hM1 hr0 hr1 hlo hP
                        go_wp2_with fail
                        go_region_held3 (fun w' => w'.cell? ⟨r, 0, none⟩ = some (.slice B0 M0 D0) ∧ w'.cell? ⟨r, 1, none⟩ = some (.slice B1 M1 D1) ∧ w'.cell? ⟨r, 2, none⟩ = some (.bool s'.s0.wet) ∧ w'.cell? ⟨r, 3, none⟩ = some (.bool s'.s0.swap) ∧ w'.cell? ⟨r, 4, none⟩ = some (.bool false))
                          (first | go_keep | with_reducible exact S10.out | with_reducible exact S11.out)
                          (first
                          | (go_at_call 19; refine (HAL.out).mono ?_; rintro _ w10 ⟨u10, rfl, hu10, hb10⟩; rw [HVA.out] at hu10; have HB10 := Lib.hid ((HB9.out.below I (below_drewN _ w9 1)).below I hb10); have HU10 := Lib.hid ((HU9.out.below (below_drewN _ w9 1)).below hb10); have HV10 := Lib.hid hu10.1; have S10 := Lib.hid (show w10.cell? ⟨r, 0, none⟩ = some (.slice B0 M0 D0) ∧ w10.cell? ⟨r, 1, none⟩ = some (.slice B1 M1 D1) ∧ w10.cell? ⟨r, 2, none⟩ = some (.bool s'.s0.wet) ∧ w10.cell? ⟨r, 3, none⟩ = some (.bool s'.s0.swap) ∧ w10.cell? ⟨r, 4, none⟩ = some (.bool false) from ⟨below_cell hb10 _ _ d0, below_cell hb10 _ _ d1, below_cell hb10 _ _ d2, below_cell hb10 _ _ d3, below_cell hb10 _ _ d4⟩); obtain ⟨A10, C10, e10, -, -, -⟩ := hu10.1.shape; obtain ⟨N10, hN10⟩ : ∃ x, s'.s0.view.length = x := ⟨_, rfl⟩; rw [hN10] at e10; subst e10; clear hu10 hb10 hN10)
                          | (go_at_call 18; refine (sameC s'.s0.view s'.s0.view _ _ _ HU10.out HV10.out).mono ?_; rintro _ w11 ⟨rfl, n11, hw11⟩; rw [show sameB s'.s0.view s'.s0.view = true from decide_eq_true rfl]; have HB11 := Lib.hid (show Both PD w w11 p r s' s' (fun _ => False) from hw11 ▸ HB10.out.below I (below_drewN _ w10 n11)); have S11 := Lib.hid (show w11.cell? ⟨r, 0, none⟩ = some (.slice B0 M0 D0) ∧ w11.cell? ⟨r, 1, none⟩ = some (.slice B1 M1 D1) ∧ w11.cell? ⟨r, 2, none⟩ = some (.bool s'.s0.wet) ∧ w11.cell? ⟨r, 3, none⟩ = some (.bool s'.s0.swap) ∧ w11.cell? ⟨r, 4, none⟩ = some (.bool false) from (by subst hw11; exact S10.out)); clear hw11))
                        all_goals
                          clear d0 d1 d2 d3 d4 HOR
                          go_wp2_with fail
                          go_roundg (1 - 0)
                          case measure => omega
                          case rel => exact ⟨1, by omega, by go_num, HB11.out⟩
                      · have hrt := read_lost (s := s') (i := 0) (by omega) (by omega) (show (s'.sd 0).lost = true from hlo)
                        go_wp2_with fail
                        refine (Both.read I HBX.out HUP'.out 0 ⟨by omega, by omega⟩).mono ?_
                        rintro _ w9 ⟨u9, rfl, hu9, hb9⟩
                        rw [hrt.1]
                        rw [hrt.2] at hu9
                        have HB9 := Lib.hid (HBX.out.below I hb9)
                        obtain ⟨G9, V9, hat9, -⟩ := (HBX.out.below I hb9).ron I
                        have d4 : w9.cell? ⟨r, 4, none⟩ = some (.bool s'.s0.lost) := hat9.cell (i := 4) (by omega)
                        rw [hlo] at d4
                        obtain ⟨A9, C9, e9, -, -, -⟩ := hu9.shape
                        rw [show ([] : List Nat).length = 0 from rfl] at e9
                        subst e9
                        clear hrt hu9 hb9 hat9 hlo
                        go_wp2_with fail
                        go_roundg (1 - 0)
                        case measure => omega
                        case rel => exact ⟨1, by omega, by go_num, HB9.out⟩
                    · have HBX := Lib.hid hbx
                      clear hbx
                      cases hlo : s'.s1.lost
                      · have hrt := read_there (s := s') (i := 1) (by omega) (by omega) (show (s'.sd 1).lost = false from hlo)
                        go_wp2_with fail
                        refine (Both.read I HBX.out HUP'.out 1 ⟨by omega, by omega⟩).mono ?_
                        rintro _ w9 ⟨u9, rfl, hu9, hb9⟩
                        rw [hrt.1]
                        rw [hrt.2] at hu9
                        have HB9 := Lib.hid (HBX.out.below I hb9)
                        obtain ⟨G9, V9, hat9, -⟩ := (HBX.out.below I hb9).ron I
                        have HU9 := Lib.hid (show Bytes w9 u9 s'.s1.view from hu9)
                        obtain ⟨A9, C9, e9, -, -, -⟩ := hu9.shape
                        obtain ⟨N9, hN9⟩ : ∃ x, (s'.sd 1).view.length = x := ⟨_, rfl⟩
                        rw [hN9] at e9
                        subst e9
                        obtain ⟨B0, D0, e0, -, -, -⟩ := (hat9.rows 2 (by omega)).1.shape
                        obtain ⟨B1, D1, e1, -, -, -⟩ := (hat9.rows 3 (by omega)).1.shape
                        obtain ⟨M0, hM0⟩ : ∃ x, s'.s1.b.length = x := ⟨_, rfl⟩
                        obtain ⟨M1, hM1⟩ : ∃ x, s'.s1.l.length = x := ⟨_, rfl⟩
                        have e0 : V9 2 = .slice B0 M0 D0 := hM0 ▸ e0
                        have e1 : V9 3 = .slice B1 M1 D1 := hM1 ▸ e1
                        have hr0 : RowIn (fun b => G9 b ∧ b ≠ r) w9 (V9 2) s'.s1.b := hat9.rows 2 (by omega)
                        have hr1 : RowIn (fun b => G9 b ∧ b ≠ r) w9 (V9 3) s'.s1.l := hat9.rows 3 (by omega)
                        have d0 : w9.cell? ⟨r, 5, none⟩ = some (V9 2) := hat9.cell (i := 5) (by omega)
                        have d1 : w9.cell? ⟨r, 6, none⟩ = some (V9 3) := hat9.cell (i := 6) (by omega)
                        have d2 : w9.cell? ⟨r, 7, none⟩ = some (.bool s'.s1.wet) := hat9.cell (i := 7) (by omega)
                        have d3 : w9.cell? ⟨r, 8, none⟩ = some (.bool s'.s1.swap) := hat9.cell (i := 8) (by omega)
                        have d4 : w9.cell? ⟨r, 9, none⟩ = some (.bool s'.s1.lost) := hat9.cell (i := 9) (by omega)
                        rw [e0] at hr0 d0
                        rw [e1] at hr1 d1
                        rw [hlo] at d4
                        have hM : M1 ≤ 1000000 := by have := HUP'.out.2.2; omega
                        have HOR := or_one M1 (by omega)
                        have HVA := Lib.hid (view_all s'.s1 M1 hM1)
                        have HTOP := Lib.hid (show (M1 ||| 1) < 2 ^ 20 from Nat.or_lt_two_pow (by omega) (by omega))
                        have HUS := Lib.hid (show s'.s1.upto 1000000 from HUP'.out.2)
                        have HR0 := Lib.hid hr0
                        have HR1 := Lib.hid hr1
                        have HAL := Lib.hid (show Calls Try.prog 19 #[.agg #[.slice B0 M0 D0, .slice B1 M1 D1, .bool s'.s1.wet, .bool s'.s1.swap, .bool false], .int .i64 ((M1 ||| 1 : Nat) : Int)] (w9.drewN 1) (AllPost s'.s1 (fun b => G9 b ∧ b ≠ r) ((M1 ||| 1 : Nat) : Int) (w9.drewN 1)) from hlo ▸ refAllC s'.s1 _ _ _ (w9.drewN 1) (below_row HR0.out (below_drewN _ w9 1)) (below_row HR1.out (below_drewN _ w9 1)) ((M1 ||| 1 : Nat) : Int) (by omega) (by have := HTOP.out; omega) HUS.out)
                        obtain ⟨P, hP⟩ : ∃ P, M1 ||| 1 = P := ⟨_, rfl⟩
                        rw [hP] at HOR HVA HTOP HAL
                        clear hrt hu9 hb9 hat9 hN9 e0 e1 hM0 hM1 hr0 hr1 hlo hP
                        go_wp2_with fail
                        go_region_held3 (fun w' => w'.cell? ⟨r, 5, none⟩ = some (.slice B0 M0 D0) ∧ w'.cell? ⟨r, 6, none⟩ = some (.slice B1 M1 D1) ∧ w'.cell? ⟨r, 7, none⟩ = some (.bool s'.s1.wet) ∧ w'.cell? ⟨r, 8, none⟩ = some (.bool s'.s1.swap) ∧ w'.cell? ⟨r, 9, none⟩ = some (.bool false))
                          (first | go_keep | with_reducible exact S10.out | with_reducible exact S11.out)
                          (first
                          | (go_at_call 19; refine (HAL.out).mono ?_; rintro _ w10 ⟨u10, rfl, hu10, hb10⟩; rw [HVA.out] at hu10; have HB10 := Lib.hid ((HB9.out.below I (below_drewN _ w9 1)).below I hb10); have HU10 := Lib.hid ((HU9.out.below (below_drewN _ w9 1)).below hb10); have HV10 := Lib.hid hu10.1; have S10 := Lib.hid (show w10.cell? ⟨r, 5, none⟩ = some (.slice B0 M0 D0) ∧ w10.cell? ⟨r, 6, none⟩ = some (.slice B1 M1 D1) ∧ w10.cell? ⟨r, 7, none⟩ = some (.bool s'.s1.wet) ∧ w10.cell? ⟨r, 8, none⟩ = some (.bool s'.s1.swap) ∧ w10.cell? ⟨r, 9, none⟩ = some (.bool false) from ⟨below_cell hb10 _ _ d0, below_cell hb10 _ _ d1, below_cell hb10 _ _ d2, below_cell hb10 _ _ d3, below_cell hb10 _ _ d4⟩); obtain ⟨A10, C10, e10, -, -, -⟩ := hu10.1.shape; obtain ⟨N10, hN10⟩ : ∃ x, s'.s1.view.length = x := ⟨_, rfl⟩; rw [hN10] at e10; subst e10; clear hu10 hb10 hN10)
                          | (go_at_call 18; refine (sameC s'.s1.view s'.s1.view _ _ _ HU10.out HV10.out).mono ?_; rintro _ w11 ⟨rfl, n11, hw11⟩; rw [show sameB s'.s1.view s'.s1.view = true from decide_eq_true rfl]; have HB11 := Lib.hid (show Both PD w w11 p r s' s' (fun _ => False) from hw11 ▸ HB10.out.below I (below_drewN _ w10 n11)); have S11 := Lib.hid (show w11.cell? ⟨r, 5, none⟩ = some (.slice B0 M0 D0) ∧ w11.cell? ⟨r, 6, none⟩ = some (.slice B1 M1 D1) ∧ w11.cell? ⟨r, 7, none⟩ = some (.bool s'.s1.wet) ∧ w11.cell? ⟨r, 8, none⟩ = some (.bool s'.s1.swap) ∧ w11.cell? ⟨r, 9, none⟩ = some (.bool false) from (by subst hw11; exact S10.out)); clear hw11))
                        all_goals
                          clear d0 d1 d2 d3 d4 HOR
                          go_wp2_with fail
                          go_roundg (1 - 1)
                          case measure => omega
                          case rel => exact ⟨2, by omega, by go_num, HB11.out⟩
                      · have hrt := read_lost (s := s') (i := 1) (by omega) (by omega) (show (s'.sd 1).lost = true from hlo)
                        go_wp2_with fail
                        refine (Both.read I HBX.out HUP'.out 1 ⟨by omega, by omega⟩).mono ?_
                        rintro _ w9 ⟨u9, rfl, hu9, hb9⟩
                        rw [hrt.1]
                        rw [hrt.2] at hu9
                        have HB9 := Lib.hid (HBX.out.below I hb9)
                        obtain ⟨G9, V9, hat9, -⟩ := (HBX.out.below I hb9).ron I
                        have d4 : w9.cell? ⟨r, 9, none⟩ = some (.bool s'.s1.lost) := hat9.cell (i := 9) (by omega)
                        rw [hlo] at d4
                        obtain ⟨A9, C9, e9, -, -, -⟩ := hu9.shape
                        rw [show ([] : List Nat).length = 0 from rfl] at e9
                        subst e9
                        clear hrt hu9 hb9 hat9 hlo
                        go_wp2_with fail
                        go_roundg (1 - 1)
                        case measure => omega
                        case rel => exact ⟨2, by omega, by go_num, HB9.out⟩
                    · have HBX := Lib.hid hbx
                      clear hbx
                      go_wp2_with fail
                      go_roundg (m - i - 1)
                      case measure => omega
                      case rel => exact ⟨i + 1, by omega, by go_num, s', HSF'.out, HBX.out⟩
      · obtain rfl : i = m := by omega
        go_wp2_with fail
        refine (answersC I wr).mono ?_
        rintro _ w12 ⟨rfl, hb12⟩
        have HB12 := Lib.hid (HBR.out.bel.trans (hb12.mono HBR.out.bel.size))
        clear hb12
        go_wp2_with fail
        go_ret
        exact ⟨rfl, HB12.out⟩
end Go.Proofs.Ytndponihilfidaa.Tape
