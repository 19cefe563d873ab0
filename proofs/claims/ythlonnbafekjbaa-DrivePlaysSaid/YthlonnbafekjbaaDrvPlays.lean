/- The law of layer 6 of whatever happens to a drive, as a walk. -/
import Derived.Test.YthlonnbafekjbaaDrvBoth
import Derived.Deep.LoopGhost
import Derived.Deep.CutRange
import Derived.Deep.CutBlock
namespace Go.Proofs.Ythlonnbafekjbaa.Drive
set_option linter.unusedVariables false
open Go.ChangeShapes Go.WideShapes Go.ChangeAt Go.RowKit
open Go.Mem Drv Same
variable {PD : Thing}
theorem Both.start (I : Iface PD) {w w1 w2 : World} {p r : Nat} {F G : Nat → Prop} {s t : St} (h1 : PD w1 F p s) (hF : ∀ b, F b → w.heap.size ≤ b) (hb1 : Below w.heap.size w w1) (h2 : RDr w2 G r t) (hG : ∀ b, G b → w1.heap.size ≤ b) (hb2 : Below w1.heap.size w1 w2) :
    Both PD w w2 p r s t (fun _ => False) :=
  ⟨F, G, I.turned h1 (Turned.of_below (fun _ => False) hb2) (fun _ q => q.elim), h2, fun b hb q => by have := I.lt h1 b hb; have := hG b q; omega, hF, fun b hb => Nat.le_trans hb1.size (hG b hb), hb1.trans (hb2.mono hb1.size), fun _ q => q.elim⟩
theorem quiet_same0 {P : Program} {f : FuncId} {args : Array Value} {w : World} {n : Nat} {v : Value} (h : Calls P f args (w.drewN n) fun e w' => e = .returned v ∧ w.drewN n = w') :
    Calls P f args (w.drewN n) fun e w' => e = .returned v ∧ ∃ m, w' = w.drewN m := h.mono fun _ _ hh => ⟨hh.1, n, hh.2.symm⟩
theorem quiet_drew0 {P : Program} {f : FuncId} {args : Array Value} {w : World} {n : Nat} {v : Value} (h : Calls P f args (w.drewN n) fun e w' => e = .returned v ∧ ∃ m, w' = (w.drewN n).drewN m) :
    Calls P f args (w.drewN n) fun e w' => e = .returned v ∧ ∃ m, w' = w.drewN m := h.mono fun _ _ hh => by
  obtain ⟨h1, m, h2⟩ := hh
  exact ⟨h1, n + m, by rw [h2, World.drewN_drewN]⟩
theorem Both.lost (I : Iface PD) {W w : World} {p r : Nat} {s t : St} {N : Nat → Prop} (h : Both PD W w p r s t N) : Calls Try.prog 18 #[.pointer (some ⟨p, 0, none⟩)] w fun e w' => e = .returned (.bool s.lost) ∧ w = w' := by
  obtain ⟨F, G, h1, _⟩ := h
  exact I.lost h1
theorem Both.loose (I : Iface PD) {W w : World} {p r : Nat} {s t : St} {N : Nat → Prop} (h : Both PD W w p r s t N) : Calls Try.prog 19 #[.pointer (some ⟨p, 0, none⟩)] w fun e w' => e = .returned (.int .i64 (s.loose.length : Nat)) ∧ w = w' := by
  obtain ⟨F, G, h1, _⟩ := h
  exact I.loose h1
theorem Both.cap (I : Iface PD) {W w : World} {p r : Nat} {s t : St} {N : Nat → Prop} (h : Both PD W w p r s t N) : Calls Try.prog 20 #[.pointer (some ⟨p, 0, none⟩)] w fun e w' => e = .returned (.int .i64 (s.slots.length : Nat)) ∧ w = w' := by
  obtain ⟨F, G, h1, _⟩ := h
  exact I.cap h1
theorem Both.read (I : Iface PD) {W w : World} {p r : Nat} {s t : St} {N : Nat → Prop} (h : Both PD W w p r s t N) (hs : s.loose.length ≤ 1000) (i : Int) (l0 : -9223372036854775808 ≤ i) (u0 : i ≤ 9223372036854775807) : Calls Try.prog 21 #[.pointer (some ⟨p, 0, none⟩), .int .i64 i] w fun e w' =>
    ∃ u, e = .returned (.tuple #[u, .int .i64 (s.check i)]) ∧ Bytes w' u (if s.check i = 0 then s.get i.toNat else []) ∧ Below w.heap.size w w' := by
  obtain ⟨F, G, h1, _⟩ := h
  exact (I.read h1 hs i l0 u0).mono fun e w' hh => by
    obtain ⟨u, k1, k2, k3⟩ := hh
    exact ⟨u, k1, k2.1, k3⟩
theorem Both.lasts (I : Iface PD) {W w : World} {p r : Nat} {s t : St} {N : Nat → Prop} (h : Both PD W w p r s t N) (i : Int) (l0 : -9223372036854775808 ≤ i) (u0 : i ≤ 9223372036854775807) : Calls Try.prog 22 #[.pointer (some ⟨p, 0, none⟩), .int .i64 i] w fun e w' =>
    ∃ u, e = .returned (.tuple #[u, .int .i64 (s.check i)]) ∧ Bytes w' u (if s.check i = 0 then s.slots.getD i.toNat [] else []) ∧ Below w.heap.size w w' := by
  obtain ⟨F, G, h1, _⟩ := h
  exact (I.lasts h1 i l0 u0).mono fun e w' hh => by
    obtain ⟨u, k1, k2, k3⟩ := hh
    exact ⟨u, k1, k2.1, k3⟩
theorem Both.check {W w : World} {p r : Nat} {s t : St} {N : Nat → Prop} (h : Both PD W w p r s t N) (i : Int) (l0 : -9223372036854775808 ≤ i) (u0 : i ≤ 9223372036854775807) : Calls Try.prog 23 #[.pointer (some ⟨r, 0, none⟩), .int .i64 i] w fun e w' => e = .returned (.int .i64 (t.check i)) ∧ w = w' := by
  obtain ⟨F, G, _, h2, _⟩ := h
  exact refCheckC h2 i l0 u0
theorem Both.get {W w : World} {p r : Nat} {s t : St} {N : Nat → Prop} (h : Both PD W w p r s t N) (i : Nat) (hi : i < t.slots.length) : Calls Try.prog 25 #[.pointer (some ⟨r, 0, none⟩), .int .i64 i] w fun e w' => ∃ v, e = .returned v ∧ Bytes w v (t.get i) ∧ w = w' := by
  obtain ⟨F, G, _, h2, _⟩ := h
  exact (refGetC h2 i hi).mono fun e w' hh => by
    obtain ⟨v, k1, k2, k3⟩ := hh
    exact ⟨v, k1, k2.1, k3⟩
theorem check_in {s : St} (h : s.ok) {k : Nat} (hk : k < s.slots.length) : s.check (k : Nat) = 0 := by
  have hl : ¬ s.lost = true := fun q => by have := h.em q; omega
  unfold St.check
  rw [if_neg hl, if_neg (by omega)]
theorem byte_up (x : Nat) : ((x : Int) + 1) % 256 = (((x + 1) % 256 : Nat) : Int) := by omega
theorem put_len (s : St) (i : Int) (l : List Nat) : (s.put i l).loose.length ≤ s.loose.length + 1 := by
  unfold St.put
  split
  · simp
  · omega
theorem flush_len (s : St) : s.flush.loose.length ≤ s.loose.length := by
  unfold St.flush
  split
  · exact Nat.le_refl _
  · simp
theorem crash_len (s : St) (k : Nat) : (s.crash k).loose.length ≤ s.loose.length := by simp [St.crash]
set_option maxRecDepth 100000 in
set_option maxHeartbeats 16000000 in
theorem DrivePlaysC (I : Iface PD) (n : Int) (ln : -9223372036854775808 ≤ n) (un : n ≤ 9223372036854775807) (L : List ActD) (v : Value) (w : World) (hL : Acts w v L) :
    Calls Try.prog 3 #[.int .i64 n, v] w fun e w' => e = .returned (.bool true) ∧ Below w.heap.size w w' := by
  obtain ⟨A, C, rfl, h1, h2, _⟩ := hL.shape
  obtain ⟨m, hm⟩ : ∃ m, L.length = m := ⟨_, rfl⟩
  rw [hm] at h1 hL ⊢
  have HL := Lib.hid hL
  have HM := Lib.hid hm
  clear hL hm
  by_cases hlong : 100 < m
  · have hd : (100 : Int) < (m : Int) := by omega
    go_enter Try.func3, Try.ntmps3
    go_wp2_with fail
    refine (answersC I w).mono ?_
    rintro _ w1 ⟨rfl, hb1⟩
    go_wp2_with fail
    go_ret
    exact ⟨rfl, hb1⟩
  · have hd : ¬ (100 : Int) < (m : Int) := by omega
    go_enter Try.func3, Try.ntmps3
    go_wp2_with fail
    refine (I.new n w ln un).mono ?_
    rintro _ w1 ⟨F1, p, rfl, hp1, hf1, hb1⟩
    have HP1 := Lib.hid hp1
    have HF1 := Lib.hid hf1
    have HB1 := Lib.hid hb1
    clear hp1 hf1 hb1
    go_wp2_with fail
    refine (refNewC n ln un w1).mono ?_
    rintro _ w2 ⟨rfl, hr2, hb2⟩
    have HBO := Lib.hid (Both.start I HP1.out HF1.out HB1.out hr2 (fun b hb => by rcases hb with q | q <;> omega) hb2)
    obtain ⟨r, hr⟩ : ∃ r, w1.heap.size + 1 = r := ⟨_, rfl⟩
    rw [hr] at HBO ⊢
    clear hr2 hb2 hr
    go_wp2_with fail
    go_loopg [7] m (fun k c wr => ∃ i : Nat, i + k = m ∧ c = .int .i64 i ∧ ∃ s : St, s.loose.length ≤ i ∧ s.ok ∧ Both PD w wr p r s s (fun _ => False))
    case atStart => exact ⟨0, by omega, rfl, fresh n, by simp [fresh], fresh_ok n, HBO.out⟩
    case round =>
      obtain ⟨i, hik, rfl, s, hsl, hok, hbo⟩ := hrel
      have HBR := Lib.hid hbo
      have HOK := Lib.hid hok
      clear hbo hok
      by_cases hlt : i < m
      · obtain ⟨b, o, A1, C1, rfl, c0, c1, c2, c3, hbb, hxk⟩ := HL.out.at (i := i) (by rw [HM.out]; exact hlt)
        obtain ⟨x, hx⟩ : ∃ x, L[i]'(by rw [HM.out]; exact hlt) = x := ⟨_, rfl⟩
        rw [hx] at c0 c1 c2 c3 hbb hxk
        obtain ⟨q1, q2, q3, q4, q5⟩ := hxk
        obtain ⟨what, slot, bl, keep⟩ := x
        dsimp only at c0 c1 c2 c3 hbb q1 q2 q3 q4 q5
        obtain ⟨N, hN⟩ : ∃ N, bl.length = N := ⟨_, rfl⟩
        rw [hN] at c2 hbb
        have HBB := Lib.hid hbb
        have HN := Lib.hid hN
        have HQ5 := Lib.hid q5
        have c0 := below_cell HBR.out.bel _ _ c0
        have c1 := below_cell HBR.out.bel _ _ c1
        have c2 := below_cell HBR.out.bel _ _ c2
        have c3 := below_cell HBR.out.bel _ _ c3
        obtain ⟨Ci, hCi⟩ : ∃ c, C1 = c := ⟨_, rfl⟩
        have hN1 : N ≤ C1 := by
          obtain ⟨A', C', e, k1, _⟩ := hbb.shape
          cases e
          rw [hN] at k1
          exact k1
        have l1 : (i : Int) < (m : Int) := by omega
        clear hx hbb hN q5 hCi
        go_upto_region 8 with (fail)
        clear c0 c1 c2 c3
        have hal : Below wr.heap.size wr (wr.alloc (.cells #[.int .i64 what, .int .i64 slot, .slice A1 N C1, .int .u64 keep] 31)) := (Below.refl _ _).alloc (Nat.le_refl _) _
        have HBA0 := Lib.hid (HBR.out.more I hal (M := fun b => b = wr.heap.size) (fun b hb => by subst hb; simp))
        have HQB0 := Lib.hid (heap_alloc_new wr (.cells #[.int .i64 what, .int .i64 slot, .slice A1 N C1, .int .u64 keep] 31))
        generalize hwa : wr.alloc (.cells #[.int .i64 what, .int .i64 slot, .slice A1 N C1, .int .u64 keep] 31) = wa at HBA0 HQB0
        obtain ⟨Q, hQ⟩ : ∃ Q, wr.heap.size = Q := ⟨_, rfl⟩
        rw [hQ] at HBA0 HQB0 ⊢
        have HBA := Lib.hid (show Both PD w wa p r s s (fun b => b = Q) from HBA0.out.less (fun b hb => .inr hb))
        have HQB := Lib.hid (show wa.heap[Q]? = some (.cells #[.int .i64 what, .int .i64 slot, .slice A1 N C1, .int .u64 keep] 31 (0, 0)) from HQB0.out)
        clear hal HBA0 HQB0 hwa hQ
        have a0 : wa.cell? ⟨Q, 0, none⟩ = some (.int .i64 what) := by rw [cell_of_row _ _ _ _ _ _ HQB.out]; rfl
        have a1 : wa.cell? ⟨Q, 1, none⟩ = some (.int .i64 slot) := by rw [cell_of_row _ _ _ _ _ _ HQB.out]; rfl
        have a2 : wa.cell? ⟨Q, 2, none⟩ = some (.slice A1 N C1) := by rw [cell_of_row _ _ _ _ _ _ HQB.out]; rfl
        by_cases hbig : 200 < N
        · have hbg : (200 : Int) < (N : Int) := by omega
          go_wp2_with fail
          go_roundg (gk - 1)
          case measure => omega
          case rel => exact ⟨i + 1, by omega, by go_num, s, by omega, HOK.out, HBA.out.less (fun _ q => q.elim)⟩
        · have hbg : ¬ (200 : Int) < (N : Int) := by omega
          have hal : Below wa.heap.size wa (wa.alloc (.cells #[] 5)) := (Below.refl _ _).alloc (Nat.le_refl _) _
          obtain ⟨vi, wi, hri, hbui, _, hbi⟩ := run_append_list (P := Try.prog) byteR_world byteR_one (wa.alloc (.cells #[] 5)) wa.heap.size 28 28 5 (.int .u8 0) 1 Try.underlying28 infoByte rfl _ [] (built_none wa (Nat.le_refl _)) A1 N C1 bl ((HBB.out.below HBA.out.bel).below hal) (by rw [HN.out]; simp; omega) hal.size
          rw [List.nil_append] at hbui
          have hbai := hal.trans hbi
          have HRI := Lib.hid hri
          have HBUI := Lib.hid hbui
          have HBI := Lib.hid (HBA.out.more I hbai (M := fun b => vi.ownBlock = some b) (fun b hb => hbui.own_lt b hb))
          have HQI := Lib.hid ((hbai.block Q (Array.getElem?_eq_some_iff.1 HQB.out).1).trans HQB.out)
          obtain ⟨Ai, Cn, hvi, hNi, hNi'⟩ := hbui.len
          rw [HN.out] at hvi hNi
          have hpl : Q < wa.heap.size := (Array.getElem?_eq_some_iff.1 HQB.out).1
          clear hri hbui hbi hbai hal
          subst hvi
          have i0 : wi.cell? ⟨Q, 0, none⟩ = some (.int .i64 what) := by rw [cell_of_row _ _ _ _ _ _ HQI.out]; rfl
          have i1 : wi.cell? ⟨Q, 1, none⟩ = some (.int .i64 slot) := by rw [cell_of_row _ _ _ _ _ _ HQI.out]; rfl
          have i2 : wi.cell? ⟨Q, 2, none⟩ = some (.slice A1 N C1) := by rw [cell_of_row _ _ _ _ _ _ HQI.out]; rfl
          have i3 : wi.cell? ⟨Q, 3, none⟩ = some (.int .u64 keep) := by rw [cell_of_row _ _ _ _ _ _ HQI.out]; rfl
          go_upto_block 2 with (at_builtin; refine Lib.wpList_append_run _ rfl (.tmp 45) (.tmp 47) _ _ rfl _ _ rfl rfl _ _ HRI.out ?_)
          clear a0 a1 a2 hpl
          go_cut [9, 10] from 31 to 186 (fun e f wx => ∃ (s' : St) (c : Int), e = .int .i64 c ∧ f = .int .i64 c ∧ s'.loose.length ≤ i + 1 ∧ s'.ok ∧ Both PD w wx p r s' s' (fun b => b = Q ∨ Value.ownBlock (.slice Ai N Cn) = some b) ∧ ∀ b, b = Q ∨ Value.ownBlock (.slice Ai N Cn) = some b → wx.heap[b]? = wi.heap[b]?)
          case first =>
            have hsl' : s.loose.length ≤ 1000 := by omega
            have HSL := Lib.hid hsl'
            clear hsl'
            by_cases h0 : what = 0
            · subst h0
              go_upto_region 13 with (fail)
              go_region_law (first
                | (go_simp; go_at_call 11; refine (Both.write I (HBI.out.below I (Below.refl _ _).drew) slot bl _ q3 q4 (Bytes.below HBUI.out.slice (Below.refl _ _).drew) (by rw [HN.out]; omega) HSL.out).mono ?_; rintro _ w7 ⟨rfl, hbo7, hn7⟩; have HBO7 := Lib.hid hbo7; have HN7 := Lib.hid hn7; have HQ7 := Lib.hid ((hn7 Q (.inl rfl)).trans (show wi.drew.heap[Q]? = _ from HQI.out)); have k1 : w7.cell? ⟨Q, 1, none⟩ = some (.int .i64 slot) := by rw [cell_of_row _ _ _ _ _ _ HQ7.out]; rfl
                   have k2 : w7.cell? ⟨Q, 2, none⟩ = some (.slice A1 N C1) := by rw [cell_of_row _ _ _ _ _ _ HQ7.out]; rfl
                   clear hbo7 hn7)
                | (go_simp; go_at_call 12; refine (Both.put I HBO7.out slot bl _ q3 q4 (HBB.out.below HBO7.out.bel) HSL.out).mono ?_; rintro _ w8 ⟨rfl, hbo8, hn8⟩; have HBO8 := Lib.hid hbo8; have HN8 := Lib.hid hn8; clear hbo8 hn8))
              all_goals
                clear k1 k2
                go_wp2_with fail
                go_meet
                case rel => exact ⟨s.put slot bl, s.putE slot bl.length, rfl, rfl, by have := put_len s slot bl; omega, put_ok HOK.out _ _, HBO8.out, fun b hb => (HN8.out b hb).trans (HN7.out b hb)⟩
            · have g0 : (what == 0) = false := by rw [beq_eq_false_iff_ne]; exact h0
              by_cases h1' : what = 1
              · subst h1'
                clear h0 g0
                go_wp2_with fail
                refine (Both.flush I HBI.out HSL.out).mono ?_
                rintro _ w7 ⟨rfl, hbo7, hn7⟩
                have HBO7 := Lib.hid hbo7
                have HN7 := Lib.hid hn7
                clear hbo7 hn7
                go_wp2_with fail
                refine (Both.rflush I HBO7.out HSL.out).mono ?_
                rintro _ w8 ⟨rfl, hbo8, hn8⟩
                have HBO8 := Lib.hid hbo8
                have HN8 := Lib.hid hn8
                clear hbo8 hn8
                go_wp2_with fail
                go_meet
                case rel => exact ⟨s.flush, s.flushE, rfl, rfl, by have := flush_len s; omega, flush_ok HOK.out, HBO8.out, fun b hb => (HN8.out b hb).trans (HN7.out b hb)⟩
              · have g1 : (what == 1) = false := by rw [beq_eq_false_iff_ne]; exact h1'
                by_cases h2' : what = 2
                · subst h2'
                  clear h0 g0 h1' g1
                  go_wp2_with fail
                  refine (Both.crash I HBI.out HSL.out keep HQ5.out).mono ?_
                  rintro _ w7 ⟨rfl, hbo7, hn7⟩
                  have HBO7 := Lib.hid hbo7
                  have HN7 := Lib.hid hn7
                  have HQ7 := Lib.hid ((hn7 Q (.inl rfl)).trans HQI.out)
                  have k3 : w7.cell? ⟨Q, 3, none⟩ = some (.int .u64 keep) := by rw [cell_of_row _ _ _ _ _ _ HQ7.out]; rfl
                  clear hbo7 hn7
                  go_wp2_with fail
                  refine (Both.rcrash I HBO7.out HSL.out keep HQ5.out).mono ?_
                  rintro _ w8 ⟨rfl, hbo8, hn8⟩
                  have HBO8 := Lib.hid hbo8
                  have HN8 := Lib.hid hn8
                  clear hbo8 hn8 k3
                  go_wp2_with fail
                  go_meet
                  case rel => exact ⟨s.crash keep, 0, rfl, rfl, by have := crash_len s keep; omega, crash_ok HOK.out _, HBO8.out, fun b hb => (HN8.out b hb).trans (HN7.out b hb)⟩
                · have g2 : (what == 2) = false := by rw [beq_eq_false_iff_ne]; exact h2'
                  by_cases h3' : what = 3
                  · subst h3'
                    clear h0 g0 h1' g1 h2' g2
                    go_wp2_with fail
                    refine (Both.lose I HBI.out).mono ?_
                    rintro _ w7 ⟨rfl, hbo7, hn7⟩
                    have HBO7 := Lib.hid hbo7
                    have HN7 := Lib.hid hn7
                    obtain ⟨G, R, S, LL, V, X, hat⟩ := hbo7.rat
                    obtain ⟨d0, d1, d2⟩ := hat.cells
                    have e0 := hat.free 0
                    have e1 := hat.free 1
                    have e2 := hat.free 2
                    have HRL := Lib.hid (hbo7.rlose I)
                    obtain ⟨AS, hS, _⟩ := hat.shape
                    obtain ⟨AL, CL, hLL, _⟩ := hat.lshape
                    rw [hS] at d0
                    rw [hLL] at d1
                    clear hbo7 hn7 hat hS hLL
                    go_wp2_with fail
                    go_meet
                    case rel => exact ⟨s.lose, 0, rfl, rfl, by simp [St.lose], lose_ok s, HRL.out.1, fun b hb => (HRL.out.2 b hb).trans (HN7.out b hb)⟩
                  · have g3 : (what == 3) = false := by rw [beq_eq_false_iff_ne]; exact h3'
                    clear h0 h1' h2' h3'
                    go_wp2_with fail
                    go_meet
                    case rel => exact ⟨s, 0, rfl, rfl, by omega, HOK.out, HBI.out, fun b hb => rfl⟩
          case rest =>
            obtain ⟨s', c, rfl, rfl, hsl', hok', hbo', hst'⟩ := hcut
            have HBC := Lib.hid hbo'
            have HOK' := Lib.hid hok'
            have HQC := Lib.hid ((hst' Q (.inl rfl)).trans HQI.out)
            have HRW := Lib.hid (show ∃ g f, (0 < N → Ai = some ⟨g, 0, none⟩) ∧ g ≠ Q ∧ Row wc g 0 N f by
              by_cases h0 : 0 < N
              · obtain ⟨g, C', e, _, _, hg⟩ := HBUI.out.some (n := N) HN.out h0
                cases e
                have hr := HBUI.out.writes
                rw [HN.out] at hr
                have hQ := (Array.getElem?_eq_some_iff.1 HQB.out).1
                exact ⟨g, _, fun _ => rfl, by omega, hr.keep (hst' g (.inr rfl))⟩
              · obtain rfl : N = 0 := by omega
                exact ⟨Q + 1, fun _ => 0, fun q => absurd q (by omega), by omega, ⟨fun i hi => absurd hi (by omega), fun i hi => absurd hi (by omega), fun i hi => absurd hi (by omega)⟩⟩)
            clear hbo' hok' hst' i0 i1 i2 i3
            go_wp2_with fail
            go_loopg [12] N (fun kk cc wx => ∃ k : Nat, k + kk = N ∧ cc = .int .i64 k ∧ Both PD w wx p r s' s' (fun b => b = Q ∨ Value.ownBlock (.slice Ai N Cn) = some b) ∧ wx.heap[Q]? = some (.cells #[.int .i64 what, .int .i64 slot, .slice A1 N C1, .int .u64 keep] 31 (0, 0)) ∧ ∃ g f, (0 < N → Ai = some ⟨g, 0, none⟩) ∧ g ≠ Q ∧ Row wx g 0 N f)
            case atStart => exact ⟨0, by omega, rfl, HBC.out, HQC.out, HRW.out⟩
            case round =>
              obtain ⟨k, hkk, rfl, hbx, hqx, g, f, hg1, hgQ, hrow⟩ := hrel
              have HBX := Lib.hid hbx
              have HQX := Lib.hid hqx
              have HROW := Lib.hid hrow
              clear hbx hqx hrow
              by_cases hkN : k < N
              · have hge := hg1 (by omega)
                subst hge
                have b0 := HROW.out.cell k hkN
                have b1 := HROW.out.free k hkN
                have b2 := HROW.out.bd k hkN
                rw [Nat.zero_add] at b0 b1
                have HR2 := Lib.hid (HROW.out.set (k := k) (x := (f k + 1) % 256) hkN (Nat.mod_lt _ (by omega)))
                have HB2 := Lib.hid (fun v => HBX.out.turned I (Turned.set (o := k) v (.inr rfl)))
                have HQ2 := Lib.hid (fun (v : Value) => (Below.heap_setCell wr ⟨g, k, none⟩ v Q (fun q => hgQ q.symm)).trans HQX.out)
                rw [Nat.zero_add] at HR2
                obtain ⟨y, hy⟩ : ∃ y, f k = y := ⟨_, rfl⟩
                rw [hy] at b0 b2 HR2
                have HUP := Lib.hid (byte_up y)
                have l2 : (k : Int) < (N : Int) := by omega
                clear hy
                go_wp2
                go_roundg (gk - 1)
                case measure => omega
                case rel => exact ⟨k + 1, by omega, by go_num, HB2.out _, HQ2.out _, g, _, fun _ => rfl, hgQ, by rw [HUP.out]; exact HR2.out⟩
              · obtain rfl : k = N := by omega
                clear hkN
                obtain ⟨G, R, S, LL, V, X, hat⟩ := HBX.out.rat
                obtain ⟨d0, d1, d2⟩ := hat.cells
                obtain ⟨AS, hS, hAS⟩ := hat.shape
                obtain ⟨AL, CL, hLL, _⟩ := hat.lshape
                have HAT := Lib.hid hat
                have HS := Lib.hid hS
                have HAS := Lib.hid hAS
                rw [hS] at d0
                rw [hLL] at d1
                have HLO := Lib.hid (fun n => Both.lost I (HBX.out.below I (below_drewN _ _ n)))
                have HLE := Lib.hid (fun n => Both.loose I (HBX.out.below I (below_drewN _ _ n)))
                have HCA := Lib.hid (fun n => Both.cap I (HBX.out.below I (below_drewN _ _ n)))
                have hsm := hat.ok.sm
                obtain ⟨ns, hns⟩ : ∃ x, s'.slots.length = x := ⟨_, rfl⟩
                obtain ⟨nl, hnl⟩ : ∃ x, s'.loose.length = x := ⟨_, rfl⟩
                obtain ⟨lo, hlo⟩ : ∃ x, s'.lost = x := ⟨_, rfl⟩
                rw [hns] at d0 HS HAS HCA hsm
                rw [hnl] at d1 HLE hsl'
                rw [hlo] at d2 HLO
                have HNS := Lib.hid hns
                have HNL := Lib.hid hnl
                have t1 : ((c : Int) != c) = false := by simp
                have t2 : (lo != lo) = false := by simp
                have t3 : ((nl : Int) != (nl : Int)) = false := by simp
                have t4 : ((ns : Int) != (ns : Int)) = false := by simp
                have k1 : wr.cell? ⟨Q, 1, none⟩ = some (.int .i64 slot) := by rw [cell_of_row _ _ _ _ _ _ HQX.out]; rfl
                clear hat hS hLL hns hnl hlo hAS
                go_wp2_with fail
                go_quiet ((first | (go_at_call 18; exact quiet_same0 (HLO.out _)) | (go_at_call 19; exact quiet_same0 (HLE.out _)) | (go_at_call 20; exact quiet_same0 (HCA.out _))))
                clear t1 t2 t3 t4 d0 d1 d2 HLO HLE HCA
                go_wp2_with fail
                refine (Both.read I (HBX.out.below I (below_drewN _ _ _)) (by rw [HNL.out]; omega) slot q3 q4).mono ?_
                rintro _ w9 ⟨u9, rfl, hu9, hb9⟩
                have HX9 := Lib.hid ((HBX.out.below I (below_drewN _ _ _)).below I hb9)
                have HQ9 := Lib.hid ((hb9.block Q (Array.getElem?_eq_some_iff.1 HQX.out).1).trans HQX.out)
                have HAT9 := Lib.hid ((HAT.out.drewN _).below hb9)
                have k9 : w9.cell? ⟨Q, 1, none⟩ = some (.int .i64 slot) := by rw [cell_of_row _ _ _ _ _ _ HQ9.out]; rfl
                have HU9 := Lib.hid hu9
                obtain ⟨A9, n9, C9, rfl⟩ : ∃ A n C, u9 = .slice A n C := by
                  obtain ⟨A, C, e, _⟩ := hu9.shape
                  exact ⟨A, _, C, e⟩
                obtain ⟨ck, hck⟩ : ∃ x, s'.check slot = x := ⟨_, rfl⟩
                rw [hck] at HU9 ⊢
                have HCK := Lib.hid hck
                clear hu9 hb9 hck k1
                go_wp2_with fail
                refine (Both.lasts I HX9.out slot q3 q4).mono ?_
                rintro _ w10 ⟨u10, rfl, hu10, hb10⟩
                have HX10 := Lib.hid (HX9.out.below I hb10)
                have HQ10 := Lib.hid ((hb10.block Q (Array.getElem?_eq_some_iff.1 HQ9.out).1).trans HQ9.out)
                have HAT10 := Lib.hid (HAT9.out.below hb10)
                have k10 : w10.cell? ⟨Q, 1, none⟩ = some (.int .i64 slot) := by rw [cell_of_row _ _ _ _ _ _ HQ10.out]; rfl
                have HU10 := Lib.hid hu10
                have HU9' := Lib.hid (HU9.out.below hb10)
                obtain ⟨A10, n10, C10, rfl⟩ : ∃ A n C, u10 = .slice A n C := by
                  obtain ⟨A, C, e, _⟩ := hu10.shape
                  exact ⟨A, _, C, e⟩
                rw [HCK.out] at HU10 ⊢
                clear hu10 hb10 k9
                go_wp2_with fail
                refine (Both.check HX10.out slot q3 q4).mono ?_
                rintro _ w11 ⟨rfl, rfl⟩
                rw [HCK.out]
                have t5 : ((ck : Int) != ck) = false := by simp
                by_cases hc0 : ck = 0
                · subst hc0
                  obtain ⟨_, q, rfl, hq⟩ := check_zero HCK.out
                  have HUA := Lib.hid (show Bytes w10 (.slice A9 n9 C9) (s'.get q) from HU9'.out)
                  have HUB := Lib.hid (show Bytes w10 (.slice A10 n10 C10) (s'.slots.getD q []) from HU10.out)
                  have HGR := Lib.hid (getV_row HAT10.out hq s'.loose.length (Nat.le_refl _))
                  have HVR := Lib.hid (HAT10.out.rows q hq)
                  obtain ⟨Ag, ng, Cg, hgv⟩ : ∃ A n C, getV V X s' q s'.loose.length = .slice A n C := by
                    obtain ⟨A, C, e, _⟩ := HGR.out.1.shape
                    exact ⟨A, _, C, e⟩
                  obtain ⟨Av, nv, Cv, hvv⟩ : ∃ A n C, V q = .slice A n C := by
                    obtain ⟨A, C, e, _⟩ := HVR.out.1.shape
                    exact ⟨A, _, C, e⟩
                  have HGET := Lib.hid (fun n => refGetAt (HAT10.out.drewN n) q hq)
                  rw [hgv] at HGET HGR
                  rw [hvv] at HVR
                  have HSM1 := Lib.hid (fun n => sameC _ _ _ _ _ (HUA.out.drewN n) ((show Bytes w10 (.slice Ag ng Cg) (s'.get q) from HGR.out.1).drewN n))
                  have HSM2 := Lib.hid (fun n => sameC _ _ _ _ _ (HUB.out.drewN n) ((show Bytes w10 (.slice Av nv Cv) (s'.slots.getD q []) by have := HVR.out.1; rw [List.getD_eq_getElem?_getD, List.getElem?_eq_getElem hq]; exact this).drewN n))
                  simp only [same_self] at HSM1 HSM2
                  obtain ⟨bs, hbs⟩ := HAS.out (by have := HNS.out; omega)
                  subst hbs
                  have e0 := HAT10.out.cells.1
                  have e1 := (HAT10.out.slot HS.out).1.cell hq
                  rw [HS.out] at e0
                  rw [hvv] at e1
                  have hq' : (q : Int) < (ns : Int) := by have := HNS.out; omega
                  clear hgv hvv
                  go_wp2_with fail
                  go_quiet ((first | (go_at_call 25; exact quiet_same0 (HGET.out _)) | (go_at_call 24; with_reducible exact quiet_drew0 (HSM1.out _)) | (go_at_call 24; with_reducible exact quiet_drew0 (HSM2.out _))))
                  clear e0 e1 t5 k10
                  go_wp2_with fail
                  go_roundg (m - i - 1)
                  case measure => omega
                  case rel => exact ⟨i + 1, by omega, by go_num, s', by have := HNL.out; omega, HOK'.out, (HX10.out.below I (below_drewN _ _ _)).less (fun _ q => q.elim)⟩
                · have t6 : ((ck : Int) == 0) = false := by rw [beq_eq_false_iff_ne]; exact hc0
                  clear hc0
                  go_wp2_with fail
                  go_quiet (fail)
                  clear t5 t6 k10
                  go_wp2_with fail
                  go_roundg (m - i - 1)
                  case measure => omega
                  case rel => exact ⟨i + 1, by omega, by go_num, s', by have := HNL.out; omega, HOK'.out, (HX10.out.below I (below_drewN _ _ _)).less (fun _ q => q.elim)⟩
      · obtain rfl : i = m := by omega
        go_wp2_with fail
        obtain ⟨wo, hwo⟩ : ∃ wo : World, wo = wr := ⟨_, rfl⟩
        subst hwo
        go_loopg [18] s.slots.length (fun kk cc wx => ∃ k : Nat, k + kk = s.slots.length ∧ cc = .int .i64 k ∧ Both PD w wx p r s s (fun _ => False))
        case atStart => exact ⟨0, by omega, rfl, HBR.out⟩
        case round =>
          obtain ⟨k, hkk, rfl, hbx⟩ := hrel
          have HBX := Lib.hid hbx
          obtain ⟨G, R, S, LL, V, X, hat⟩ := HBX.out.rat
          obtain ⟨d0, d1, d2⟩ := hat.cells
          obtain ⟨AS, hS, hAS⟩ := hat.shape
          have HAT := Lib.hid hat
          rw [hS] at d0
          clear d1 d2 hbx hat
          by_cases hks : k < s.slots.length
          · obtain ⟨bs, hbs⟩ := hAS (by omega)
            subst hbs
            have HCK := Lib.hid (check_in HOK.out hks)
            have hsm := HOK.out.sm
            have HS := Lib.hid hS
            have HKS := Lib.hid hks
            obtain ⟨ns, hns⟩ : ∃ x, s.slots.length = x := ⟨_, rfl⟩
            have HNS := Lib.hid hns
            rw [hns] at d0 hsm hkk hks HS
            have l5 : (k : Int) < (ns : Int) := by omega
            clear hS hAS hns
            go_wp2_with fail
            refine (Both.read I HBX.out (by omega) k (by omega) (by omega)).mono ?_
            rintro _ w9 ⟨u9, rfl, hu9, hb9⟩
            rw [if_pos HCK.out] at hu9
            rw [HCK.out]
            have HX9 := Lib.hid (HBX.out.below I hb9)
            have HAT9 := Lib.hid (HAT.out.below hb9)
            have HU9 := Lib.hid (show Bytes w9 u9 (s.get k) from hu9)
            obtain ⟨A9, n9, C9, rfl⟩ : ∃ A n C, u9 = .slice A n C := by
              obtain ⟨A, C, e, _⟩ := hu9.shape
              exact ⟨A, _, C, e⟩
            clear hu9 hb9 d0
            go_wp2_with fail
            refine (Both.lasts I HX9.out k (by omega) (by omega)).mono ?_
            rintro _ w10 ⟨u10, rfl, hu10, hb10⟩
            rw [if_pos HCK.out] at hu10
            rw [HCK.out]
            have HX10 := Lib.hid (HX9.out.below I hb10)
            have HAT10 := Lib.hid (HAT9.out.below hb10)
            have HU9' := Lib.hid (HU9.out.below hb10)
            have HU10 := Lib.hid (show Bytes w10 u10 (s.slots.getD k []) from hu10)
            obtain ⟨A10, n10, C10, rfl⟩ : ∃ A n C, u10 = .slice A n C := by
              obtain ⟨A, C, e, _⟩ := hu10.shape
              exact ⟨A, _, C, e⟩
            clear hu10 hb10
            go_wp2_with fail
            have hgr := getV_row HAT10.out HKS.out s.loose.length (Nat.le_refl _)
            have hvr := HAT10.out.rows k HKS.out
            have hget := refGetAt HAT10.out k HKS.out
            obtain ⟨Ag, ng, Cg, hgv⟩ : ∃ A n C, getV V X s k s.loose.length = .slice A n C := by
              obtain ⟨A, C, e, _⟩ := hgr.1.shape
              exact ⟨A, _, C, e⟩
            obtain ⟨Av, nv, Cv, hvv⟩ : ∃ A n C, V k = .slice A n C := by
              obtain ⟨A, C, e, _⟩ := hvr.1.shape
              exact ⟨A, _, C, e⟩
            rw [hgv] at hgr hget
            rw [hvv] at hvr
            have HGR := Lib.hid (show Bytes w10 (.slice Ag ng Cg) (s.get k) from hgr.1)
            have HVR := Lib.hid (show Bytes w10 (.slice Av nv Cv) (s.slots.getD k []) by have := hvr.1; rw [List.getD_eq_getElem?_getD, List.getElem?_eq_getElem HKS.out]; exact this)
            have HGET := Lib.hid hget
            have e0 := HAT10.out.cells.1
            have e1 := (HAT10.out.slot HS.out).1.cell HKS.out
            rw [HS.out] at e0
            rw [hvv] at e1
            clear hgr hvr hget hgv hvv
            refine HGET.out.mono ?_
            rintro _ w11 ⟨rfl, rfl⟩
            go_wp2_with fail
            refine (sameC _ _ _ _ w10 HU9'.out HGR.out).mono ?_
            rintro _ w11 ⟨rfl, n11, rfl⟩
            rw [same_self]
            go_wp2_with fail
            refine (sameC _ _ _ _ (w10.drewN n11) (HU10.out.drewN n11) (HVR.out.drewN n11)).mono ?_
            rintro _ w12 ⟨rfl, n12, rfl⟩
            rw [same_self]
            clear e0 e1
            go_wp2_with fail
            go_roundg (gk - 1)
            case measure => omega
            case rel => exact ⟨k + 1, by have := HNS.out; omega, by go_num, HX10.out.below I (below_drewN _ _ _)⟩
          · have hke : k = s.slots.length := by omega
            have l5 : ¬ (k : Int) < (s.slots.length : Int) := by omega
            clear hS hAS hke
            go_wp2_with fail
            refine (answersC I wr).mono ?_
            rintro _ w12 ⟨rfl, hb12⟩
            have HB12 := Lib.hid (HBX.out.bel.trans (hb12.mono HBX.out.bel.size))
            clear hb12
            go_wp2_with fail
            go_ret
            exact ⟨rfl, HB12.out⟩
end Go.Proofs.Ythlonnbafekjbaa.Drive
