/- The document's write to a drive, as a walk. -/
import Derived.Test.YthlonnbafekjbaaRefDr
namespace Go.Proofs.Ythlonnbafekjbaa.Drive
set_option linter.unusedVariables false
open Go.ChangeShapes Go.WideShapes Go.ChangeAt Go.RowKit
open Go.Mem Drv
theorem infoWrite : (Try.prog.info? 62).map (fun i => (i.zero, i.size, i.bytes)) = some (some (.agg #[.int .i64 0, .slice none 0 0]), 2, 32) := by kernel_rfl
theorem ret_i64 {a b : Int} (h : a = b) : Ending.returned (.int .i64 a) = .returned (.int .i64 b) := by rw [h]
theorem put_no {s : St} {i : Int} {n : Nat} (h : s.check i ≠ 0) : s.putE i n = s.check i := by unfold St.putE; rw [if_neg h]
theorem put_long {s : St} {i : Int} {n : Nat} (h : s.check i = 0) (hn : 64 < n) : s.putE i n = 1 := by unfold St.putE; rw [if_pos h, if_pos hn]
theorem put_yes {s : St} {i : Int} {n : Nat} (h : s.check i = 0) (hn : ¬ 64 < n) : s.putE i n = 0 := by unfold St.putE; rw [if_pos h, if_neg hn]
theorem put_same {s : St} {i : Int} {l : List Nat} (h : s.putE i l.length ≠ 0) : s.put i l = s := by unfold St.put; rw [if_neg h]
theorem check_zero {s : St} {i : Int} (h : s.check i = 0) : s.lost = false ∧ ∃ q : Nat, i = q ∧ q < s.slots.length := by
  unfold St.check at h
  split at h
  · omega
  · rename_i hl
    split at h
    · omega
    · exact ⟨by simpa using hl, i.toNat, by omega, by omega⟩
theorem owns_shape {w : World} {base t sz n : Nat} {v : Value} {xs : List Value} (h : w.ownsRow base t sz v n xs) : ∃ A C, v = .slice A n C := by
  rcases h.2 with ⟨e, h0⟩ | ⟨g, cap, cur, e, _⟩
  · exact ⟨none, 0, by rw [e, h0]⟩
  · exact ⟨_, _, e⟩
set_option maxHeartbeats 4000000 in
theorem refPutC {w : World} {F : Nat → Prop} {p : Nat} {s : St} (h : RDr w F p s) (hsm : s.loose.length ≤ 100000) (i : Int) (l0 : -9223372036854775808 ≤ i) (u0 : i ≤ 9223372036854775807) (l : List Nat) (v : Value) (hl : Bytes w v l) :
    Calls Try.prog 12 #[.pointer (some ⟨p, 0, none⟩), .int .i64 i, v] w fun e w' => e = .returned (.int .i64 (s.putE i l.length)) ∧ ∃ F', RDr w' F' p (s.put i l) ∧ Turned F w w' ∧ Grown F F' w := by
  have H := Lib.hid h
  by_cases hc : s.check i = 0
  · obtain ⟨A, C, rfl, h1, h2, h3⟩ := hl.shape
    by_cases hn : 64 < l.length
    · have HE := Lib.hid (put_long hc hn)
      have HS := Lib.hid (put_same (s := s) (i := i) (l := l) (by rw [put_long hc hn]; omega))
      have HC := Lib.hid hc
      obtain ⟨N, hN⟩ : ∃ N, l.length = N := ⟨_, rfl⟩
      rw [hN] at hn h1 HE ⊢
      have hn' : (64 : Int) < (N : Int) := by omega
      clear h hc hl hN
      go_enter Try.func12, Try.ntmps12
      go_wp2_with fail
      refine (refCheckC H.out i l0 u0).mono ?_
      rintro _ w1 ⟨rfl, rfl⟩
      rw [HC.out]
      go_wp2_with fail
      go_ret
      exact ⟨by rw [HE.out]; rfl, F, by rw [HS.out]; exact H.out, Turned.refl _ _, Grown.refl _ _⟩
    · obtain ⟨hlo, q, rfl, hq⟩ := check_zero hc
      have HE := Lib.hid (put_yes hc hn)
      have HS := Lib.hid (show s.put (q : Nat) l = { s with loose := s.loose ++ [(q, l)] } by unfold St.put; rw [if_pos (put_yes hc hn)]; rfl)
      have HC := Lib.hid hc
      have HV := Lib.hid hl
      obtain ⟨R, S, L, V, X, h⟩ := h
      obtain ⟨AL, CL, hLe, hL1, hL2, hL3⟩ := h.lshape
      have hsl := h.ok.sm
      obtain ⟨m, hm⟩ : ∃ m, s.loose.length = m := ⟨_, rfl⟩
      rw [hm] at hLe hL1 hsm
      subst hLe
      have HAT := Lib.hid h
      obtain ⟨c0, c1, c2⟩ := h.cells
      have f1 := h.free 1
      have hplt : p < w.heap.size := h.lt p h.fp
      have HM := Lib.hid hm
      have HQ := Lib.hid hq
      obtain ⟨N, hN⟩ : ∃ N, l.length = N := ⟨_, rfl⟩
      rw [hN] at h1 hn HV HE ⊢
      have HN := Lib.hid hN
      have hn' : ¬ (64 : Int) < (N : Int) := by omega
      have hal : Below w.heap.size w (w.alloc (.cells #[] 5)).drew := ((Below.refl _ _).alloc (Nat.le_refl _) _).drew
      have HB0 := Lib.hid (show Built ByteR (w.alloc (.cells #[] 5)).drew w.heap.size 5 (.slice (some ⟨w.heap.size, 0, none⟩) 0 0) [] from (built_none w (Nat.le_refl _)).below (below_drewN _ _ 1))
      have HT := Lib.hid (show Bytes (w.alloc (.cells #[] 5)).drew (.slice A N C) l from HV.out.below hal)
      have HSZ := Lib.hid hal.size
      have HAL := Lib.hid hal
      clear h hc hlo hm hN hl hal hq c0 c2
      go_enter Try.func12, Try.ntmps12
      go_wp2_with fail
      refine (refCheckC H.out q l0 u0).mono ?_
      rintro _ w1 ⟨rfl, rfl⟩
      rw [HC.out]
      go_upto_region 6 with (fail)
      go_region_law (first
        | (refine step_append_list byteR_world byteR_one _ rfl (.tmp 23) (.tmp 24) 28 rfl w.heap.size 5 (.int .u8 0) 1 Try.underlying28 infoByte rfl _ _ rfl HB0.out _ _ _ _ rfl HT.out (by rw [HN.out]; simp; omega) HSZ.out ?_; intro v1 w1 hbu1 hg1 hb1; rw [List.nil_append] at hbu1; obtain ⟨A1, C1, e1, hl1, hl1'⟩ := hbu1.len; rw [HN.out] at e1 hl1; subst e1; have HBW1 := Lib.hid (HAL.out.trans hb1); have HBU1 := Lib.hid hbu1; have how1 := Lib.hid (HAT.out.below HBW1.out).loose; obtain ⟨_, d1, _⟩ := (HAT.out.below HBW1.out).cells; have g1 := (HAT.out.below HBW1.out).free 1; have g2 : p < w1.heap.size := Nat.lt_of_lt_of_le hplt HBW1.out.size; clear hbu1 hg1 hb1)
        | (refine step_append_cells _ rfl (.tmp 21) (.tmp 27) 37 rfl 0 62 (.agg #[.int .i64 0, .slice none 0 0]) 2 32 Try.underlying37 infoWrite rfl (by omega) _ _ _ rfl how1.out #[.int .i64 q, .slice A1 N C1] _ rfl rfl rfl (by simp [Value.oneCell']) (by rw [HM.out]; omega) (Nat.zero_le _) ?_; intro v2 w2 hown2 hg2 hat2; obtain ⟨A2, C2, e2⟩ := owns_shape hown2; subst e2; have HPU := Lib.hid (HAT.out.push HBW1.out HBU1.out hown2 hg2 hat2 HQ.out (by rw [HN.out]; omega)); have hp2 := Lib.hid (show w2.heap[p]? = w.heap[p]? from (hg2.block p (Nat.lt_of_lt_of_le (HAT.out.lt p HAT.out.fp) HBW1.out.size) (fun e => (HAT.out.own p e.symm).2.1 rfl)).trans (HBW1.out.block p (HAT.out.lt p HAT.out.fp))); have k1 : w2.cell? ⟨p, 1, none⟩ = some (.slice AL m CL) := (World.cell?_of_block (w := w) (a := ⟨p, 1, none⟩) hp2.out).trans HAT.out.cells.2.1; have k2 : w2.frozen? ⟨p, 1, none⟩ = false := (World.frozen?_of_block (w := w) (a := ⟨p, 1, none⟩) hp2.out).trans (HAT.out.free 1); clear hown2 hg2 hat2))
      all_goals
        clear d1 g1 g2 k1 k2
        go_wp2_with fail
        go_ret
        obtain ⟨F', hat', ht', hg'⟩ := HPU.out
        exact ⟨by rw [HE.out]; rfl, F', by rw [HS.out]; exact ⟨_, _, _, _, _, hat'⟩, ht', hg'⟩
  · have HE := Lib.hid (put_no (n := l.length) hc)
    have HS := Lib.hid (put_same (s := s) (i := i) (l := l) (by rw [put_no hc]; exact hc))
    obtain ⟨c, hce⟩ : ∃ c, s.check i = c := ⟨_, rfl⟩
    rw [hce] at hc HE
    have HC := Lib.hid hce
    have ht : (c != 0) = true := by rw [bne_iff_ne]; exact hc
    clear h hc hl hce
    go_enter Try.func12, Try.ntmps12
    go_wp2_with fail
    refine (refCheckC H.out i l0 u0).mono ?_
    rintro _ w1 ⟨rfl, rfl⟩
    rw [HC.out]
    go_wp2_with fail
    go_ret
    exact ⟨by rw [HE.out]; rfl, F, by rw [HS.out]; exact H.out, Turned.refl _ _, Grown.refl _ _⟩
end Go.Proofs.Ythlonnbafekjbaa.Drive
