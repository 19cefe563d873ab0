/- .. the calls of one cell, and of the drive, that turn it. -/
import Derived.Test.YthlonnbafekjbaaDcProg
namespace Go.Proofs.Ythlonnbafekjbaa.Drive
set_option linter.unusedVariables false
open Go.ChangeShapes Go.WideShapes Go.ChangeAt Go.RowKit
open Go.Mem Drv
section
variable {w : World} {p : Nat} {F R : Nat → Prop} {N L W : Nat → Value} {X : Nat → Nat → Value} {n : Nat} {C : Nat → Ce} {cnt : Nat} {lost : Bool} {bs : Nat}
/-- a cell is done something to: the drive's footprint, its rows, its number and flag stay -/
def CellDoes (w : World) (p : Nat) (F R : Nat → Prop) (bs n : Nat) (D : Nat → Ce) (cnt : Nat) (lost : Bool) (w' : World) : Prop :=
  ∃ F' N L W X, CAt w' p F' R (.slice (some ⟨bs, 0, none⟩) n n) N L W X n D cnt lost ∧ Turned F w w' ∧ Grown F F' w
theorem putC (h : CAt w p F R (.slice (some ⟨bs, 0, none⟩) n n) N L W X n C cnt lost) {i : Nat} (hi : i < n) (hn : n ≤ 128) {k : Nat} (hk : k ≤ 100000) {v : Value} {l : List Nat} (hv : RowIn R w v l) (hl : (C i).loose.length ≤ 100000) :
    Calls Try.prog 27 #[.pointer (some ⟨bs, i * 3, none⟩), .int .i64 k, v] w fun e w' => e = .returned (.tuple #[]) ∧ CellDoes w p F R bs n (upd C i ((C i).put k l)) cnt lost w' := by
  obtain ⟨A, K, rfl, _, _, _⟩ := hv.1.shape
  obtain ⟨c0, _, c2⟩ := h.slot rfl hi
  have f0 := h.sfree rfl (i * 3)
  obtain ⟨A0, n0, K0, e0⟩ : ∃ A n C, N i = .slice A n C := by
    obtain ⟨A, C, e, _⟩ := (h.now i hi).1.shape
    exact ⟨A, _, C, e⟩
  rw [e0] at c0
  have h1 := h.setNow rfl (i := i) hv
  have ht := Turned.set (F := F) (w := w) (o := i * 3) (.slice A l.length K) (h.table rfl).2.1
  have hv1 : RowIn R (w.setCell ⟨bs, i * 3, none⟩ (.slice A l.length K)) (.slice A l.length K) l := hv.same (fun b hb => hot _ _ _ _ b (fun q => (h.table rfl).2.2.2.1 (q ▸ hb))) (fun _ q => q)
  obtain ⟨M, hM⟩ : ∃ M, l.length = M := ⟨_, rfl⟩
  by_cases h64 : k < 64
  · have t64 : (k : Int) < 64 := by omega
    have hw1 := h1.loose i hi
    rw [upd_self] at hw1
    obtain ⟨w1, e1⟩ : ∃ w1, w.setCell ⟨bs, i * 3, none⟩ (.slice A l.length K) = w1 := ⟨_, rfl⟩
    obtain ⟨_, _, d2⟩ := h1.slot rfl hi
    have f2 := h1.sfree rfl (i * 3 + 2)
    obtain ⟨AW, KW, eW, hW1, hW2, hW3⟩ := h.lshape hi
    rw [e1] at hw1 d2 f2 h1 ht hv1
    obtain ⟨v2, w2, hrun, hown2, hg2, hat2⟩ := run_append_cells (P := Try.prog) w1 0 63 63 67 (.agg #[.int .i64 0, .slice none 0 0]) 2 32 Try.underlying63 infoWr rfl (by omega) (W i) _ _ hw1 #[.int .i64 k, .slice A l.length K] rfl (by simp [Value.oneCell']) (show ((C i).loose.length + 1) * (32 + 1) ≤ 140737488355328 by omega) (Nat.zero_le _)
    obtain ⟨A2, K2, e2⟩ := owns_shape hown2
    subst e2
    have hpu := h1.push (bs := bs) rfl hi (q := k) hv1 (by rw [upd_self]; exact hown2) hg2 hat2
    obtain ⟨B, hB⟩ : ∃ B, (C i).loose.length = B := ⟨_, rfl⟩
    have hWne : (W i).ownBlock ≠ some bs := (h.table rfl).2.2.2.2 i hi
    have hs2 := hg2.size
    have hz1 : w1.heap.size = w.heap.size := by rw [← e1]; exact set_size _ _ _ _
    have hbs : bs < w.heap.size := h.lt bs (h.table rfl).2.1
    have d2' : w2.cell? ⟨bs, i * 3 + 2, none⟩ = some (W i) := (World.cell?_of_block (w := w1) (a := ⟨bs, i * 3 + 2, none⟩) (hg2.block bs (by omega) (fun q => hWne q.symm))).trans d2
    have f2' : w2.frozen? ⟨bs, i * 3 + 2, none⟩ = false := (World.frozen?_of_block (w := w1) (a := ⟨bs, i * 3 + 2, none⟩) (hg2.block bs (by omega) (fun q => hWne q.symm))).trans f2
    rw [eW] at d2 d2' hrun
    have HPU := Lib.hid hpu
    have HT := Lib.hid ht
    have HRUN := Lib.hid hrun
    have HE := Lib.hid (show upd (upd C i ⟨l, (C i).lasts, (C i).loose⟩) i ⟨(upd C i ⟨l, (C i).lasts, (C i).loose⟩ i).now, (upd C i ⟨l, (C i).lasts, (C i).loose⟩ i).lasts, (upd C i ⟨l, (C i).lasts, (C i).loose⟩ i).loose ++ [(k, l)]⟩ = upd C i ((C i).put k l) by
      rw [upd_upd, upd_self]
      unfold Ce.put
      rw [if_pos h64])
    have E1 := Lib.hid e1
    rw [hM] at hrun HRUN E1 e1
    rw [hB] at hrun HRUN d2 d2'
    clear hpu ht hrun hown2 hg2 hat2 hw1 h1 hv1 h hv eW e0 e1 hs2 hz1 hbs hWne
    go_enter Try.func27, Try.ntmps27
    rw [hM]
    have HB := Lib.hid hB
    clear hM hB
    go_upto_region 2 with (fail)
    rw [E1.out]
    clear c0 c2 f0
    go_wp2_with (at_builtin; refine Lib.wpList_append_run _ rfl (.tmp 16) (.tmp 20) 63 63 rfl _ _ rfl rfl _ _ HRUN.out ?_)
    go_end0
    obtain ⟨p1, p2, p3⟩ := HPU.out
    rw [HE.out] at p1
    have hB := HB.out
    subst hB
    exact ⟨rfl, _, _, _, _, _, p1, HT.out.trans p2 (Grown.refl _ _), fun b hb => (p3 b hb).imp id (fun q => by have := HT.out.size; omega)⟩
  · have t64 : ¬ (k : Int) < 64 := by omega
    have H1 := Lib.hid h1
    have HT := Lib.hid ht
    have HE := Lib.hid (show upd C i ⟨l, (C i).lasts, (C i).loose⟩ = upd C i ((C i).put k l) by
      unfold Ce.put
      rw [if_neg h64])
    clear h1 ht hv1 h hv e0 c2 hM
    go_enter Try.func27, Try.ntmps27
    go_wp2
    go_end0
    exact ⟨rfl, F, _, _, _, _, HE.out ▸ H1.out, HT.out, Grown.refl _ _⟩
theorem cflushC (h : CAt w p F R (.slice (some ⟨bs, 0, none⟩) n n) N L W X n C cnt lost) {i : Nat} (hi : i < n) (hn : n ≤ 128) :
    Calls Try.prog 30 #[.pointer (some ⟨bs, i * 3, none⟩)] w fun e w' => e = .returned (.tuple #[]) ∧ CellDoes w p F R bs n (upd C i (C i).flush) cnt lost w' := by
  obtain ⟨c0, c1, c2⟩ := h.slot rfl hi
  have f1 := h.sfree rfl (i * 3 + 1)
  have f2 := h.sfree rfl (i * 3 + 2)
  have h1 := h.setLasts rfl (i := i) (h.now i hi)
  have h2 := h1.clear rfl (i := i)
  have hF := (h.table rfl).2.1
  obtain ⟨A0, n0, K0, e0⟩ : ∃ A n C, N i = .slice A n C := by
    obtain ⟨A, C, e, _⟩ := (h.now i hi).1.shape
    exact ⟨A, _, C, e⟩
  obtain ⟨A1, n1, K1, e1⟩ : ∃ A n C, L i = .slice A n C := by
    obtain ⟨A, C, e, _⟩ := (h.lasts i hi).1.shape
    exact ⟨A, _, C, e⟩
  obtain ⟨AW, KW, eW, _, _, _⟩ := h.lshape hi
  obtain ⟨B, hB⟩ : ∃ B, (C i).loose.length = B := ⟨_, rfl⟩
  rw [e0] at c0 h2
  rw [e1] at c1
  rw [eW, hB] at c2
  have H2 := Lib.hid h2
  have HE := Lib.hid (show upd (upd C i ⟨(C i).now, (C i).now, (C i).loose⟩) i ⟨(upd C i ⟨(C i).now, (C i).now, (C i).loose⟩ i).now, (upd C i ⟨(C i).now, (C i).now, (C i).loose⟩ i).lasts, []⟩ = upd C i (C i).flush by
    rw [upd_upd, upd_self]; rfl)
  clear h h1 h2 e0 e1 eW hB
  go_enter Try.func30, Try.ntmps30
  go_wp2
  go_end0
  exact ⟨rfl, F, _, _, _, _, HE.out ▸ H2.out, (Turned.set _ hF).trans (Turned.set _ hF) (Grown.refl _ _), Grown.refl _ _⟩
theorem bitA (x k : Nat) (hx : x < 18446744073709551616) : bits .and .u64 ((x : Int) / 2 ^ k) 1 = ((x / 2 ^ k % 2 : Nat) : Int) := by
  have h : x / 2 ^ k ≤ x := Nat.div_le_self _ _
  rw [show ((x : Int) / 2 ^ k) = ((x / 2 ^ k : Nat) : Int) by simp, show (1 : Int) = ((1 : Nat) : Int) from rfl, u64_and_nat _ _ (by omega) (by omega), Nat.and_one_is_mod]
theorem bitA_true {x k : Nat} (hx : x < 18446744073709551616) (h : x / 2 ^ k % 2 = 1) : (bits .and .u64 ((x : Int) / 2 ^ k) 1 == 1) = true := by
  rw [bitA _ _ hx, h]; rfl
theorem bitA_false {x k : Nat} (hx : x < 18446744073709551616) (h : ¬ x / 2 ^ k % 2 = 1) : (bits .and .u64 ((x : Int) / 2 ^ k) 1 == 1) = false := by
  rw [beq_eq_false_iff_ne, bitA _ _ hx]
  intro q
  exact h (by exact_mod_cast q)
/-- a cell in the midst of the loop over its loose writes: D lasts -/
structure MidC (w wr : World) (p : Nat) (F R : Nat → Prop) (N W : Nat → Value) (X : Nat → Nat → Value) (bs n : Nat) (C : Nat → Ce) (cnt : Nat) (lost : Bool) (i : Nat) (D : List Nat) : Prop where
  at_ : ∃ L, CAt wr p F R (.slice (some ⟨bs, 0, none⟩) n n) N L W X n (upd C i ⟨(C i).now, D, (C i).loose⟩) cnt lost
  turn : Turned F w wr
theorem MidC.go {wr wx : World} {i : Nat} {D : List Nat} (h : MidC w wr p F R N W X bs n C cnt lost i D) (hb : Below wr.heap.size wr wx) : MidC w wx p F R N W X bs n C cnt lost i D := by
  obtain ⟨L, h1⟩ := h.at_
  exact ⟨⟨L, h1.below hb⟩, h.turn.trans (Turned.of_below F hb) (Grown.refl _ _)⟩
theorem MidC.step {wr : World} {i : Nat} {D : List Nat} (h : MidC w wr p F R N W X bs n C cnt lost i D) {v : Value} {b : List Nat} (hv : RowIn R wr v b) : MidC w (wr.setCell ⟨bs, i * 3 + 1, none⟩ v) p F R N W X bs n C cnt lost i b := by
  obtain ⟨L, h1⟩ := h.at_
  have h2 := h1.setLasts rfl (i := i) hv
  rw [upd_upd, upd_self] at h2
  exact ⟨⟨_, h2⟩, turned_set h.turn _ (h1.table rfl).2.1⟩
theorem take_lastL {keep : Nat} {l : List (Nat × List Nat)} {b : List Nat} {j : Nat} (hj : j < l.length) : lastL keep (l.take (j + 1)) b = if keep / 2 ^ l[j].1 % 2 = 1 then l[j].2 else lastL keep (l.take j) b := by
  rw [List.take_succ_eq_append_getElem hj, lastL_snoc]
set_option maxHeartbeats 4000000 in
theorem ccrashC (h : CAt w p F R (.slice (some ⟨bs, 0, none⟩) n n) N L W X n C cnt lost) {i : Nat} (hi : i < n) (hn : n ≤ 128) (hl : (C i).loose.length ≤ 100000) (h64 : ∀ x ∈ (C i).loose, x.1 < 64) {keep : Nat} (hkp : keep < 18446744073709551616) :
    Calls Try.prog 31 #[.pointer (some ⟨bs, i * 3, none⟩), .int .u64 keep] w fun e w' => e = .returned (.tuple #[]) ∧ CellDoes w p F R bs n (upd C i ((C i).crash keep)) cnt lost w' := by
  obtain ⟨_, _, c2⟩ := h.slot rfl hi
  obtain ⟨AW, KW, eW, hW1, hW2, hW3⟩ := h.lshape hi
  obtain ⟨A0, n0, K0, e0⟩ : ∃ A n C, N i = .slice A n C := by
    obtain ⟨A, C, e, _⟩ := (h.now i hi).1.shape
    exact ⟨A, _, C, e⟩
  have H0 := Lib.hid (show MidC w w p F R N W X bs n C cnt lost i (lastL keep ((C i).loose.take 0) (C i).lasts) from ⟨⟨L, h.congr fun j hj => by
    by_cases q : j = i
    · subst q; rw [upd_self]; rfl
    · rw [upd_ne _ _ q]⟩, Turned.refl _ _⟩)
  have HF := Lib.hid (h.table rfl).2.1
  obtain ⟨m, hm⟩ : ∃ m, (C i).loose.length = m := ⟨_, rfl⟩
  rw [hm] at eW hW1 hW3 hl
  rw [eW] at c2
  have HEW := Lib.hid eW
  have HE0 := Lib.hid e0
  have HW3 := Lib.hid hW3
  have HM := Lib.hid hm
  have HKP := Lib.hid hkp
  have H64 := Lib.hid h64
  clear h eW hW3 hm hkp h64 e0
  go_enter Try.func31, Try.ntmps31
  go_wp2
  clear c2
  go_loopw [11] (fun c wr => ∃ k : Nat, k ≤ m ∧ c = .int .i64 k ∧ MidC w wr p F R N W X bs n C cnt lost i (lastL keep ((C i).loose.take k) (C i).lasts)) (fun c _ => m - (intOf c).toNat)
  case atStart => exact ⟨0, Nat.zero_le _, rfl, H0.out⟩
  case round =>
    obtain ⟨k, hk, rfl, hmid⟩ := hrel
    by_cases hlt : k < m
    · skip
      obtain ⟨Lk, hat⟩ := hmid.at_
      have hk' : k < (C i).loose.length := by rw [HM.out]; exact hlt
      obtain ⟨g, hge⟩ := HW3.out (by omega)
      subst hge
      have hul : (upd C i ⟨(C i).now, lastL keep ((C i).loose.take k) (C i).lasts, (C i).loose⟩ i).loose = (C i).loose := by rw [upd_self]
      have hw0 : wr.cell? ⟨g, k * 2, none⟩ = some (.int .i64 ((C i).loose[k].1 : Nat)) := by
        have z := (hat.write hi HEW.out (j := k) (by rw [hul]; exact hk')).1
        simp only [hul] at z
        exact z
      have hw1 := (hat.write hi HEW.out (j := k) (by rw [hul]; exact hk')).2
      have hrow : RowIn R wr (X i k) (C i).loose[k].2 := by
        have z := hat.looser i hi k (by rw [hul]; exact hk')
        simp only [hul] at z
        exact z
      obtain ⟨q, hqe⟩ : ∃ q, (C i).loose[k].1 = q := ⟨_, rfl⟩
      have hq64 : q < 64 := hqe ▸ H64.out _ (List.getElem_mem hk')
      rw [hqe] at hw0
      obtain ⟨Ax, nx, Cx, hxe⟩ : ∃ A n C, X i k = .slice A n C := by
        obtain ⟨A, C, e, _⟩ := hrow.1.shape
        exact ⟨A, _, C, e⟩
      rw [hxe] at hw1 hrow
      have HTK := Lib.hid (take_lastL (keep := keep) (b := (C i).lasts) hk')
      rw [hqe] at HTK
      have HMID := Lib.hid hmid
      have HROW := Lib.hid hrow
      have l1 : (k : Int) < (m : Int) := by omega
      clear hmid hat hqe hxe hul hrow
      go_upto_region 3 with (fail)
      clear hw0 hw1
      have HMA0 := Lib.hid (HMID.out.go ((Below.refl wr.heap.size wr).alloc (Nat.le_refl _) (.cells #[.int .i64 (q : Nat), .slice Ax nx Cx] 67)))
      have HROA := Lib.hid (show RowIn R (wr.alloc (.cells #[.int .i64 (q : Nat), .slice Ax nx Cx] 67)) (.slice Ax nx Cx) (C i).loose[k].2 from HROW.out.same (fun b hb => ((Below.refl wr.heap.size wr).alloc (Nat.le_refl _) _).block b (by obtain ⟨_, ha⟩ := HMID.out.at_; exact ha.lt b (ha.rf b hb))) (fun _ q => q))
      have HQB0 := Lib.hid (heap_alloc_new wr (.cells #[.int .i64 (q : Nat), .slice Ax nx Cx] 67))
      generalize hwa : wr.alloc (.cells #[.int .i64 (q : Nat), .slice Ax nx Cx] 67) = wa at HMA0 HQB0 HROA
      obtain ⟨Q, hQ⟩ : ∃ Q, wr.heap.size = Q := ⟨_, rfl⟩
      rw [hQ] at HQB0 ⊢
      clear hwa hQ
      have a0 : wa.cell? ⟨Q, 0, none⟩ = some (.int .i64 (q : Nat)) := by rw [cell_of_row _ _ _ _ _ _ HQB0.out]; rfl
      have a1 : wa.cell? ⟨Q, 1, none⟩ = some (.slice Ax nx Cx) := by rw [cell_of_row _ _ _ _ _ _ HQB0.out]; rfl
      obtain ⟨La, hata⟩ := HMA0.out.at_
      obtain ⟨_, c1, _⟩ := hata.slot rfl hi
      have f1 := hata.sfree rfl (i * 3 + 1)
      obtain ⟨A1, n1, K1, e1⟩ : ∃ A n C, La i = .slice A n C := by
        obtain ⟨A, C, e, _⟩ := (hata.lasts i hi).1.shape
        exact ⟨A, _, C, e⟩
      rw [e1] at c1
      clear hata e1
      by_cases hbit : keep / 2 ^ q % 2 = 1
      · have hb := bitA_true HKP.out hbit
        have HST := Lib.hid (HMA0.out.step HROA.out)
        have HFN := Lib.hid (show lastL keep ((C i).loose.take (k + 1)) (C i).lasts = (C i).loose[k].2 by rw [HTK.out, if_pos hbit])
        clear hbit
        go_wp2
        go_roundw
        case rel => exact ⟨k + 1, by omega, by go_num, by rw [HFN.out]; exact HST.out⟩
        case measure => simp [intOf]; omega
      · have hb := bitA_false HKP.out hbit
        have HFN := Lib.hid (show lastL keep ((C i).loose.take (k + 1)) (C i).lasts = lastL keep ((C i).loose.take k) (C i).lasts by rw [HTK.out, if_neg hbit])
        clear hbit
        go_wp2
        go_roundw
        case rel => exact ⟨k + 1, by omega, by go_num, by rw [HFN.out]; exact HMA0.out⟩
        case measure => simp [intOf]; omega
    · obtain rfl : k = m := by omega
      obtain ⟨Lk, hat⟩ := hmid.at_
      obtain ⟨c0, c1, c2⟩ := hat.slot rfl hi
      have f0 := hat.sfree rfl (i * 3)
      have f2 := hat.sfree rfl (i * 3 + 2)
      have hF := (hat.table rfl).2.1
      obtain ⟨A1, n1, K1, e1⟩ : ∃ A n C, Lk i = .slice A n C := by
        obtain ⟨A, C, e, _⟩ := (hat.lasts i hi).1.shape
        exact ⟨A, _, C, e⟩
      have hla := hat.lasts i hi
      rw [upd_self] at hla
      have h1 := hat.setNow rfl (i := i) hla
      have h2 := h1.clear rfl (i := i)
      rw [e1] at c1 h2
      rw [HE0.out] at c0
      rw [HEW.out] at c2
      rw [← HM.out, List.take_length] at h2
      have HE := Lib.hid (show upd (upd (upd C i ⟨(C i).now, lastL keep (C i).loose (C i).lasts, (C i).loose⟩) i ⟨lastL keep (C i).loose (C i).lasts, (upd C i ⟨(C i).now, lastL keep (C i).loose (C i).lasts, (C i).loose⟩ i).lasts, (upd C i ⟨(C i).now, lastL keep (C i).loose (C i).lasts, (C i).loose⟩ i).loose⟩) i ⟨(upd (upd C i ⟨(C i).now, lastL keep (C i).loose (C i).lasts, (C i).loose⟩) i ⟨lastL keep (C i).loose (C i).lasts, (upd C i ⟨(C i).now, lastL keep (C i).loose (C i).lasts, (C i).loose⟩ i).lasts, (upd C i ⟨(C i).now, lastL keep (C i).loose (C i).lasts, (C i).loose⟩ i).loose⟩ i).now, (upd (upd C i ⟨(C i).now, lastL keep (C i).loose (C i).lasts, (C i).loose⟩) i ⟨lastL keep (C i).loose (C i).lasts, (upd C i ⟨(C i).now, lastL keep (C i).loose (C i).lasts, (C i).loose⟩ i).lasts, (upd C i ⟨(C i).now, lastL keep (C i).loose (C i).lasts, (C i).loose⟩ i).loose⟩ i).lasts, []⟩ = upd C i ((C i).crash keep) by
        simp only [upd_upd, upd_self]; rfl)
      have H2 := Lib.hid h2
      have HT := Lib.hid (turned_set (o := i * 3 + 2) (turned_set (o := i * 3) hmid.turn (.slice A1 n1 K1) hF) (.slice none 0 0) hF)
      clear h1 h2 hat e1 hla hmid
      go_wp2
      go_end0
      exact ⟨rfl, F, _, _, _, _, HE.out ▸ H2.out, HT.out, Grown.refl _ _⟩
end
end Go.Proofs.Ythlonnbafekjbaa.Drive
