/- The program's own stripes: what Count, Split, enough and Join return. -/
import Derived.Test.YtgbeolepfmihgaaStI
import Derived.Test.YtgbeolepfmihgaaStCut
namespace Go.Proofs.Ytgbeolepfmihgaa.Stp
set_option linter.unusedVariables false
open Go.ChangeShapes Go.WideShapes Go.ChangeAt Go.RowKit
open Go.Mem St
theorem infoPart : (Try.prog.info? 25).map (fun i => (i.zero, i.size, i.bytes)) = some (some (.slice none 0 0), 1, 24) := by kernel_rfl
theorem sizeByte : (Try.prog.info? 5).map (·.size) = some 1 := by kernel_rfl
set_option maxHeartbeats 1000000 in
theorem countC (W : World) (k size : Int) (hk : I64 k) (hs : I64 size) (hk2 : k ≤ 1048576) : Calls Try.prog 9 #[.int .i64 k, .int .i64 size] W fun e w' => e = .returned (.int .i64 (cntS k size)) ∧ W = w' := by
  obtain ⟨k0, k1⟩ := hk
  obtain ⟨s0, s1⟩ := hs
  have d2 : decide (1048576 < k) = false := by simpa using (by omega : ¬ 1048576 < k)
  by_cases c1 : k < 1
  · have HC := Lib.hid (cntS_none (k := k) (size := size) (.inl c1))
    have d1 : decide (k < 1) = true := by simpa using c1
    go_enter Try.func9, Try.ntmps9
    go_wp2
    go_ret
    exact ⟨by rw [HC.out]; rfl, rfl⟩
  · have d1 : decide (k < 1) = false := by simpa using c1
    by_cases c2 : size < 1
    · have HC := Lib.hid (cntS_none (k := k) (size := size) (.inr c2))
      have d3 : decide (size < 1) = true := by simpa using c2
      go_enter Try.func9, Try.ntmps9
      go_wp2
      go_ret
      exact ⟨by rw [HC.out]; rfl, rfl⟩
    · have HC := Lib.hid (cntS_some (k := k) (size := size) (by omega) (by omega))
      have d3 : decide (size < 1) = false := by simpa using c2
      have b1 : 0 ≤ (size - 1) / (k * 8) := Int.ediv_nonneg (by omega) (by omega)
      have b2 : (size - 1) / (k * 8) ≤ size - 1 := Int.ediv_le_self _ (by omega)
      go_enter Try.func9, Try.ntmps9
      go_wp2
      go_ret
      exact ⟨by rw [HC.out, Int.mul_comm 8 k]; rfl, rfl⟩
theorem tail_of (l : List Nat) (A : Option Addr) (L C W : Nat) (hL : l.length = L) (hW : W ≤ L) (hC : L ≤ C) :
    ∃ A' D, (∀ w, (Instr.slice 25 (.slice A L C) (some (.int .i64 (W : Nat))) none none).run Try.prog w = .ok (.slice A' (L - W) D) w) ∧ ∀ w, Bytes w (.slice A L C) l → Bytes w (.slice A' (L - W) D) (l.drop W) := by
  have hsz : ∀ w, (sizeOf 5).run Try.prog w = .ok 1 w := fun w => by kernel_rfl
  refine ⟨if C = W then A else A.map (·.add (W * 1)), C - W, fun w => ?_, fun w h => ?_⟩
  · rw [run_slice_l w 25 A L C Try.underlying25 .i64 (W : Nat) (by omega) (by omega)]
    rw [show Try.prog.elem 25 = 5 from rfl, hsz]
    simp only [Result.andThen, sliced, Int.toNat_natCast]
  · obtain ⟨A1, n1, C1, e1, e2, e3, e4, e5, e6⟩ := h
    cases e1
    refine ⟨_, L - W, C - W, rfl, by rw [List.length_drop]; omega, by omega, by omega, fun hn => ?_, fun i hi => ?_⟩
    · have : A = none := by
        by_cases hc : C = W
        · rw [if_pos hc] at hn; exact hn
        · rw [if_neg hc] at hn; simpa using hn
      have := e5 this
      omega
    · have hi' : W + i < l.length := by rw [List.length_drop] at hi; omega
      obtain ⟨b, o, c, k1, k2, k3⟩ := e6 (W + i) hi'
      refine ⟨b, o + W, c, ?_, by rw [Nat.add_assoc]; exact k2, by rw [List.getElem_drop]; exact k3⟩
      rw [if_neg (by omega), k1, Nat.mul_one]
      unfold Addr.add
      by_cases h0 : W = 0
      · subst h0; rfl
      · simp [h0]
/-- the rest of a block's bytes: behind it, its own place -/
theorem rest_of (b o D W : Nat) (hW : W ≤ D) (hD : D ≤ 9223372036854775807) :
    ∃ o', (∀ w, (Instr.slice 25 (.slice (some ⟨b, o, none⟩) D D) (some (.int .i64 (W : Nat))) none none).run Try.prog w = .ok (.slice (some ⟨b, o', none⟩) (D - W) (D - W)) w) ∧ (0 < D - W → o' = o + W) ∧ o' ≤ o + W := by
  have hsz : ∀ w, (sizeOf 5).run Try.prog w = .ok 1 w := fun w => by kernel_rfl
  refine ⟨if D = W then o else o + W, fun w => ?_, fun h => by rw [if_neg (by omega)], by split <;> omega⟩
  rw [run_slice_l w 25 (some ⟨b, o, none⟩) D D Try.underlying25 .i64 (W : Nat) (by omega) (by omega)]
  rw [show Try.prog.elem 25 = 5 from rfl, hsz]
  simp only [Result.andThen, sliced, Int.toNat_natCast, Nat.mul_one]
  by_cases h : D = W
  · rw [if_pos h, if_pos h]
  · rw [if_neg h, if_neg h]
    by_cases h0 : W = 0
    · subst h0; simp [Addr.add]
    · simp [Addr.add, h0]
set_option maxHeartbeats 4000000 in
theorem splitYes (W : World) (K : Nat) (v : Value) (l : List Nat) (hv : Bytes W v l) (h1 : 1 ≤ K) (h2 : K ≤ 1048576) (hl : l.length ≤ 500) :
    Calls Try.prog 10 #[.int .i64 K, v] W fun e w' => ∃ u, e = .returned u ∧ Tab w' u (splitL K l) ∧ Below W.heap.size W w' := by
  obtain ⟨m, hm⟩ : ∃ m, m = 8 * K := ⟨_, rfl⟩
  obtain ⟨n, hn⟩ : ∃ n, (splitL K l).length = n := ⟨_, rfl⟩
  have hn5 : n ≤ 500 := by have := split_le K l; omega
  have HT := Lib.hid (show tabOf n m (cutF m l) = splitL K l by rw [← hn, hm]; exact split_tab (k := (K : Int)) (by omega))
  have HN := Lib.hid (show cntS K l.length = (n : Int) by rw [← hn]; exact (split_count K l).symm)
  obtain ⟨A, C, rfl, g1, g2, -⟩ := hv.shape
  have HV := Lib.hid hv
  obtain ⟨L, hL⟩ : ∃ L, l.length = L := ⟨_, rfl⟩
  have HL := Lib.hid hL
  have HM := Lib.hid hm
  have hmk1 := run_make_row' (P := Try.prog) 26 25 (.slice none 0 0) 24 Try.underlying26 infoPart rfl .i64 .i64 n (by omega) (by omega)
  have hmk2 := run_make_row' (P := Try.prog) 25 5 (.int .u8 0) 1 Try.underlying25 infoByte rfl .i64 .i64 m (by omega) (by omega)
  rw [show ((m : Nat) : Int) = (K : Int) * 8 by omega] at hmk2
  have hm1 : 1 ≤ m := by omega
  have hm2 : m ≤ 8388608 := by omega
  rw [hL] at hl g1 HV HN ⊢
  clear hn hm hL hv
  go_enter Try.func10, Try.ntmps10
  go_wp2_with fail
  refine (countC _ K L ⟨by omega, by omega⟩ ⟨by omega, by omega⟩ (by omega)).mono ?_
  rintro _ w1 ⟨rfl, rfl⟩
  rw [HN.out]
  go_wp2_with fail
  go_loopw [1, 14] (fun v c wr => ∃ j : Nat, j ≤ n ∧ c = .int .i64 j ∧ Bytes W v (l.drop (m * j)) ∧ Fam wr wr.heap.size W.heap.size 25 n m j (cutF m l) ∧ Below W.heap.size W wr) (fun _ c _ => n - (intOf c).toNat)
  case atStart => exact ⟨0, Nat.zero_le _, rfl, by rw [Nat.mul_zero, List.drop_zero]; exact HV.out, by simpa using Fam.start W 25 n m (cutF m l), (Below.refl _ _).alloc (Nat.le_refl _) _⟩
  case round =>
    clear hmk1
    obtain ⟨j, hj, rfl, hby, hfam, hbr⟩ := hrel
    by_cases hlt : j < n
    · obtain ⟨A1, C1, rfl, q1, q2, -⟩ := hby.shape
      have HBY := Lib.hid hby
      obtain ⟨r, hr⟩ : ∃ r, (l.drop (m * j)).length = r := ⟨_, rfl⟩
      rw [hr] at HBY q1 ⊢
      obtain ⟨c, hc⟩ : ∃ c, Nat.min r m = c := ⟨_, rfl⟩
      have hcr : c ≤ r := by rw [← hc]; exact Nat.min_le_left _ _
      obtain ⟨A2, D2, hsl, htl⟩ := tail_of (l.drop (m * j)) A1 r C1 c hr hcr q1
      have HNX := Lib.hid (htl W HBY.out)
      have HDR := Lib.hid (cut_drop m l j r c hr hc)
      have HC := Lib.hid hc
      obtain ⟨u, hu⟩ := hfam.cell hlt
      have hP := hfam.inside
      have hcu : ∀ o, (wr.alloc o).cell? ⟨W.heap.size, j, none⟩ = some u := fun o => (World.cell?_alloc_lt _ _ _ hP).trans hu
      have hfu : ∀ o, (wr.alloc o).frozen? ⟨W.heap.size, j, none⟩ = false := fun o => (World.frozen?_alloc_past _ _ _ hP).trans (hfam.free j)
      have hin := Inner.start (t' := 5) hfam hlt hbr (Nat.le_refl _)
      have hbk : Blk ((wr.setCell ⟨W.heap.size, j, none⟩ (.slice (some ⟨wr.heap.size, 0, none⟩) m m)).alloc (.cells (madeCells #[.int .u8 0] m) 5)) wr.heap.size 5 (List.replicate m 0) := by
        have := Blk.made (wr.setCell ⟨W.heap.size, j, none⟩ (.slice (some ⟨wr.heap.size, 0, none⟩) m m)) 5 m
        rwa [show (wr.setCell ⟨W.heap.size, j, none⟩ (.slice (some ⟨wr.heap.size, 0, none⟩) m m)).heap.size = wr.heap.size by simp [World.setCell]] at this
      have HIN := Lib.hid hin
      have HBK := Lib.hid hbk
      have hcur := hin.cur
      clear hin hbk hby hr hc htl hfam hbr
      go_wp2_with ((with_reducible refine wpList_copy_bytes rfl (.tmp 27) (.tmp 28) 25 25 rfl 5 Try.underlying25 sizeByte _ _ m m r C1 c rfl rfl (l.drop (m * j)) (HBY.out.below HIN.out.old) HC.out wr.heap.size 5 0 (List.replicate m 0) HBK.out (fun _ => rfl) (by simp) ?_); intro w2 HB2 HL2)
      have hin := HIN.out
      have hlt2 := hin.lt
      have hrow := HB2.out.row (cut_row m l j)
      have hb2 := HL2.out
      have hP0 := hin.fam.lt
      have hfam2 := (hin.fam.below hb2).next hlt ((hb2.cell hP0).trans hin.cur) (by omega) (Nat.lt_of_lt_of_le hlt2 hb2.size) (Nat.le_of_lt (Nat.lt_of_lt_of_le hlt2 hb2.size)) hrow
      have hbl2 := hin.old.trans (hb2.mono (B' := W.heap.size) (by omega))
      have HF2 := Lib.hid hfam2
      have HBL2 := Lib.hid hbl2
      clear hin hrow hb2 hfam2 hbl2 hmk2 hsl
      go_roundw
      case rel => exact ⟨j + 1, by omega, by go_num, by rw [← HDR.out]; exact HNX.out, HF2.out, HBL2.out⟩
      case measure => simp [intOf]; omega
    · obtain rfl : j = n := by omega
      have HF := Lib.hid (hfam.tab (by omega) (by omega))
      have HB := Lib.hid hbr
      go_wp2
      go_ret
      exact ⟨_, rfl, by rw [← HT.out]; exact HF.out, HB.out⟩
set_option maxHeartbeats 1000000 in
theorem splitNo (W : World) (k : Int) (v : Value) (l : List Nat) (hv : Bytes W v l) (h0 : -9223372036854775808 ≤ k) (h1 : k < 1) (hl : l.length ≤ 500) :
    Calls Try.prog 10 #[.int .i64 k, v] W fun e w' => ∃ u, e = .returned u ∧ Tab w' u (splitL k l) ∧ Below W.heap.size W w' := by
  have HT := Lib.hid (show splitL k l = [] by unfold splitL; rw [if_pos h1])
  have HN := Lib.hid (cntS_none (k := k) (size := l.length) (.inl h1))
  obtain ⟨A, C, rfl, g1, g2, -⟩ := hv.shape
  obtain ⟨L, hL⟩ : ∃ L, l.length = L := ⟨_, rfl⟩
  rw [hL] at hl g1 HN ⊢
  clear hL hv
  have hmk1 := run_make_row' (P := Try.prog) 26 25 (.slice none 0 0) 24 Try.underlying26 infoPart rfl .i64 .i64 0 (by omega) (by omega)
  rw [show ((0 : Nat) : Int) = 0 from rfl] at hmk1
  go_enter Try.func10, Try.ntmps10
  go_wp2_with fail
  refine (countC _ k L ⟨by omega, by omega⟩ ⟨by omega, by omega⟩ (by omega)).mono ?_
  rintro _ w1 ⟨rfl, rfl⟩
  rw [HN.out]
  go_wp2_with fail
  go_loopw [1, 14] (fun v c wr => v = .slice A L C ∧ c = .int .i64 0 ∧ Below W.heap.size W wr) (fun _ c _ => 0)
  case atStart => exact ⟨rfl, rfl, (Below.refl _ _).alloc (Nat.le_refl _) _⟩
  case round =>
    obtain ⟨rfl, rfl, hb⟩ := hrel
    have HB := Lib.hid hb
    go_wp2
    go_ret
    exact ⟨_, rfl, by rw [HT.out]; exact ⟨_, 0, 0, rfl, rfl, Nat.le_refl _, Nat.zero_le _, fun _ => rfl, fun i hi => absurd hi (by simp)⟩, HB.out⟩
set_option maxHeartbeats 1000000 in
theorem enoughC (W : World) (M : List (List Nat)) (S : Nat) (v : Value) (hT : Tab W v M) (hS : S ≤ 9223372036854775807) (hf : M.flatten.length ≤ 20000) :
    Calls Try.prog 13 #[v, .int .i64 S] W fun e w' => e = .returned (.bool (decide (S ≤ M.flatten.length))) ∧ W = w' := by
  obtain ⟨A, C, rfl, g1, g2, -⟩ := hT.shape
  have HT := Lib.hid hT
  obtain ⟨n, hn⟩ : ∃ n, M.length = n := ⟨_, rfl⟩
  have HN := Lib.hid hn
  obtain ⟨F, hF⟩ : ∃ F, M.flatten.length = F := ⟨_, rfl⟩
  have HF := Lib.hid hF
  rw [hn] at g1 HT ⊢
  rw [hF]
  clear hT hn hF hf
  go_enter Try.func13, Try.ntmps13
  go_wp2_with fail
  go_loop [1, 9] (fun z c => ∃ j r : Nat, j ≤ n ∧ c = .int .i64 j ∧ z = .int .i64 r ∧ r = S - (M.take j).flatten.length) (fun _ c => n - (intOf c).toNat)
  case atStart => exact ⟨0, S, Nat.zero_le _, rfl, rfl, by simp⟩
  case round =>
    obtain ⟨j, r, hj, rfl, rfl, hr⟩ := hrel
    have HR := Lib.hid hr
    have hrS : r ≤ S := by omega
    clear hr
    by_cases hlt : j < n
    · have hjM : j < M.length := by rw [HN.out]; exact hlt
      obtain ⟨b, o, A1, C1, rfl, hc, hm, hb⟩ := HT.out.at hjM
      have hfl : (M.take (j + 1)).flatten.length = (M.take j).flatten.length + M[j].length := by
        rw [List.take_succ_eq_append_getElem hjM, List.flatten_append, List.length_append]; simp
      obtain ⟨p, hp⟩ : ∃ p, M[j].length = p := ⟨_, rfl⟩
      rw [hp] at hc hm hfl
      have HFL := Lib.hid hfl
      have e1 : min (r : Int) (p : Int) = ((min r p : Nat) : Int) := by omega
      clear hfl hp hb
      go_wp2
      go_round
      case rel => exact ⟨j + 1, r - min r p, by omega, by go_num, by first | rfl | (refine congrArg (Value.int .i64) ?_; omega), by rw [HR.out, HFL.out]; omega⟩
      case measure => simp [intOf]; omega
    · obtain rfl : j = n := by omega
      have hz : r = S - F := by rw [HR.out, List.take_of_length_le (by rw [HN.out]; exact Nat.le_refl _), HF.out]
      by_cases h : S ≤ F
      · obtain rfl : r = 0 := by omega
        have HD := Lib.hid (decide_eq_true h)
        clear hz h
        go_wp2
        go_ret
        exact ⟨by rw [HD.out]; rfl, rfl⟩
      · have hq : ((r : Int) == 0) = false := by rw [beq_eq_false_iff_ne]; omega
        have HD := Lib.hid (decide_eq_false h)
        clear hz h
        go_wp2
        go_ret
        exact ⟨by rw [HD.out]; rfl, rfl⟩
theorem join_yes {M : List (List Nat)} {S : Nat} (h : S ≤ M.flatten.length) : joinOk M S = true ∧ joinL M S = jl S M.flatten := by
  have e : joinOk M S = true := by
    unfold joinOk
    rw [decide_eq_true (by omega), decide_eq_true (by omega)]
    rfl
  exact ⟨e, by unfold joinL; rw [if_pos e, jl_all h, Int.toNat_natCast]⟩
theorem join_no {M : List (List Nat)} {z : Int} (h : z < 0 ∨ (M.flatten.length : Int) < z) : joinOk M z = false ∧ joinL M z = [] := by
  have e : joinOk M z = false := by
    unfold joinOk
    rcases h with h | h
    · rw [decide_eq_false (by omega), Bool.false_and]
    · rw [decide_eq_false (p := z ≤ (M.flatten.length : Int)) (by omega), Bool.and_false]
  exact ⟨e, by unfold joinL; rw [if_neg (by rw [e]; simp)]⟩
theorem nothing (w : World) : Bytes w (.slice none 0 0) [] := ⟨none, 0, 0, rfl, rfl, Nat.le_refl _, Nat.zero_le _, fun _ => rfl, fun i hi => absurd hi (by simp)⟩
set_option maxHeartbeats 1000000 in
theorem joinNo (W : World) (M : List (List Nat)) (z : Int) (v : Value) (hT : Tab W v M) (hz : I64 z) (hf : M.flatten.length ≤ 20000) (h : z < 0 ∨ (M.flatten.length : Int) < z) :
    Calls Try.prog 12 #[v, .int .i64 z] W fun e w' => ∃ u, e = .returned (.tuple #[u, .bool (joinOk M z)]) ∧ Bytes w' u (joinL M z) ∧ Below W.heap.size W w' := by
  rw [(join_no h).1, (join_no h).2]
  obtain ⟨z0, z1⟩ := hz
  by_cases c1 : z < 0
  · have d1 : decide (z < 0) = true := by simpa using c1
    clear h
    go_enter Try.func12, Try.ntmps12
    go_wp2
    go_ret2
    exact ⟨_, rfl, nothing _, Below.refl _ _⟩
  · obtain ⟨S, rfl⟩ := Int.eq_ofNat_of_zero_le (show 0 ≤ z by omega)
    have d1 : decide ((S : Int) < 0) = false := by simp
    have HD := Lib.hid (decide_eq_false (show ¬ S ≤ M.flatten.length by omega))
    have HT := Lib.hid hT
    clear h c1
    go_enter Try.func12, Try.ntmps12
    go_wp2_with fail
    refine (enoughC _ M S _ HT.out (by omega) hf).mono ?_
    rintro _ w1 ⟨rfl, rfl⟩
    rw [HD.out]
    go_wp2
    go_ret2
    exact ⟨_, rfl, nothing _, Below.refl _ _⟩
set_option maxHeartbeats 4000000 in
theorem joinYes (W : World) (M : List (List Nat)) (S : Nat) (v : Value) (hT : Tab W v M) (hf : M.flatten.length ≤ 20000) (h : S ≤ M.flatten.length) :
    Calls Try.prog 12 #[v, .int .i64 S] W fun e w' => ∃ u, e = .returned (.tuple #[u, .bool (joinOk M S)]) ∧ Bytes w' u (joinL M S) ∧ Below W.heap.size W w' := by
  rw [(join_yes h).1, (join_yes h).2]
  have hS : S ≤ 20000 := by omega
  have d1 : decide ((S : Int) < 0) = false := by simp
  have HD := Lib.hid (decide_eq_true h)
  obtain ⟨A, C, rfl, g1, g2, -⟩ := hT.shape
  have HT := Lib.hid hT
  have HFF := Lib.hid hf
  obtain ⟨n, hn⟩ : ∃ n, M.length = n := ⟨_, rfl⟩
  have HN := Lib.hid hn
  rw [hn] at g1 HT ⊢
  have hmk2 := run_make_row' (P := Try.prog) 25 5 (.int .u8 0) 1 Try.underlying25 infoByte rfl .i64 .i64 S (by omega) (by omega)
  have HBK := Lib.hid (Blk.made W 5 S)
  clear hn hT h hf
  go_enter Try.func12, Try.ntmps12
  go_wp2_with fail
  refine (enoughC _ M S _ HT.out (by omega) HFF.out).mono ?_
  rintro _ w1 ⟨rfl, rfl⟩
  rw [HD.out]
  go_wp2_with fail
  go_loopw [7, 23] (fun y c wr => ∃ j o D : Nat, j ≤ n ∧ c = .int .i64 j ∧ y = .slice (some ⟨W.heap.size, o, none⟩) D D ∧ D = S - (M.take j).flatten.length ∧ (0 < D → o = (M.take j).flatten.length) ∧ o ≤ S ∧ Blk wr W.heap.size 5 (jl S (M.take j).flatten) ∧ Below W.heap.size W wr) (fun _ c _ => n - (intOf c).toNat)
  case atStart => exact ⟨0, 0, S, Nat.zero_le _, rfl, rfl, by simp, by simp, Nat.zero_le _, by rw [List.take_zero, List.flatten_nil, jl_none]; exact HBK.out, (Below.refl _ _).alloc (Nat.le_refl _) _⟩
  case round =>
    clear HBK hmk2
    obtain ⟨j, o, D, hj, rfl, rfl, hD, ho, hoS, hbk, hbr⟩ := hrel
    have HB := Lib.hid hbk
    have HBR := Lib.hid hbr
    have HDD := Lib.hid hD
    by_cases hlt : j < n
    · have hjM : j < M.length := by rw [HN.out]; exact hlt
      have HTR := Lib.hid (HT.out.below hbr)
      obtain ⟨b, o1, A1, C1, rfl, hc, hm, hb⟩ := HTR.out.at hjM
      have hfe : (M.take (j + 1)).flatten = (M.take j).flatten ++ M[j] := by
        rw [List.take_succ_eq_append_getElem hjM, List.flatten_append]; simp
      obtain ⟨f, hf⟩ : ∃ f, (M.take j).flatten = f := ⟨_, rfl⟩
      obtain ⟨x, hx⟩ : ∃ x, M[j] = x := ⟨_, rfl⟩
      rw [hx] at hc hm hb hfe
      rw [hf] at hD ho HB hfe HDD
      have HJ := Lib.hid (jl_next (S := S) (off := o) (f := f) (p := x) (fun hs => ho (by omega)))
      have HFE := Lib.hid hfe
      have HBX := Lib.hid hb
      have HLX := Lib.hid hb.shape
      have hDS : o + D ≤ S := by
        by_cases h0 : 0 < D
        · have := ho h0; omega
        · omega
      obtain ⟨p, hp⟩ : ∃ p, x.length = p := ⟨_, rfl⟩
      have HP := Lib.hid hp
      rw [hp] at hc hm HBX
      obtain ⟨q, hq⟩ : ∃ q, Nat.min p D = q := ⟨_, rfl⟩
      have hqD : q ≤ D := by rw [← hq]; exact Nat.min_le_right _ _
      obtain ⟨o2, hsl, ho2, ho3⟩ := rest_of W.heap.size o D q hqD (by omega)
      have HQ := Lib.hid hq
      have HLEN := Lib.hid (show ((M.take (j + 1)).flatten).length = f.length + p by rw [hfe, List.length_append, hp])
      have hqm : q = min p D := hq.symm
      have HX := Lib.hid (show D - q = S - (f.length + p) ∧ (0 < D - q → o2 = f.length + p) ∧ o2 ≤ S from ⟨by omega, fun h0 => by have h1 := ho (by omega); have h2 := ho2 h0; omega, by omega⟩)
      clear hbk hbr hD ho hfe hf hx hb hp hq hqm ho2 ho3
      go_wp2_with ((with_reducible refine wpList_copy_bytes rfl (.tmp 28) (.tmp 29) 25 25 rfl 5 Try.underlying25 sizeByte _ _ D D p C1 q rfl rfl x HBX.out HQ.out W.heap.size 5 o (jl S f) HB.out (fun _ => rfl) (by rw [jl_len]; exact hDS) ?_); intro w2 HB2 HL2)
      have HB3 := Lib.hid (show Blk w2 W.heap.size 5 (jl S (M.take (j + 1)).flatten) by
        have h1 := HB2.out
        rw [HDD.out, HJ.out, ← HFE.out] at h1
        exact h1)
      have HBL2 := Lib.hid (HBR.out.trans HL2.out)
      clear hsl HJ HFE
      go_roundw
      case rel => exact ⟨j + 1, o2, D - q, by omega, by go_num, rfl, by rw [HLEN.out]; exact HX.out.1, by rw [HLEN.out]; exact HX.out.2.1, HX.out.2.2, HB3.out, HBL2.out⟩
      case measure => simp [intOf]; omega
    · obtain rfl : j = n := by omega
      have HE := Lib.hid (show (M.take j).flatten = M.flatten by rw [List.take_of_length_le (by rw [HN.out]; exact Nat.le_refl _)])
      have HR := Lib.hid (hbk.bytes (jl_len _ _) (by omega))
      clear hbk hbr hD ho
      go_wp2
      go_ret2
      exact ⟨_, rfl, by have h1 := HR.out; rw [HE.out] at h1; exact h1, HBR.out⟩
theorem stI : StI where
  count := fun W k size hk hs hk2 => (countC W k size hk hs hk2).mono fun _ _ ⟨he, hw⟩ => ⟨he, by subst hw; exact Below.refl _ _⟩
  split := fun W k v l hv hk hk2 hl => by
    by_cases h : k < 1
    · exact splitNo W k v l hv hk.1 h hl
    · obtain ⟨K, rfl⟩ := Int.eq_ofNat_of_zero_le (show 0 ≤ k by omega)
      exact splitYes W K v l hv (by omega) (by omega) hl
  join := fun W v M size hT hs _ hf => by
    by_cases h : size < 0 ∨ (M.flatten.length : Int) < size
    · exact joinNo W M size v hT hs hf h
    · obtain ⟨S, rfl⟩ := Int.eq_ofNat_of_zero_le (show 0 ≤ size by omega)
      exact joinYes W M S v hT hf (by omega)
end Go.Proofs.Ytgbeolepfmihgaa.Stp
