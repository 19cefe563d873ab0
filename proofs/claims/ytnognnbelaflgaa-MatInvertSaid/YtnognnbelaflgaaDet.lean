/- The document's determinant: what it returns. -/
import Derived.Test.YtnognnbelaflgaaInvMath
import Derived.Deep.RegionHeld3
namespace Go.Proofs.Ytnognnbelaflgaa.Mat
open Go.ChangeShapes Go.WideShapes Go.ChangeAt Go.RowKit
open Go.Mem
open GfPlain Gf GfLin
/-- row r without place j -/
def cut (r : List Nat) (j : Nat) : List Nat := r.take j ++ r.drop (j + 1)
/-- the rows behind the first one, without place j -/
def minorT (M : List (List Nat)) (j : Nat) : List (List Nat) := (M.drop 1).map fun r => cut r j
def detSum (f : Nat → Nat) : Nat → Nat
  | 0 => 0
  | j + 1 => detSum f j ^^^ f j
def detN : Nat → List (List Nat) → Nat
  | 0, _ => 1
  | n + 1, M => detSum (fun j => mul (entry M 0 j) (detN n (minorT M j))) (n + 1)
def Sqr (M : List (List Nat)) (n : Nat) : Prop := M.length = n ∧ ∀ r ∈ M, r.length = n
theorem cut_len {r : List Nat} {n j : Nat} (h : r.length = n + 1) (hj : j < n + 1) : (cut r j).length = n := by
  unfold cut; simp; omega
theorem minor_sqr {M : List (List Nat)} {n j : Nat} (h : Sqr M (n + 1)) (hj : j < n + 1) : Sqr (minorT M j) n := by
  unfold minorT
  refine ⟨by simp; have := h.1; omega, fun r hr => ?_⟩
  obtain ⟨r', hr', rfl⟩ := List.mem_map.1 hr
  exact cut_len (h.2 r' (List.mem_of_mem_drop hr')) hj
theorem detSum_lt {f : Nat → Nat} (h : ∀ j, f j < 256) : ∀ j, detSum f j < 256
  | 0 => by show 0 < 256; omega
  | j + 1 => xor_lt (detSum_lt h j) (h j)
theorem minor_byt {M : List (List Nat)} (h : Byt M) (j : Nat) : Byt (minorT M j) := by
  intro r hr x hx
  obtain ⟨r', hr', rfl⟩ := List.mem_map.1 hr
  unfold cut at hx
  rcases List.mem_append.1 hx with hx | hx
  · exact h r' (List.mem_of_mem_drop hr') x (List.mem_of_mem_take hx)
  · exact h r' (List.mem_of_mem_drop hr') x (List.mem_of_mem_drop hx)
theorem detN_lt : ∀ {n : Nat} {M : List (List Nat)}, Byt M → detN n M < 256
  | 0, _, _ => by show 1 < 256; omega
  | n + 1, M, h => detSum_lt (fun j => GfPlain.mul_lt _ _ (entry_bd h 0 j)) (n + 1)
theorem minor_entry {M : List (List Nat)} {n j : Nat} (h : Sqr M (n + 1)) (hj : j < n + 1) {r c : Nat} (hr : r < n) : entry (minorT M j) r c = entry M (r + 1) (up j c) := by
  have hl : r + 1 < M.length := by rw [h.1]; omega
  have hrl : (M[r + 1]).length = n + 1 := h.2 _ (List.getElem_mem hl)
  have e1 : (minorT M j).getD r [] = cut M[r + 1] j := by
    unfold minorT
    have : r < (M.drop 1).length := by simp; omega
    simp [hl]
  have e2 : M.getD (r + 1) [] = M[r + 1] := by simp [hl]
  unfold entry
  rw [e1, e2]
  unfold cut up
  by_cases hcj : c < j
  · rw [if_pos hcj]
    rw [List.getD_eq_getElem?_getD, List.getElem?_append_left (by simp; omega), List.getElem?_take, if_pos hcj, List.getD_eq_getElem?_getD]
  · rw [if_neg hcj]
    rw [List.getD_eq_getElem?_getD, List.getElem?_append_right (by simp; omega), List.getElem?_drop, List.getD_eq_getElem?_getD]
    rw [show (M[r + 1].take j).length = j by simp; omega, show j + 1 + (c - j) = c + 1 by omega]
theorem tg_sum {f : Nat → Nat} : ∀ j, tg (detSum f j) = S j (fun i => tg (f i))
  | 0 => rfl
  | j + 1 => by rw [detSum, tg_xor, tg_sum j]; rfl
theorem detN_det : ∀ {n : Nat} {M : List (List Nat)}, Byt M → Sqr M n → tg (detN n M) = det n (toM (entry M))
  | 0, _, _, _ => rfl
  | n + 1, M, hb, hs => by
    rw [detN, tg_sum, det]
    refine S_congr fun j hj => ?_
    rw [tg_mul (entry_bd hb 0 j) (detN_lt (minor_byt hb j)), detN_det (minor_byt hb j) (minor_sqr hs hj)]
    refine congrArg _ (det_congr fun r hr c _ => ?_)
    unfold toM
    rw [minor_entry hs hj hr]; rfl
/-- the first rows of the minor -/
def minorTo (M : List (List Nat)) (j i : Nat) : List (List Nat) := ((M.drop 1).take i).map fun r => cut r j
theorem minorTo_len {M : List (List Nat)} {j i : Nat} (h : i + 1 ≤ M.length) : (minorTo M j i).length = i := by unfold minorTo; simp; omega
theorem minorTo_succ {M : List (List Nat)} {j i : Nat} (h : i + 1 < M.length) : minorTo M j (i + 1) = minorTo M j i ++ [cut M[i + 1] j] := by
  unfold minorTo
  have hl : i < (M.drop 1).length := by simp; omega
  rw [List.take_succ_eq_append_getElem hl, List.map_append]
  simp
theorem minorTo_next {M : List (List Nat)} {j i : Nat} (h1 : 1 ≤ i) (h : i < M.length) : minorTo M j (i + 1 - 1) = minorTo M j (i - 1) ++ [cut M[i] j] := by
  have := minorTo_succ (M := M) (j := j) (i := i - 1) (by omega)
  simp only [show i - 1 + 1 = i by omega] at this
  rw [show i + 1 - 1 = i by omega]; exact this
theorem minorTo_all {M : List (List Nat)} {j n : Nat} (h : M.length = n + 1) : minorTo M j n = minorT M j := by
  unfold minorTo minorT
  rw [List.take_of_length_le (by simp; omega)]
theorem ref_mul_val (x y z : Nat) (hx : x < 256) (hy : y < 256) (hz : z < 256) : bits .xor .u8 (x : Int) (grmul (y : Int) (z : Int)) = ((x ^^^ mul y z : Nat) : Int) := ref_val x y z hx hy hz
def DetC (n : Nat) : Prop := ∀ (M : List (List Nat)) (v : Value) (w : World), Sqr M n → Tab w v M →
    Calls Try.prog 15 #[v] w fun e w' => e = .returned (.int .u8 (detN n M : Nat)) ∧ Below w.heap.size w w'
theorem det_zero : DetC 0 := by
  intro M v w hs h
  have hM : M = [] := List.length_eq_zero_iff.1 hs.1
  subst hM
  obtain ⟨A, C, rfl, h1, h2, _⟩ := h.shape
  go_enter Try.func15, Try.ntmps15
  go_wp2
  go_ret
  exact ⟨rfl, Below.refl _ _⟩
theorem entry0 {M : List (List Nat)} {j : Nat} (h : 0 < M.length) (hj : j < M[0].length) : entry M 0 j = M[0][j] := by unfold entry; simp [h, hj]
set_option maxHeartbeats 4000000 in
theorem det_step (n N : Nat) (hN : N = n + 1) (hn : N ≤ 65536) (IH : DetC n) (M : List (List Nat)) (v : Value) (w : World) (hs : Sqr M N) (h : Tab w v M) :
    Calls Try.prog 15 #[v] w fun e w' => e = .returned (.int .u8 (detSum (fun j => mul (entry M 0 j) (detN n (minorT M j))) N : Nat)) ∧ Below w.heap.size w w' := by
  have HN := Lib.hid hN
  have hN0 : 0 < N := by omega
  have HI := Lib.hid IH; clear IH
  have HRL := Lib.hid (show ∀ i (h : i < M.length), M[i].length = N from fun i hi => hs.2 _ (List.getElem_mem hi))
  have HL := Lib.hid hs.1
  have HS := Lib.hid hs; clear hs hN
  have HBY := Lib.hid (Tab_bd h)
  obtain ⟨A, C, rfl, h1, h2, _⟩ := h.shape
  have hp : 0 < M.length := by have := HL.out; omega
  rw [HL.out] at h h1 ⊢
  obtain ⟨ba, oa, A0, C0, rfl, hc00, hm0, hb0⟩ := h.at hp
  rw [Nat.add_zero] at hc00
  rw [HRL.out 0 hp] at hc00 hm0 hb0
  have HE := Lib.hid (fun j (hj : j < N) => entry0 (j := j) hp (by rw [HRL.out 0 hp]; exact hj))
  have he : ((N : Int) == 0) = false := by rw [beq_eq_false_iff_ne]; omega
  have hN1 : (0 : Int) < (N : Int) := by omega
  go_enter Try.func15, Try.ntmps15
  go_wp2_with fail
  go_loopw [3, 4] (fun s c wr => ∃ j : Nat, j ≤ N ∧ c = .int .i64 (j : Nat) ∧ s = .int .u8 (detSum (fun j => mul (entry M 0 j) (detN n (minorT M j))) j : Nat) ∧ Below w.heap.size w wr) (fun _ c _ => N - (intOf c).toNat)
  case atStart => exact ⟨0, Nat.zero_le _, rfl, rfl, Below.refl _ _⟩
  case round =>
    obtain ⟨j, hj, rfl, rfl, hbr⟩ := hrel
    obtain ⟨wo, rfl⟩ : ∃ wo : World, wo = wr := ⟨_, rfl⟩
    by_cases hlt : j < N
    · have hj0 : j < M[0].length := by rw [HRL.out 0 hp]; exact hlt
      obtain ⟨b1, o1, rfl, hcx0, hx⟩ := hb0.at hj0
      have hc0 := below_cell hbr _ _ hc00
      have hcx := below_cell hbr _ _ hcx0
      have HJ := Lib.hid (HE.out j hlt)
      by_cases hz : M[0][j] = 0
      · have hq : ((M[0][j] : Int) == 0) = true := by rw [hz]; rfl
        have HSS := Lib.hid (show detSum (fun j => mul (entry M 0 j) (detN n (minorT M j))) (j + 1) = detSum (fun j => mul (entry M 0 j) (detN n (minorT M j))) j by
          rw [detSum, HJ.out, hz, GfPlain.zero_mul, Nat.xor_zero])
        clear hz
        go_wp2
        go_roundw
        case rel => exact ⟨j + 1, by omega, by go_num, by rw [HSS.out], hbr⟩
        case measure => simp [intOf]; omega
      · have hq : ((M[0][j] : Int) == 0) = false := by rw [beq_eq_false_iff_ne]; omega
        clear hz
        go_wp2_with fail
        go_loopw [5, 6] (fun u c wi => ∃ i : Nat, 1 ≤ i ∧ i ≤ N ∧ c = .int .i64 (i : Nat) ∧ Built Bytes wi w.heap.size 28 u (minorTo M j (i - 1)) ∧ Below w.heap.size w wi) (fun _ c _ => N - (intOf c).toNat)
        case atStart => exact ⟨1, Nat.le_refl _, by omega, rfl, Built.start _ _ _, hbr⟩
        case round =>
          clear hbr hc0 hcx
          obtain ⟨i, hi1, hi, rfl, hbu, hbr⟩ := hrel
          by_cases hilt : i < N
          · have hil : i < M.length := by have := HL.out; omega
            obtain ⟨Ai, Ci, hci0, hmi, hbi⟩ := h.here hil
            rw [HRL.out _ hil] at hci0 hmi hbi
            have HLI := Lib.hid (HRL.out _ hil)
            obtain ⟨bi, oi, rfl, _, _⟩ := hbi.at (i := 0) (by rw [HLI.out]; omega)
            have hCi : N ≤ Ci ∧ Ci ≤ 9223372036854775807 := by
              obtain ⟨A9, C9, e9, q1, q2, _⟩ := hbi.shape
              cases e9
              have := HLI.out
              exact ⟨by omega, q2⟩
            obtain ⟨hCi1, hCi2⟩ := hCi
            have hci := below_cell hbr _ _ hci0
            have hal : Below wr.heap.size wr (wr.alloc (.cells #[] 5)).drew := ((Below.refl _ _).alloc (Nat.le_refl _) _).drew
            have hbw := hbr.trans (hal.mono hbr.size)
            have HB0 := Lib.hid (show Built ByteR (wr.alloc (.cells #[] 5)).drew wr.heap.size 5 (.slice (some ⟨wr.heap.size, 0, none⟩) 0 0) [] from (built_made (w := wr) (t := 5) (base := wr.heap.size) (cur := #[]) (cap := 0) (Nat.le_refl _) (Nat.zero_le _) rfl).below (below_drewN _ _ 1))
            have HT := Lib.hid ((hbi.take (show j ≤ M[i].length by rw [HLI.out]; omega)).below hbw)
            have HSZ := Lib.hid (show wr.heap.size ≤ (wr.alloc (.cells #[] 5)).drew.heap.size from hal.size)
            have HBW := Lib.hid hbw
            have HBR := Lib.hid hbr
            have HSU := Lib.hid (minorTo_next (j := j) hi1 hil)
            obtain ⟨A5, C5, e5, hl5, hl5'⟩ := hbu.len
            have HL3 := Lib.hid (minorTo_len (M := M) (j := j) (i := i - 1) (by omega))
            rw [HL3.out] at e5 hl5
            have HOWN := Lib.hid hbu.own_lt
            have HBU := Lib.hid hbu
            have HAL := Lib.hid hal
            have HL1 := Lib.hid (show (([] : List Nat) ++ M[i].take j).length = j by simp [HLI.out]; omega)
            have HL2 := Lib.hid (show (([] : List Nat) ++ M[i].take j ++ M[i].drop (j + 1)).length = n by have := HN.out; simp [HLI.out]; omega)
            have hLI : M[i].length ≤ N := Nat.le_of_eq HLI.out
            subst e5
            clear hal hbw hbu hbr
            have f1 : (0 : Int) ≤ (i : Int) := by omega
            have f2 : (i : Int) < (N : Int) := by omega
            have f3 : (0 : Int) ≤ (j : Int) := by omega
            have f4 : (j : Int) ≤ (Ci : Int) := by omega
            have f5 : IntKind.i64.wrap ((j : Int) + 1) = (j : Int) + 1 := IntWalk.i64_in _ (by omega)
            have f6 : (0 : Int) ≤ (j : Int) + 1 := by omega
            have f7 : (j : Int) + 1 ≤ (N : Int) := by omega
            have f8 : ((j : Int) + 1).toNat = j + 1 := by omega
            by_cases hcap : Ci = j + 1
            · have hcap' : j + 1 = Ci := hcap.symm
              clear hcap
              have HD := Lib.hid (show Bytes w (.slice (some ⟨bi, oi, none⟩) 0 0) (M[i].drop (j + 1)) from
                ⟨_, 0, 0, rfl, by have := HLI.out; simp; omega, Nat.le_refl _, Nat.zero_le _, (fun e => by cases e), fun i' hi' => absurd hi' (by have := HLI.out; simp; omega)⟩)
              go_wp2_with fail
              go_region_held3 (fun w' => w'.cell? ⟨ba, oa + i, none⟩ = some (.slice (some ⟨bi, oi, none⟩) N Ci))
                (first | go_keep | exact below_cell (HBW.out.trans (hb1.mono HBR.out.size)) _ _ hci0 | exact below_cell (HBW.out.trans (hb12.mono HBR.out.size)) _ _ hci0 | exact below_cell hb13 _ _ hci0)
                (first
                  | (refine step_append_list byteR_world byteR_one _ rfl (.tmp 30) (.tmp 36) 28 rfl wr.heap.size 5 (.int .u8 0) 1 Try.underlying28 infoByte rfl _ _ rfl HB0.out _ _ _ _ rfl HT.out (by simp; omega) HSZ.out ?_; intro v1 w1 hbu1 hg1 hb1; obtain ⟨A1, C1, e1, hl1, _⟩ := hbu1.len; rw [HL1.out] at e1 hl1; subst e1)
                  | (refine step_append_list byteR_world byteR_one _ rfl (.tmp 37) (.tmp 44) 28 rfl wr.heap.size 5 (.int .u8 0) 1 Try.underlying28 infoByte rfl _ _ rfl hbu1 _ _ _ _ rfl (HD.out.below (HBW.out.trans (hb1.mono HBR.out.size))) (by simp; omega) (Nat.le_trans HSZ.out hb1.size) ?_; intro v2 w2 hbu2 hg2 hb2; obtain ⟨A2, C2, e2, hl2, _⟩ := hbu2.len; rw [HL2.out] at e2 hl2; subst e2; have hb12 := hb1.trans hb2)
                  | (refine step_append_built (R := Bytes) _ rfl (.tmp 29) (.tmp 46) 22 rfl w.heap.size 28 (.slice none 0 0) 24 Try.underlying22 infoRow rfl _ _ rfl (HBU.out.below (HAL.out.trans hb12)) _ _ _ rfl rfl rfl (hbu2.stays (r := (Value.slice A5 (i - 1) C5).ownBlock) (fun g hg => (HOWN.out g hg).2)) (by rw [HL3.out]; omega) (Nat.le_trans HBR.out.size (HAL.out.trans hb12).size) ?_; intro v3 w3 hbu3 hg3 hb3; have hb13 := (HBR.out.trans ((HAL.out.trans hb12).mono HBR.out.size)).trans hb3))
              have HRN := Lib.hid (show Built Bytes w3 w.heap.size 28 v3 (minorTo M j (i + 1 - 1)) by rw [HSU.out]; exact hbu3)
              have HB13 := Lib.hid hb13
              clear hbu1 hbu2 hbu3 hg1 hg2 hg3 hb1 hb2 hb3 hb12 hb13
              go_wp2
              go_roundw
              case rel => exact ⟨i + 1, by omega, by omega, by go_num, HRN.out, HB13.out⟩
              case measure => simp [intOf]; omega
            · have HD := Lib.hid (hbi.drop (show j + 1 ≤ M[i].length by rw [HLI.out]; omega))
              go_wp2_with fail
              go_region_held3 (fun w' => w'.cell? ⟨ba, oa + i, none⟩ = some (.slice (some ⟨bi, oi, none⟩) N Ci))
                (first | go_keep | exact below_cell (HBW.out.trans (hb1.mono HBR.out.size)) _ _ hci0 | exact below_cell (HBW.out.trans (hb12.mono HBR.out.size)) _ _ hci0 | exact below_cell hb13 _ _ hci0)
                (first
                  | (refine step_append_list byteR_world byteR_one _ rfl (.tmp 30) (.tmp 36) 28 rfl wr.heap.size 5 (.int .u8 0) 1 Try.underlying28 infoByte rfl _ _ rfl HB0.out _ _ _ _ rfl HT.out (by simp; omega) HSZ.out ?_; intro v1 w1 hbu1 hg1 hb1; obtain ⟨A1, C1, e1, hl1, _⟩ := hbu1.len; rw [HL1.out] at e1 hl1; subst e1)
                  | (refine step_append_list byteR_world byteR_one _ rfl (.tmp 37) (.tmp 44) 28 rfl wr.heap.size 5 (.int .u8 0) 1 Try.underlying28 infoByte rfl _ _ rfl hbu1 _ _ _ _ rfl (HD.out.below (HBW.out.trans (hb1.mono HBR.out.size))) (by simp; omega) (Nat.le_trans HSZ.out hb1.size) ?_; intro v2 w2 hbu2 hg2 hb2; obtain ⟨A2, C2, e2, hl2, _⟩ := hbu2.len; rw [HL2.out] at e2 hl2; subst e2; have hb12 := hb1.trans hb2)
                  | (refine step_append_built (R := Bytes) _ rfl (.tmp 29) (.tmp 46) 22 rfl w.heap.size 28 (.slice none 0 0) 24 Try.underlying22 infoRow rfl _ _ rfl (HBU.out.below (HAL.out.trans hb12)) _ _ _ rfl rfl rfl (hbu2.stays (r := (Value.slice A5 (i - 1) C5).ownBlock) (fun g hg => (HOWN.out g hg).2)) (by rw [HL3.out]; omega) (Nat.le_trans HBR.out.size (HAL.out.trans hb12).size) ?_; intro v3 w3 hbu3 hg3 hb3; have hb13 := (HBR.out.trans ((HAL.out.trans hb12).mono HBR.out.size)).trans hb3))
              have HRN := Lib.hid (show Built Bytes w3 w.heap.size 28 v3 (minorTo M j (i + 1 - 1)) by rw [HSU.out]; exact hbu3)
              have HB13 := Lib.hid hb13
              clear hbu1 hbu2 hbu3 hg1 hg2 hg3 hb1 hb2 hb3 hb12 hb13
              go_wp2
              go_roundw
              case rel => exact ⟨i + 1, by omega, by omega, by go_num, HRN.out, HB13.out⟩
              case measure => simp [intOf]; omega
          · obtain rfl : i = N := by omega
            have hci0 := below_cell hbr _ _ hc00
            have hcx := below_cell hbr _ _ hcx0
            have HNN := HN.out
            have HTB := Lib.hid (show Tab wr.drew _ (minorT M j) from (show Tab wr _ (minorT M j) by rw [← minorTo_all (n := n) (by rw [HL.out, HN.out]), show n = i - 1 by omega]; exact hbu.slice).drewN 1)
            have HSQ := Lib.hid (minor_sqr (M := M) (n := n) (j := j) (by rw [← HN.out]; exact HS.out) (by omega))
            have hdl : detN n (minorT M j) < 256 := detN_lt (minor_byt HBY.out j)
            have hds := detSum_lt (f := fun j => mul (entry M 0 j) (detN n (minorT M j))) (fun j => GfPlain.mul_lt _ _ (entry_bd HBY.out 0 j)) j
            have HV := Lib.hid (show bits .xor .u8 ((detSum (fun j => mul (entry M 0 j) (detN n (minorT M j))) j : Nat) : Int) (grmul (M[0][j] : Nat) (detN n (minorT M j) : Nat)) = ((detSum (fun j => mul (entry M 0 j) (detN n (minorT M j))) (j + 1) : Nat) : Int) by
              rw [ref_val _ _ _ hds hx hdl, detSum, HJ.out])
            have HNH := Lib.hid HNN
            have HBR := Lib.hid hbr
            have f1 : (0 : Int) ≤ (j : Int) := by omega
            have f2 : (j : Int) < (i : Int) := by omega
            obtain ⟨A5, C5, e5, hl5, hl5'⟩ := hbu.len
            subst e5
            clear HNN hbu hbr
            go_wp2_with fail
            go_region_held3 (fun w' => w'.cell? ⟨ba, oa, none⟩ = some (.slice (some ⟨b1, o1, none⟩) i C0) ∧ w'.cell? ⟨b1, o1 + j, none⟩ = some (.int .u8 (M[0][j] : Nat)))
              (first | go_keep | exact ⟨below_cell hb4 _ _ hc00, below_cell hb4 _ _ hcx0⟩)
              (first
                | (go_at_call 15; refine (HI.out (minorT M j) _ _ HSQ.out HTB.out).mono ?_; rintro e w4 ⟨rfl, hb4'⟩; have hb4 : Below w.heap.size w w4 := HBR.out.drew.trans (hb4'.mono HBR.out.size))
                | (go_at_call 22; refine (rmulC _ _ (by omega) (by omega) (by omega) _).mono ?_; rintro e w' ⟨rfl, rfl⟩))
            have HB4 := Lib.hid hb4
            clear hb4 hb4'
            go_wp2
            go_roundw
            case rel => exact ⟨j + 1, by omega, by go_num, by rw [HV.out], HB4.out⟩
            case measure => simp [intOf]; omega
    · obtain rfl : j = N := by omega
      go_wp2
      go_ret
      exact ⟨rfl, hbr⟩
theorem det_all : ∀ n, n ≤ 65535 → DetC n
  | 0, _ => det_zero
  | n + 1, h => fun M v w hs ht => det_step n (n + 1) rfl (by omega) (det_all n (by omega)) M v w hs ht
end Go.Proofs.Ytnognnbelaflgaa.Mat
