/- Stripes and back: the law, as a walk. -/
import Derived.Test.YtgbeolepfmihgaaStJoin
namespace Go.Proofs.Ytgbeolepfmihgaa.Stp
set_option linter.unusedVariables false
open Go.ChangeShapes Go.WideShapes Go.ChangeAt Go.RowKit
open Go.Mem St Same
theorem flat_len {k : Nat} : ∀ (X : List (List Nat)), (∀ p ∈ X, p.length = k) → X.flatten.length = X.length * k
  | [], _ => by simp
  | a :: X, h => by
    have h1 := h a (by simp)
    have h2 := flat_len X fun p hp => h p (by simp [hp])
    rw [List.flatten_cons, List.length_append, h1, h2, List.length_cons, Nat.succ_mul, Nat.add_comm]
theorem back_facts {K : Int} {l : List Nat} (h1 : 1 ≤ K) (h5 : K ≤ 5) (hl : l.length ≤ 500) :
    (splitL K l).length ≤ 500 ∧ (∀ p ∈ splitL K l, p.length = 8 * K.toNat) ∧ (∃ z, (splitL K l).flatten = l ++ List.replicate z 0) ∧ (((splitL K l).length : Nat) : Int) = cntS K (l.length : Nat) ∧ (splitL K l).flatten.length ≤ 20000 := by
  have hc := split_count K l
  have hn : (splitL K l).length ≤ 500 := by
    rcases (by omega : l.length = 0 ∨ 1 ≤ l.length) with e | e
    · rw [cntS_none (.inr (by omega))] at hc
      omega
    · rw [cntS_some h1 (by omega)] at hc
      rcases (by omega : K = 1 ∨ K = 2 ∨ K = 3 ∨ K = 4 ∨ K = 5) with rfl | rfl | rfl | rfl | rfl <;> omega
  refine ⟨hn, fun p hp => split_len hp, split_flat l h1, hc, ?_⟩
  rw [flat_len _ fun p hp => split_len hp]
  have h40 : 8 * K.toNat ≤ 40 := by omega
  exact Nat.le_trans (Nat.mul_le_mul hn h40) (by decide)
theorem pad_zero (l : List Nat) (z j : Nat) (h : l.length ≤ j) (hj : j < (l ++ List.replicate z 0).length) : (l ++ List.replicate z 0)[j] = 0 := by
  rw [List.getElem_append_right h]
  exact List.getElem_replicate ..
theorem pad_take (l : List Nat) (z : Nat) : (l ++ List.replicate z 0).take l.length = l := by
  rw [List.take_left']; rfl
set_option maxHeartbeats 2000000 in
theorem StripeBackC (I : StI) (a0 : Int) (ha0 : 0 ≤ a0) (ha1 : a0 ≤ 255) (l : List Nat) (v : Value) (W : World) (h : Bytes W v l) :
    Calls Try.prog 4 #[.int .u8 a0, v] W fun e w' => e = .returned (.bool true) ∧ Below W.heap.size W w' := by
  obtain ⟨A, C, rfl, g1, g2, -⟩ := h.shape
  have HI := Lib.hid h
  have HLL : ∃ L, l.length = L := ⟨_, rfl⟩
  by_cases hl : 500 < l.length
  · have d2 : decide (500 < l.length) = true := by simpa using hl
    obtain ⟨L, hL⟩ := HLL
    rw [hL] at g1 d2 hl ⊢
    clear h hL
    go_enter Try.func4, Try.ntmps4
    go_wp2_with fail
    refine (answersC I _).mono ?_
    rintro _ w1 ⟨rfl, hb⟩
    have HB := Lib.hid hb
    clear hb
    go_wp2
    go_ret
    exact ⟨rfl, HB.out⟩
  · have d2 : decide (500 < l.length) = false := by simpa using hl
    have hl5 : l.length ≤ 500 := by omega
    have HLN := Lib.hid hl5
    obtain ⟨K, hK⟩ : ∃ K : Int, a0 % 5 + 1 = K := ⟨_, rfl⟩
    have hK1 : 1 ≤ K := by omega
    have hK5 : K ≤ 5 := by omega
    obtain ⟨f1, f2, ⟨z, f3⟩, f4, f5⟩ := back_facts hK1 hK5 hl5
    have HF1 := Lib.hid f1
    have HF2 := Lib.hid f2
    have HF3 := Lib.hid f3
    have HF4 := Lib.hid f4
    have HF5 := Lib.hid f5
    obtain ⟨KK, hKK⟩ : ∃ KK : Nat, 8 * K.toNat = KK := ⟨_, rfl⟩
    rw [hKK] at HF2
    have hK8 : (KK : Int) = 8 * K := by omega
    have hqK : ((KK : Int) != 8 * K) = false := by rw [hK8]; simp
    obtain ⟨L, hL⟩ := HLL
    have HL := Lib.hid hL
    rw [hL] at g1 d2 hl5 HI HF4 ⊢
    clear h hL hl f1 f2 f3 f4 f5 hKK
    go_enter Try.func4, Try.ntmps4
    go_wp2_with fail
    refine (I.split _ K _ l HI.out ⟨by omega, by omega⟩ (by omega) HLN.out).mono ?_
    rintro _ w1 ⟨u, rfl, hu, hb⟩
    have HB1 := Lib.hid hb
    obtain ⟨P, hP⟩ : ∃ P, splitL K l = P := ⟨_, rfl⟩
    have HJ := Lib.hid (show joinOk (splitL K l) (L : Nat) = true ∧ joinL (splitL K l) (L : Nat) = l from by
      have e1 : joinOk (splitL K l) (L : Nat) = true := by
        unfold joinOk
        rw [HF3.out, List.length_append, HL.out]
        simp
        omega
      refine ⟨e1, ?_⟩
      unfold joinL
      rw [if_pos e1, HF3.out, Int.toNat_natCast, ← HL.out, pad_take])
    rw [hP] at hu HF1 HF2 HF3 HF4 HF5 HJ
    obtain ⟨A1, C1, rfl, g3, g4, -⟩ := hu.shape
    have HP := Lib.hid hu
    have hal : Below w1.heap.size w1 (w1.alloc (.cells #[] 5)) := (Below.refl _ _).alloc (Nat.le_refl _) _
    have HST := Lib.hid (show Built ByteR (w1.alloc (.cells #[] 5)) w1.heap.size 5 (.slice (some ⟨w1.heap.size, 0, none⟩) 0 0) (P.take 0).flatten ∧ Below w1.heap.size w1 (w1.alloc (.cells #[] 5)) from ⟨built_none w1 (Nat.le_refl _), hal⟩)
    obtain ⟨NP, hNP⟩ : ∃ NP, P.length = NP := ⟨_, rfl⟩
    have HNP := Lib.hid hNP
    rw [hNP] at g3 HP HF1 HF4 ⊢
    have hNP5 : NP ≤ 500 := HF1.out
    clear hu hb hP hal hNP
    go_wp2
    go_loopw [7, 8] (fun v c wr => ∃ i : Nat, i ≤ NP ∧ c = .int .i64 i ∧ Built ByteR wr w1.heap.size 5 v (P.take i).flatten ∧ Below w1.heap.size w1 wr) (fun _ c _ => NP - (intOf c).toNat)
    case atStart => exact ⟨0, Nat.zero_le _, rfl, HST.out⟩
    case round =>
      obtain ⟨i, hi, rfl, hbu, hbl⟩ := hrel
      have HBU := Lib.hid hbu
      have HBL := Lib.hid hbl
      by_cases hgo : i < NP
      · have hil : i < P.length := by rw [HNP.out]; exact hgo
        obtain ⟨A2, C2, e1, hl1, hl2⟩ := hbu.len
        have hfl : (P.take i).flatten.length ≤ 20000 := by
          rw [flat_len _ fun p hp => HF2.out p (List.mem_of_mem_take hp), List.length_take]
          have := HF5.out
          rw [flat_len _ HF2.out] at this
          exact Nat.le_trans (Nat.mul_le_mul_right _ (Nat.min_le_right _ _)) this
        obtain ⟨F, hF⟩ : ∃ F, (P.take i).flatten.length = F := ⟨_, rfl⟩
        have HF := Lib.hid hF
        rw [hF] at e1 hl1 hfl
        subst e1
        obtain ⟨b, o, A', C', rfl, hc, hp1, hby⟩ := (HP.out.below hbl).at hil
        have HNX := Lib.hid (show (P.take (i + 1)).flatten = (P.take i).flatten ++ P[i] by rw [List.take_succ_eq_append_getElem hil, List.flatten_append]; simp)
        have hxl : P[i].length = KK := HF2.out _ (List.getElem_mem hil)
        obtain ⟨x, hx⟩ : ∃ x, P[i] = x := ⟨_, rfl⟩
        rw [hx] at hc hp1 hby HNX hxl
        have HN := Lib.hid hxl
        rw [hxl] at hc hp1 hby
        have HBY := Lib.hid hby
        clear hx hby hil hbl hbu hF hxl
        go_wp2_with (at_builtin; refine wpList_append_list byteR_world byteR_one _ rfl (.tmp 38) (.tmp 42) 25 rfl w1.heap.size 5 (.int .u8 0) 1 Try.underlying25 infoByte rfl _ _ rfl HBU.out _ _ _ _ rfl HBY.out (by rw [HF.out, HN.out]; omega) HBL.out.size ?_; intro v' w' hbu' hg' hb'; have HX := Lib.hid (show Built ByteR w' w1.heap.size 5 v' (P.take (i + 1)).flatten ∧ Below w1.heap.size w1 w' from ⟨by rw [HNX.out]; exact hbu', HBL.out.trans hb'⟩); obtain ⟨A3, C3, e2, _⟩ := hbu'.len; obtain ⟨L2, hL2⟩ : ∃ L2, ((P.take i).flatten ++ x).length = L2 := ⟨_, rfl⟩; rw [hL2] at e2; subst e2; clear hbu' hg' hb' hL2)
        go_roundw
        case rel => exact ⟨i + 1, by omega, by go_num, HX.out⟩
        case measure => simp [intOf]; omega
      · obtain rfl : i = NP := by omega
        have hPL : P.take i = P := List.take_of_length_le (by rw [HNP.out]; exact Nat.le_refl _)
        rw [hPL, HF3.out] at hbu HBU
        obtain ⟨A2, C2, e1, hl1, hl2⟩ := hbu.len
        have HALL := Lib.hid (show Bytes wr _ (l ++ List.replicate z 0) from hbu.slice)
        have HPT := Lib.hid (pad_take l z)
        have HPZ := Lib.hid (pad_zero l z)
        rw [HL.out] at HPT HPZ
        have HFF := HF5
        rw [HF3.out] at HFF
        have hLF0 : L ≤ (l ++ List.replicate z 0).length := by rw [List.length_append, HL.out]; omega
        obtain ⟨Q, hQ⟩ : ∃ Q, l ++ List.replicate z 0 = Q := ⟨_, rfl⟩
        rw [hQ] at e1 hl1 HALL HPT HPZ HFF hLF0
        obtain ⟨F, hF⟩ : ∃ F, Q.length = F := ⟨_, rfl⟩
        have HF := Lib.hid hF
        have hF5 : F ≤ 20000 := by rw [← hF]; exact HFF.out
        rw [hF] at e1 hl1 hLF0
        subst e1
        have hq1 : decide (i < i) = false := by simp
        have hq2 : ((i : Int) != (i : Int)) = false := by simp
        have hq3 : decide (F < L) = false := by simp; omega
        have hq3' : decide ((F : Int) < (L : Int)) = false := by simp; omega
        have hLC : L ≤ C2 := by omega
        clear hbu hPL hgo hQ hF hbl HBU
        go_wp2_with fail
        refine (I.count _ K (L : Nat) ⟨by omega, by omega⟩ ⟨by omega, by omega⟩ (by omega)).mono ?_
        rintro _ w2 ⟨rfl, hb2⟩
        rw [← HF4.out]
        have HB2 := Lib.hid (below_nxt HBL.out hb2 (Nat.le_refl _))
        have HA2 := Lib.hid (HALL.out.below hb2)
        have HT2 := Lib.hid (HA2.out.take (j := L) (by rw [HF.out]; exact hLF0))
        rw [HPT.out] at HT2
        have HD2 := Lib.hid ((HI.out.below HB1.out).below HB2.out)
        clear hb2
        go_wp2_with fail
        refine (sameC l l _ _ _ HT2.out HD2.out).mono ?_
        rintro _ w3 ⟨rfl, n, rfl⟩
        have hs : sameB l l = true := decide_eq_true rfl
        rw [hs]
        have HB3 := Lib.hid (HB2.out.trans (below_drewN _ _ n))
        have HA3 := Lib.hid (HA2.out.drewN n)
        obtain ⟨w3, hw3⟩ : ∃ w3, w2.drewN n = w3 := ⟨_, rfl⟩
        rw [hw3] at HB3 HA3 ⊢
        clear hw3
        go_wp2
        go_loopw [9] (fun c wx => ∃ j : Nat, L ≤ j ∧ j ≤ F ∧ c = .int .i64 j ∧ ∃ m, wx = w3.drewN m) (fun c _ => F - (intOf c).toNat)
        case atStart => exact ⟨L, Nat.le_refl _, hLF0, rfl, 0, rfl⟩
        case round =>
          obtain ⟨j, hj0, hj, rfl, m, rfl⟩ := hrel
          by_cases hjF : j < F
          · have hjQ : j < Q.length := by rw [HF.out]; exact hjF
            obtain ⟨b, o, rfl, hc, hm⟩ := HA3.out.at hjQ
            have hz := HPZ.out j hj0 hjQ
            have hzq : ((Q[j] : Int) != (0 : Int)) = false := by rw [hz]; rfl
            clear hz
            go_wp2
            go_roundw
            case rel => exact ⟨j + 1, by omega, by omega, by go_num, _, rfl⟩
            case measure => simp [intOf]; omega
          · obtain rfl : j = F := by omega
            have hq9 : decide (j < j) = false := by simp
            have HB4 := Lib.hid (HB3.out.trans (below_drewN _ _ m))
            obtain ⟨w4, hw4⟩ : ∃ w4, w3.drewN m = w4 := ⟨_, rfl⟩
            rw [hw4] at HB4 ⊢
            clear hw4 hjF
            go_wp2_with fail
            refine (I.join _ _ P (L : Nat) (HP.out.below HB4.out) ⟨by omega, by omega⟩ (by rw [HNP.out]; exact hNP5) HF5.out).mono ?_
            rintro _ w5 ⟨u5, rfl, hu5, hb5⟩
            rw [HJ.out.1]
            rw [HJ.out.2] at hu5
            obtain ⟨A5, C5, e5, -⟩ := hu5.shape
            rw [HL.out] at e5
            have HB5 := Lib.hid (below_nxt HB4.out hb5 (Nat.le_refl _))
            have HU5 := Lib.hid hu5
            clear hu5 hb5
            subst e5
            go_wp2_with fail
            refine (answersC I _).mono ?_
            rintro _ w6 ⟨rfl, hb6⟩
            have HB6 := Lib.hid (below_nxt HB5.out hb6 (Nat.le_refl _))
            have HU6 := Lib.hid (HU5.out.below hb6)
            have HD6 := Lib.hid ((HI.out.below HB1.out).below HB6.out)
            clear hb6
            go_wp2_with fail
            refine (sameC l l _ _ _ HU6.out HD6.out).mono ?_
            rintro _ w7 ⟨rfl, k, rfl⟩
            rw [hs]
            go_wp2
            go_ret
            exact ⟨rfl, below_nxt HB1.out (HB6.out.trans (below_drewN _ _ k)) (Nat.le_refl _)⟩
end Go.Proofs.Ytgbeolepfmihgaa.Stp
