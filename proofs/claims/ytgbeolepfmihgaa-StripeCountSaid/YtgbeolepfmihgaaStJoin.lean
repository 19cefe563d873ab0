/- Parts put together: the law, as a walk. -/
import Derived.Test.YtgbeolepfmihgaaStFew
namespace Go.Proofs.Ytgbeolepfmihgaa.Stp
set_option linter.unusedVariables false
open Go.ChangeShapes Go.WideShapes Go.ChangeAt Go.RowKit
open Go.Mem St Same
set_option maxHeartbeats 8000000 in
theorem StripeJoinC (I : StI) (M : List (List Nat)) (size : Int) (s0 : -9223372036854775808 ≤ size) (s1 : size ≤ 9223372036854775807) (v : Value) (W : World) (h : Tab W v M) :
    Calls Try.prog 5 #[v, .int .i64 size] W fun e w' => e = .returned (.bool true) ∧ Below W.heap.size W w' := by
  obtain ⟨A, C, rfl, g1, g2, -⟩ := h.shape
  have HI := Lib.hid h
  have hal : Below W.heap.size W (W.alloc (.cells #[] 5)) := (Below.refl _ _).alloc (Nat.le_refl _) _
  have HST := Lib.hid (show Built ByteR (W.alloc (.cells #[] 5)) W.heap.size 5 (.slice (some ⟨W.heap.size, 0, none⟩) 0 0) (M.take 0).flatten ∧ (∀ p ∈ M.take 0, p.length ≤ 200) ∧ Below W.heap.size W (W.alloc (.cells #[] 5)) from ⟨built_none W (Nat.le_refl _), (fun p hp => by simp at hp), hal⟩)
  obtain ⟨L, hL⟩ : ∃ L, M.length = L := ⟨_, rfl⟩
  have HL := Lib.hid hL
  rw [hL] at g1 HI ⊢
  clear h hL hal
  go_enter Try.func5, Try.ntmps5
  go_wp2
  go_loopw [5, 6] (fun v c wr => ∃ i : Nat, i ≤ L ∧ i ≤ 51 ∧ c = .int .i64 i ∧ Built ByteR wr W.heap.size 5 v (M.take i).flatten ∧ (∀ p ∈ M.take i, p.length ≤ 200) ∧ Below W.heap.size W wr) (fun _ c _ => L - (intOf c).toNat)
  case atStart => exact ⟨0, Nat.zero_le _, by omega, rfl, HST.out⟩
  case round =>
    obtain ⟨i, hi, hi5, rfl, hbu, hsm, hbl⟩ := hrel
    have HBU := Lib.hid hbu
    have HSM := Lib.hid hsm
    have HBL := Lib.hid hbl
    have hfl : (M.take i).flatten.length ≤ 200 * i := by
      have : ∀ (X : List (List Nat)), (∀ p ∈ X, p.length ≤ 200) → X.flatten.length ≤ 200 * X.length := by
        intro X
        induction X with
        | nil => intro _; simp
        | cons a X ih =>
          intro hx
          have h1 := hx a (by simp)
          have h2 := ih (fun p hp => hx p (by simp [hp]))
          simp only [List.flatten_cons, List.length_append, List.length_cons]
          omega
      have h1 := this _ hsm
      rw [List.length_take] at h1
      omega
    obtain ⟨A1, C1, e1, hl1, hl2⟩ := hbu.len
    obtain ⟨F, hF⟩ : ∃ F, (M.take i).flatten.length = F := ⟨_, rfl⟩
    have HF := Lib.hid hF
    rw [hF] at e1 hl1 hfl
    subst e1
    clear hbu hF
    by_cases hgo : i < L ∧ i ≤ 50
    · obtain ⟨c1, c2⟩ := hgo
      have hil : i < M.length := by rw [HL.out]; exact c1
      obtain ⟨b, o, A', C', rfl, hc, hp1, hby⟩ := (HI.out.below hbl).at hil
      have HNX := Lib.hid (show (M.take (i + 1)).flatten = (M.take i).flatten ++ M[i] by rw [List.take_succ_eq_append_getElem hil, List.flatten_append]; simp)
      have HSP := Lib.hid (show ∀ x, M[i] = x → ∀ p ∈ M.take (i + 1), p ∈ M.take i ∨ p = x from fun x hx p hp => by
        rw [List.take_succ_eq_append_getElem hil] at hp
        rcases List.mem_append.1 hp with q | q
        · exact .inl q
        · exact .inr (by rw [List.mem_singleton.1 q, hx]))
      obtain ⟨x, hx⟩ : ∃ x, M[i] = x := ⟨_, rfl⟩
      have HSX := Lib.hid (HSP.out x hx)
      rw [hx] at hc hp1 hby HNX
      obtain ⟨N, hN⟩ : ∃ N, x.length = N := ⟨_, rfl⟩
      have HN := Lib.hid hN
      rw [hN] at hc hp1 hby
      have HBY := Lib.hid hby
      have q1 : (i : Int) < (L : Int) := by omega
      have q2 : (0 : Int) ≤ (i : Int) := by omega
      have d1 : decide (i < L) = true := by simpa using c1
      clear hx hN hby hil hbl hsm HSP
      by_cases hbig : 200 < N
      · have d3 : decide (200 < N) = true := by simpa using hbig
        go_wp2_with fail
        refine (answersC I _).mono ?_
        rintro _ w1 ⟨rfl, hb⟩
        have HB := Lib.hid (below_nxt HBL.out hb (Nat.le_refl _))
        clear hb
        go_wp2
        go_ret
        exact ⟨rfl, HB.out⟩
      · have d3 : decide (200 < N) = false := by simpa using hbig
        have hN2 : N ≤ 200 := by omega
        go_wp2_with (at_builtin; refine wpList_append_list byteR_world byteR_one _ rfl (.tmp 27) (.tmp 31) 25 rfl W.heap.size 5 (.int .u8 0) 1 Try.underlying25 infoByte rfl _ _ rfl HBU.out _ _ _ _ rfl HBY.out (by rw [HF.out, HN.out]; omega) HBL.out.size ?_; intro v' w' hbu' hg' hb'; have HX := Lib.hid (show Built ByteR w' W.heap.size 5 v' (M.take (i + 1)).flatten ∧ (∀ p ∈ M.take (i + 1), p.length ≤ 200) ∧ Below W.heap.size W w' from ⟨by rw [HNX.out]; exact hbu', (fun p hp => (HSX.out p hp).elim (HSM.out p) (fun e => by rw [e, HN.out]; exact hN2)), HBL.out.trans hb'⟩); obtain ⟨A2, C2, e2, _⟩ := hbu'.len; obtain ⟨L2, hL2⟩ : ∃ L2, ((M.take i).flatten ++ x).length = L2 := ⟨_, rfl⟩; rw [hL2] at e2; subst e2; clear hbu' hg' hb' hL2)
        go_roundw
        case rel => exact ⟨i + 1, by omega, by omega, by go_num, HX.out⟩
        case measure => simp [intOf]; omega
    · by_cases hL5 : 50 < L
      · obtain rfl : i = 51 := by omega
        clear hgo hfl
        by_cases h51 : 51 < L
        · have d1 : decide (51 < L) = true := by simpa using h51
          go_wp2_with fail
          refine (answersC I _).mono ?_
          rintro _ w1 ⟨rfl, hb⟩
          have HB := Lib.hid (below_nxt HBL.out hb (Nat.le_refl _))
          clear hb
          go_wp2
          go_ret
          exact ⟨rfl, HB.out⟩
        · obtain rfl : L = 51 := by omega
          go_wp2_with fail
          refine (answersC I _).mono ?_
          rintro _ w1 ⟨rfl, hb⟩
          have HB := Lib.hid (below_nxt HBL.out hb (Nat.le_refl _))
          clear hb
          go_wp2
          go_ret
          exact ⟨rfl, HB.out⟩
      · obtain rfl : i = L := by omega
        have hML : M.take i = M := List.take_of_length_le (by rw [HL.out]; exact Nat.le_refl _)
        rw [hML] at HF HBU
        have HFN := Lib.hid (show M.flatten.length ≤ 20000 by rw [HF.out]; omega)
        have HLN := Lib.hid (show M.length ≤ 500 by rw [HL.out]; omega)
        have HK := Lib.hid (show joinOk M size = (decide (0 ≤ size) && decide (size ≤ (F : Int))) by unfold joinOk; rw [HF.out])
        have hF5 : F ≤ 20000 := by omega
        have hq1 : decide (i < i) = false := by simp
        have hq2 : decide (50 < i) = false := by simpa using hL5
        clear hgo hML hfl
        go_wp2_with fail
        refine (I.join _ _ M size (HI.out.below HBL.out) ⟨s0, s1⟩ HLN.out HFN.out).mono ?_
        rintro _ w1 ⟨u, rfl, hu, hb⟩
        have HB := Lib.hid (below_nxt HBL.out hb (Nat.le_refl _))
        have HALL := Lib.hid (show Bytes w1 (.slice A1 F C1) M.flatten from Bytes.below HBU.out.slice hb)
        by_cases hneg : size < 0
        · have hok : joinOk M size = false := by rw [HK.out]; simp; omega
          rw [hok]
          have hu0 : joinL M size = [] := by unfold joinL; rw [hok]; rfl
          rw [hu0] at hu
          obtain ⟨A2, C2, rfl, -⟩ := hu.shape
          have d5 : decide (size < 0) = true := by simpa using hneg
          clear hu hu0 hok hb
          go_wp2_with fail
          refine (answersC I _).mono ?_
          rintro _ w2 ⟨rfl, hb2⟩
          have HB2 := Lib.hid (below_nxt HB.out hb2 (Nat.le_refl _))
          clear hb2
          go_wp2
          go_ret
          exact ⟨rfl, HB2.out⟩
        · have d5 : decide (size < 0) = false := by simpa using hneg
          by_cases hbg : (F : Int) < size
          · have hok : joinOk M size = false := by rw [HK.out]; simp; omega
            rw [hok]
            have hu0 : joinL M size = [] := by unfold joinL; rw [hok]; rfl
            rw [hu0] at hu
            obtain ⟨A2, C2, rfl, -⟩ := hu.shape
            have d6 : decide ((F : Int) < size) = true := by simpa using hbg
            clear hu hu0 hok hb
            go_wp2_with fail
            refine (answersC I _).mono ?_
            rintro _ w2 ⟨rfl, hb2⟩
            have HB2 := Lib.hid (below_nxt HB.out hb2 (Nat.le_refl _))
            clear hb2
            go_wp2
            go_ret
            exact ⟨rfl, HB2.out⟩
          · obtain ⟨S, rfl⟩ := Int.eq_ofNat_of_zero_le (show 0 ≤ size by omega)
            have hSF : S ≤ F := by omega
            have hok : joinOk M (S : Nat) = true := by rw [HK.out]; simp; omega
            rw [hok]
            have hu0 : joinL M (S : Nat) = M.flatten.take S := by unfold joinL; rw [if_pos hok, Int.toNat_natCast]
            rw [hu0] at hu
            obtain ⟨A2, C2, e2, -⟩ := hu.shape
            rw [show (M.flatten.take S).length = S by rw [List.length_take, HF.out]; omega] at e2
            have d6 : decide ((F : Int) < (S : Int)) = false := by simpa using hbg
            have HU := Lib.hid hu
            clear hu hu0 hok hb
            subst e2
            go_wp2_with fail
            refine (answersC I _).mono ?_
            rintro _ w2 ⟨rfl, hb2⟩
            have HB2 := Lib.hid (below_nxt HB.out hb2 (Nat.le_refl _))
            have HU2 := Lib.hid (HU.out.below hb2)
            have HA2 := Lib.hid (HALL.out.below hb2)
            clear hb2
            go_wp2_with fail
            have HA3 := Lib.hid (HA2.out.take (j := S) (by rw [HF.out]; exact hSF))
            refine (sameC (M.flatten.take S) (M.flatten.take S) _ _ _ HU2.out HA3.out).mono ?_
            rintro _ w3 ⟨rfl, n, rfl⟩
            have hs : sameB (M.flatten.take S) (M.flatten.take S) = true := decide_eq_true rfl
            rw [hs]
            go_wp2
            go_ret
            exact ⟨rfl, HB2.out.trans (below_drewN _ _ _)⟩
end Go.Proofs.Ytgbeolepfmihgaa.Stp
