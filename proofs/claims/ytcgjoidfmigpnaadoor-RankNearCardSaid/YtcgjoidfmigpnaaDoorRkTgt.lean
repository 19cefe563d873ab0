/- The document's nearest ones of those that are in, as a walk. -/
import Derived.Test.YtcgjoidfmigpnaaDoorRkOrd
namespace Go.Proofs.YtcgjoidfmigpnaaDoor.Rk
set_option linter.unusedVariables false
open Go.ChangeShapes Go.WideShapes Go.ChangeAt Go.RowKit
open Go.Mem Sha Hash
theorem ints_take {w : World} {A : Option Addr} {n C : Nat} {l : List Int} (h : Ints w (.slice A n C) l) {j : Nat} (hj : j ≤ l.length) : Ints w (.slice A j C) (l.take j) := by
  obtain ⟨A', n', C', q1, q2, q3, q4, q5, q6⟩ := h
  cases q1
  refine ⟨A, j, C, rfl, by simp; omega, by omega, q4, q5, fun i hi => ?_⟩
  have hi' : i < j := by simp at hi; omega
  rw [List.getElem_take]
  exact q6 i (by omega)
def Tgted (W : World) (s : Int) (l : List Int) (n : Int) (e : Ending) (w' : World) : Prop := ∃ u, e = .returned (.tuple #[u, .bool (tgtOk l n)]) ∧ Ints w' u (tgt s l n) ∧ Below W.heap.size W w'
/-- those that are in, told one by one -/
def InsAt (l : List Int) (k : Nat) (W : World) (v : Value) (wr : World) : Prop := Built IntR wr W.heap.size 3 v (insOf (l.take k)) ∧ Below W.heap.size W wr
theorem tgt_no {s : Int} {l : List Int} {n : Int} (h : tgtOk l n = false) : tgt s l n = [] := by unfold tgt; rw [if_neg (by rw [h]; simp)]
theorem tgt_yes {s : Int} {l : List Int} {n : Int} (h : tgtOk l n = true) : tgt s l n = (ord s (insOf l)).take n.toNat := by unfold tgt; rw [if_pos h]
set_option maxHeartbeats 4000000 in
theorem refTargets (W : World) (s : Int) (v : Value) (l : List Int) (n : Int) (hI : Ints W v l) (hs : I64 s) (hn : I64 n) (hl : l.length ≤ 100) :
    Calls Tryd.prog 13 #[.int .i64 s, v, .int .i64 n] W (Tgted W s l n) := by
  obtain ⟨A, C, rfl, g1, g2, -⟩ := hI.shape
  have HI := Lib.hid hI
  obtain ⟨n0, n1⟩ := hn
  obtain ⟨L, hL⟩ : ∃ L, l.length = L := ⟨_, rfl⟩
  have HL := Lib.hid hL
  have HIL := Lib.hid (show ∀ k, (insOf (l.take k)).length ≤ L from fun k => Nat.le_trans (insOf_len _) (by rw [List.length_take]; omega))
  rw [hL] at hl g1 HI ⊢
  clear hI hL
  go_enter Tryd.func13, Tryd.ntmps13
  go_wp2
  go_loopw [8, 9] (fun v c wr => ∃ k : Nat, k ≤ L ∧ c = .int .i64 k ∧ InsAt l k W v wr) (fun _ c _ => L - (intOf c).toNat)
  case atStart => exact ⟨0, Nat.zero_le _, rfl, by rw [InsAt, List.take_zero]; exact ⟨Built.start _ _ _, Below.refl _ _⟩⟩
  case round =>
    obtain ⟨k, hk, rfl, hbu, hbl⟩ := hrel
    have HBU := Lib.hid hbu
    have HBL := Lib.hid hbl
    by_cases hlt : k < L
    · have hk' : k < l.length := by rw [HL.out]; exact hlt
      obtain ⟨b, o, rfl, hc, hz⟩ := (HI.out.below hbl).at hk'
      have HNX := Lib.hid (insOf_take hk')
      obtain ⟨x, hx⟩ : ∃ x, l[k] = x := ⟨_, rfl⟩
      rw [hx] at hc hz HNX
      have q1 : (0 : Int) ≤ (k : Int) := by omega
      have q2 : (k : Int) < (L : Int) := by omega
      obtain ⟨A1, C1, e1, hl1, hl2⟩ := hbu.len
      obtain ⟨M, hM⟩ : ∃ M, (insOf (l.take k)).length = M := ⟨_, rfl⟩
      have HM := Lib.hid hM
      rw [hM] at e1 hl1
      subst e1
      have hML : M ≤ L := by rw [← hM]; exact HIL.out k
      clear hbu hx hk' hM
      by_cases h1 : x = 1
      · have hq : (x == 1) = true := by rw [h1]; rfl
        have HNX2 := Lib.hid (show insOf (l.take (k + 1)) = insOf (l.take k) ++ [(k : Int)] by rw [HNX.out, if_pos h1])
        clear h1 hbl
        go_wp2_with (at_builtin; refine wpList_append_built (R := IntR) _ rfl (.tmp 21) (.tmp 23) 22 rfl W.heap.size 3 (.int .i64 0) 8 Tryd.underlying22 infoInt rfl _ _ rfl HBU.out _ (k : Int) _ rfl rfl rfl (fun _ _ => ⟨rfl, by omega, by omega⟩) (by rw [HM.out]; omega) HBL.out.size ?_; intro v' w' hbu' hg' hb'; have HX := Lib.hid (show InsAt l (k + 1) W v' w' from ⟨by rw [HNX2.out]; exact hbu', HBL.out.trans hb'⟩); obtain ⟨A2, C2, e2, _⟩ := hbu'.len; obtain ⟨L2, hL2⟩ : ∃ L2, (insOf (l.take k) ++ [(k : Int)]).length = L2 := ⟨_, rfl⟩; rw [hL2] at e2; subst e2; clear hbu' hg' hb' hL2)
        go_roundw
        case rel => exact ⟨k + 1, by omega, by go_num, HX.out⟩
        case measure => simp [intOf]; omega
      · have hq : (x == 1) = false := by simpa using h1
        have HX := Lib.hid (show InsAt l (k + 1) W (.slice A1 M C1) wr from ⟨by rw [HNX.out, if_neg h1, List.append_nil]; exact HBU.out, HBL.out⟩)
        clear h1 hbl
        go_wp2
        go_roundw
        case rel => exact ⟨k + 1, by omega, by go_num, HX.out⟩
        case measure => simp [intOf]; omega
    · obtain rfl : k = L := by omega
      rw [List.take_of_length_le (Nat.le_of_eq HL.out)] at hbu HBU
      have HIN := Lib.hid (show Ints wr _ (insOf l) from hbu.slice)
      obtain ⟨A1, C1, e1, hl1, hl2⟩ := hbu.len
      have hle := HIL.out k
      rw [List.take_of_length_le (Nat.le_of_eq HL.out)] at hle
      have HOL := Lib.hid (ord_len s (insOf l))
      have HTO := Lib.hid (show tgtOk l n = (decide (0 ≤ n) && decide (n ≤ ((insOf l).length : Int))) from rfl)
      obtain ⟨M, hM⟩ : ∃ M, (insOf l).length = M := ⟨_, rfl⟩
      have HM := Lib.hid hM
      rw [hM] at e1 hl1 hle HOL HTO
      subst e1
      clear hbu hM hbl
      by_cases c1 : n < 0
      · have d1 : decide (n < 0) = true := by simpa using c1
        have HF := Lib.hid (show tgtOk l n = false by rw [HTO.out]; simp; omega)
        go_wp2
        go_ret2
        exact ⟨.slice none 0 0, by rw [HF.out]; rfl, by rw [tgt_no HF.out]; exact Ints.nil _, HBL.out⟩
      · have d1 : decide (n < 0) = false := by simpa using c1
        by_cases c2 : (M : Int) < n
        · have d2 : decide ((M : Int) < n) = true := by simpa using c2
          have HF := Lib.hid (show tgtOk l n = false by rw [HTO.out]; simp; omega)
          go_wp2
          go_ret2
          exact ⟨.slice none 0 0, by rw [HF.out]; rfl, by rw [tgt_no HF.out]; exact Ints.nil _, HBL.out⟩
        · have d2 : decide ((M : Int) < n) = false := by simpa using c2
          have HF := Lib.hid (show tgtOk l n = true by rw [HTO.out]; simp; omega)
          obtain ⟨N, rfl⟩ := Int.eq_ofNat_of_zero_le (show 0 ≤ n by omega)
          have hNM : N ≤ M := by omega
          go_wp2_with fail
          refine (refOrder _ s _ (insOf l) HIN.out hs (by rw [HM.out]; omega)).mono ?_
          rintro _ w2 ⟨u, rfl, hu, hb2⟩
          have HB2 := Lib.hid (below_nxt HBL.out hb2 (Nat.le_refl _))
          obtain ⟨A2, C2, rfl, k1, k2, -⟩ := hu.shape
          rw [HOL.out] at hu k1 ⊢
          have HT := Lib.hid (show Ints w2 (.slice A2 N C2) (tgt s l (N : Nat)) by
            rw [tgt_yes HF.out, Int.toNat_natCast]
            exact ints_take hu (by rw [HOL.out]; omega))
          clear hu hb2
          go_wp2
          go_ret2
          exact ⟨.slice A2 N C2, by rw [HF.out]; rfl, HT.out, HB2.out⟩
end Go.Proofs.YtcgjoidfmigpnaaDoor.Rk
