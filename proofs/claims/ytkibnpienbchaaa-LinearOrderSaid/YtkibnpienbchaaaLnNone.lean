/- LinearNone: no calls, and calls that did nothing yet, are right. -/
import Derived.Test.YtkibnpienbchaaaLnAns
namespace Ln
set_option linter.unusedVariables false
open Go Go.Mem
theorem flat_set : ∀ (L : List Cl) (i p : Nat) (hi : i < L.length) (hp : p < 10) (u : Value) (y : Cl), (enc L[i]).set p u = enc y → (L.flatMap enc).set (i * 10 + p) u = (L.set i y).flatMap enc
  | [], i, p, hi, _, _, _, _ => absurd hi (by simp)
  | a :: L, 0, p, hi, hp, u, y, h => by
    have h' : (enc a).set p u = enc y := h
    rw [List.flatMap_cons, List.set_cons_zero, List.flatMap_cons, Nat.zero_mul, Nat.zero_add, List.set_append_left _ _ (by rw [enc_len]; exact hp), h']
  | a :: L, i + 1, p, hi, hp, u, y, h => by
    rw [List.flatMap_cons, List.set_cons_succ, List.flatMap_cons, List.set_append_right _ _ (by rw [enc_len]; omega), enc_len, show (i + 1) * 10 + p - 10 = i * 10 + p by omega, flat_set L i p (by simpa using hi) hp u y h]
/-- one cell of one call of a row is written over -/
theorem Row.put {w : World} {base t g C : Nat} {L : List Cl} (h : Row w base t (.slice (some ⟨g, 0, none⟩) L.length C) L) {i p : Nat} (hi : i < L.length) (hp : p < 10) {u : Value} {y : Cl} (e : (enc L[i]).set p u = enc y) :
    Row (w.setCell ⟨g, i * 10 + p, none⟩ u) base t (.slice (some ⟨g, 0, none⟩) L.length C) (L.set i y) := by
  have := (World.ownsRow.stored h (i * 10 + p) u).1
  rw [flat_set L i p hi hp u y e] at this
  unfold Row
  rw [List.length_set]
  exact this
theorem Row.el {w : World} {base t g C : Nat} {L : List Cl} (h : Row w base t (.slice (some ⟨g, 0, none⟩) L.length C) L) {i p : Nat} (hi : i < L.length) (hp : p < 10) : w.cell? ⟨g, i * 10 + p, none⟩ = some ((enc L[i]).getD p undef) := by
  rw [World.ownsRow.cellAt h (i * 10 + p) (by omega), flat_get L i p hi hp]
theorem Row.free {w : World} {base t g C : Nat} {L : List Cl} (h : Row w base t (.slice (some ⟨g, 0, none⟩) L.length C) L) (j : Nat) : w.frozen? ⟨g, j, none⟩ = false := World.ownsRow.frozenAt h j
/-- where it is -/
theorem Row.head {w : World} {base t : Nat} {v : Value} {L : List Cl} (h : Row w base t v L) (h0 : 0 < L.length) : ∃ g C, v = .slice (some ⟨g, 0, none⟩) L.length C ∧ base ≤ g ∧ L.length ≤ C ∧ C ≤ 9223372036854775807 := by
  rcases h.2 with ⟨_, q⟩ | ⟨g, cap, cur, e, q0, q1, q2, q3, _⟩
  · omega
  · unfold maxLen at q3
    exact ⟨g, cap, e, q0, q2, q3⟩
def clr (x : Cl) : Cl := { x with mo := 0 }
/-- the first i ones did nothing yet -/
def clrs (L : List Cl) (i : Nat) : List Cl := (L.take i).map clr ++ L.drop i
theorem clrs_len (L : List Cl) (i : Nat) : (clrs L i).length = L.length := by unfold clrs; simp; omega
theorem clrs_zero (L : List Cl) : clrs L 0 = L := by simp [clrs]
theorem clrs_succ {L : List Cl} {i : Nat} (hi : i < L.length) : clrs L (i + 1) = (clrs L i).set i (clr L[i]) := by
  unfold clrs
  have e : ((L.take i).map clr).length = i := by simp; omega
  rw [List.set_append_right _ _ (by omega), e, Nat.sub_self, List.drop_eq_getElem_cons hi, List.set_cons_zero, List.take_succ_eq_append_getElem hi, List.map_append, List.append_assoc]
  rfl
theorem clrs_at {L : List Cl} {i : Nat} (hi : i < L.length) (hi' : i < (clrs L i).length) : (clrs L i)[i] = L[i] := by
  have e : ((L.take i).map clr).length = i := by simp; omega
  have h1 : (clrs L i)[i]? = some L[i] := by
    unfold clrs
    rw [List.getElem?_append_right (by omega), e, Nat.sub_self, List.drop_eq_getElem_cons hi]
    rfl
  rw [List.getElem?_eq_getElem hi'] at h1
  exact Option.some.inj h1
theorem clrs_none (L : List Cl) : dones (clrs L L.length) = [] := dones_none fun c hc => by
  unfold clrs at hc
  rw [List.take_length, List.drop_length, List.append_nil] at hc
  obtain ⟨x, _, rfl⟩ := List.mem_map.1 hc
  show ¬ (0 : Int) < 0
  omega
end Ln
namespace Go.Proofs.Ytkibnpienbchaaa.Lnr
set_option linter.unusedVariables false
open Go.ChangeShapes Go.WideShapes Go.ChangeAt Go.RowKit
open Go.Mem Ln
theorem checkNone {w : World} {V : Value} {L : List Cl} (h : Cls w V L) (hl : L.length ≤ 60) (hd : dones L = []) :
    Calls Try.prog 7 #[V] w fun e w' => e = .returned (.bool true) ∧ Below w.heap.size w w' :=
  checkC h hl (S := []) List.Pairwise.nil (by rw [hd]) (by simp) (fun x hx => by cases hx)
/-- in the midst of the law: the first i of its copies did nothing yet -/
structure NoMid (W : World) (B : Nat) (L : List Cl) (v : Value) (i : Nat) (w : World) : Prop where
  row : Row w B TCall v (clrs L i)
  bel : Below W.heap.size W w
set_option maxRecDepth 100000 in
set_option maxHeartbeats 4000000 in
theorem LinearNoneC {W : World} {V : Value} {L : List Cl} (h : Cls W V L) : Calls Try.prog 4 #[V] W fun e w' => e = .returned (.bool true) ∧ Below W.heap.size W w' := by
  obtain ⟨A, C, rfl, hnC, hCm, -⟩ := h.shape
  have H := Lib.hid h
  obtain ⟨N, hN⟩ : ∃ N, L.length = N := ⟨_, rfl⟩
  have HN := Lib.hid hN
  rw [hN] at H hnC ⊢
  clear h hN
  by_cases h60 : N ≤ 60
  · have q60 : ¬ (60 : Int) < (N : Int) := by omega
    obtain ⟨B, hB⟩ : ∃ B, W.heap.size = B := ⟨_, rfl⟩
    obtain ⟨w1, hw1⟩ : ∃ w1, W.alloc (.cells #[] TCall) = w1 := ⟨_, rfl⟩
    have hb1 : Below W.heap.size W w1 := by rw [← hw1]; exact alB _ _
    have hrow : Row w1 B TCall (.slice (some ⟨B, 0, none⟩) 0 0) [] := by rw [← hw1, ← hB]; exact Row.empty W W.heap.size TCall (Nat.le_refl _)
    obtain ⟨v, w2, hrun, hrow2, hg2, hb2⟩ := run_append_rows (P := Try.prog) w1 B 24 24 TCall zCall 136 Try.underlying24 infoCall rfl _ _ hrow A N C L (H.out.below hb1) (by rw [HN.out]; simp; omega) (by rw [← hB]; exact hb1.size)
    rw [List.nil_append] at hrow2
    have HM := Lib.hid (show NoMid W B L v 0 w2 from ⟨by rw [clrs_zero]; exact hrow2, hb1.trans (by rw [hB]; exact hb2)⟩)
    have HRUN := Lib.hid hrun
    have HW1 := Lib.hid hw1
    have HBE := Lib.hid hB
    clear hb1 hrow hrow2 hg2 hb2 hrun hw1 hB
    obtain ⟨Av, Cv, rfl, -⟩ := HM.out.row.cls.shape
    rw [clrs_len, HN.out] at HRUN HM
    go_enter Try.func4, Try.ntmps4
    go_upto_region 3 with fail
    go_wp2_with (rw [HW1.out, HBE.out]; at_builtin; refine Lib.wpList_append_run _ rfl (.tmp 9) (.tmp 10) 24 24 rfl _ _ rfl rfl _ _ HRUN.out ?_)
    go_loopw [4] (fun c wr => ∃ i : Nat, i ≤ N ∧ c = .int .i64 i ∧ NoMid W B L (.slice Av N Cv) i wr) (fun c _ => N - (intOf c).toNat)
    case atStart => exact ⟨0, Nat.zero_le _, rfl, HM.out⟩
    case round =>
      obtain ⟨i, hi, rfl, hm⟩ := hrel
      have HMI := Lib.hid hm
      have HBB := Lib.hid hm.bel
      clear hm
      by_cases hlt : i < N
      · have hil : i < L.length := by rw [HN.out]; exact hlt
        have hil2 : i < (clrs L i).length := by rw [clrs_len]; exact hil
        obtain ⟨g, C2, e2, hBg, -, -⟩ := HMI.out.row.head (by omega)
        rw [clrs_len, HN.out] at e2
        cases e2
        have hrow := HMI.out.row
        have hrow' : Row wr B TCall (.slice (some ⟨g, 0, none⟩) (clrs L i).length Cv) (clrs L i) := by rw [clrs_len, HN.out]; exact hrow
        have c6 := hrow'.el hil2 (p := 6) (by omega)
        have f6 := hrow'.free (i * 10 + 6)
        have c6' : wr.cell? ⟨g, i * 10 + 6, none⟩ = some (.int .i64 (clrs L i)[i].mo) := c6
        have HE := Lib.hid (show NoMid W B L (.slice (some ⟨g, 0, none⟩) N Cv) (i + 1) (wr.setCell ⟨g, i * 10 + 6, none⟩ (.int .i64 0)) from ⟨by
          have := hrow'.put hil2 (p := 6) (by omega) (u := .int .i64 0) (y := clr (clrs L i)[i]) rfl
          rw [clrs_at hil hil2, ← clrs_succ hil, clrs_len, HN.out] at this
          exact this, HBB.out.trans ((Turned.set (F := fun b => b = g) (w := wr) _ rfl).below (fun b q => by rw [q, HBE.out]; exact hBg) HBB.out.size)⟩)
        obtain ⟨z, hz⟩ : ∃ z, (clrs L i)[i].mo = z := ⟨_, rfl⟩
        rw [hz] at c6'
        clear hz hil hil2 hrow hrow' c6 hBg
        go_wp2
        go_roundw
        case rel => exact ⟨i + 1, by omega, by go_num, HE.out⟩
        case measure => simp [intOf]; omega
      · obtain rfl : i = N := by omega
        have HC1 := Lib.hid (fun w' (q : Below wr.heap.size wr w') => checkNone (HMI.out.row.cls.below q) (by rw [clrs_len, HN.out]; omega) (by rw [← HN.out]; exact clrs_none L))
        have HC2 := Lib.hid (fun w' => checkNone (Cls.nil w') (by simp) rfl)
        go_wp2_with fail
        refine (answersC wr).mono ?_
        rintro _ w3 ⟨rfl, hb3⟩
        have HB3 := Lib.hid hb3
        clear hb3
        go_wp2_with fail
        refine (HC1.out _ HB3.out).mono ?_
        rintro _ w4 ⟨rfl, hb4⟩
        have HB4 := Lib.hid (HB3.out.trans (hb4.mono HB3.out.size))
        clear hb4
        go_wp2_with fail
        refine (HC2.out _).mono ?_
        rintro _ w5 ⟨rfl, hb5⟩
        have HB5 := Lib.hid (HBB.out.trans ((HB4.out.trans (hb5.mono HB4.out.size)).mono HBB.out.size))
        clear hb5
        go_wp2
        go_ret
        exact ⟨rfl, HB5.out⟩
  · have q60 : (60 : Int) < (N : Int) := by omega
    go_enter Try.func4, Try.ntmps4
    go_wp2_with fail
    refine (answersC W).mono ?_
    rintro _ w3 ⟨rfl, hb3⟩
    have HB3 := Lib.hid hb3
    clear hb3
    go_wp2
    go_ret
    exact ⟨rfl, HB3.out⟩
end Go.Proofs.Ytkibnpienbchaaa.Lnr
