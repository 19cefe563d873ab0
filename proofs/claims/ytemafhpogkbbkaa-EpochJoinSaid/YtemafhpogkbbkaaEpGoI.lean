/- The program's layer 13 is what the laws want. -/
import Derived.Test.YtemafhpogkbbkaaEpGo
namespace Go.Proofs.Ytemafhpogkbbkaa.Epo
set_option linter.unusedVariables false
open Go.ChangeShapes Go.WideShapes Go.ChangeAt Go.RowKit
open Go.Mem Ep Rec
theorem told_nil (W : World) (k : Int) {w' : World} (hb : Below W.heap.size W w') : Told W [] k (.returned (.tuple #[.slice none 0 0, .int .i64 k])) w' :=
  ⟨_, rfl, fun w'' _ => Ints.nil w'', hb⟩
set_option maxHeartbeats 1000000 in
theorem joinC (W : World) (v : Value) (l : List Int) (h : Ints W v l) (hl : l.length ≤ 101) :
    Calls Try.prog 9 #[v] W (Told W (jnL l) (jnE l)) := by
  obtain ⟨A, C, rfl, g1, g2, -⟩ := h.shape
  by_cases h12 : 12 ≤ l.length
  · have e1 : jnE l = 3 := by unfold jnE; rw [if_pos h12]
    have e2 : jnL l = [] := by unfold jnL; rw [if_pos h12]
    rw [e1, e2]
    have hd2 : decide (12 ≤ l.length) = true := by simpa using h12
    obtain ⟨L, hL⟩ : ∃ L, l.length = L := ⟨_, rfl⟩
    rw [hL] at hd2 g1 h12 ⊢
    clear e1 e2 h hL
    go_enter Try.func9, Try.ntmps9
    go_wp2
    go_ret2
    exact told_nil _ _ (Below.refl _ _)
  · have e1 : jnE l = 0 := by unfold jnE; rw [if_neg h12]
    have e2 : jnL l = l ++ [1] := by unfold jnL; rw [if_neg h12]
    rw [e1, e2]
    have hd2 : decide (12 ≤ l.length) = false := by simpa using h12
    have HI := Lib.hid h
    have HLL := Lib.hid hl
    obtain ⟨L, hL⟩ : ∃ L, l.length = L := ⟨_, rfl⟩
    rw [hL] at hd2 g1 h12 HI ⊢
    clear e1 e2 h hL hl
    go_enter Try.func9, Try.ntmps9
    go_wp2_with fail
    refine (cloneC l _ _ HI.out HLL.out).mono ?_
    rintro _ w1 ⟨u, rfl, hb1, hb2⟩
    obtain ⟨v2, w2, hrun, hbu, hb3⟩ := one_more w1 W.heap.size u l 1 ⟨by omega, by omega⟩ hb1 HLL.out hb2.size
    have HT := Lib.hid (show Told W (l ++ [1]) 0 (.returned (.tuple #[v2, .int .i64 0])) w2 from ⟨v2, rfl, fun w'' ht => built_on hbu ht, hb2.trans hb3⟩)
    obtain ⟨A1, C1, rfl, -⟩ := hb1.len
    obtain ⟨A2, C2, rfl, -⟩ := hbu.len
    obtain ⟨L2, hL2⟩ : ∃ L2, (l ++ [(1 : Int)]).length = L2 := ⟨_, rfl⟩
    rw [hL2] at hrun HT
    clear hL2
    have HR := Lib.hid hrun
    clear hb1 hb2 hb3 hbu hrun
    go_wp2_with (at_builtin; refine Lib.wpList_append_run _ rfl (.tmp 8) (.tmp 9) 22 22 rfl _ _ rfl rfl _ _ HR.out ?_)
    go_ret2
    exact HT.out
set_option maxHeartbeats 1000000 in
theorem drainC (W : World) (v : Value) (l : List Int) (n need : Int) (h : Ints W v l) (hl : l.length ≤ 101) (hn : I64 n) (hm : I64 need) :
    Calls Try.prog 13 #[v, .int .i64 n, .int .i64 need] W (Told W (drL l n need) (drE l n need)) := by
  have HI := Lib.hid h
  have HN := Lib.hid hn
  have hcn := cnt_le l
  have HLL := Lib.hid hl
  obtain ⟨m1, m2⟩ := hm
  by_cases hs : stAt l n = 1
  · have hk : 0 ≤ n ∧ n < l.length := by
      by_cases q : 0 ≤ n ∧ n < l.length
      · exact q
      · rw [stAt_out (by omega)] at hs; omega
    obtain ⟨k, rfl⟩ : ∃ k : Nat, n = k := ⟨n.toNat, by omega⟩
    by_cases hc : (cnt l : Int) - 1 < need
    · obtain ⟨e1, e2⟩ := drE_few hs hc
      rw [e1, e2]
      have d1 : decide ((cnt l : Int) - 1 < need) = true := by simpa using hc
      have HS := Lib.hid hs
      clear e1 e2 hs h hn hl
      go_enter Try.func13, Try.ntmps13
      go_wp2_with fail
      refine (ofC _ l k W HI.out HN.out).mono ?_
      rintro _ w1 ⟨rfl, rfl⟩
      rw [HS.out]
      go_wp2_with fail
      refine (inGoC _ l W HI.out HLL.out).mono ?_
      rintro _ w1 ⟨rfl, rfl⟩
      obtain ⟨c, hcc⟩ : ∃ c, cnt l = c := ⟨_, rfl⟩
      rw [hcc] at hcn hc d1 ⊢
      have hc101 : c ≤ 101 := Nat.le_trans hcn HLL.out
      clear hcn
      clear hcc
      go_wp2
      go_ret2
      exact told_nil _ _ (Below.refl _ _)
    · obtain ⟨e1, e2⟩ := drE_one (need := need) hs (by omega)
      rw [e1, e2]
      have d1 : decide ((cnt l : Int) - 1 < need) = false := by simpa using hc
      have HS := Lib.hid hs
      have HK := Lib.hid (show k < l.length by omega)
      clear e1 e2 hs h hn hl
      go_enter Try.func13, Try.ntmps13
      go_wp2_with fail
      refine (ofC _ l k W HI.out HN.out).mono ?_
      rintro _ w1 ⟨rfl, rfl⟩
      rw [HS.out]
      go_wp2_with fail
      refine (inGoC _ l W HI.out HLL.out).mono ?_
      rintro _ w1 ⟨rfl, rfl⟩
      obtain ⟨c, hcc⟩ : ∃ c, cnt l = c := ⟨_, rfl⟩
      rw [hcc] at hcn hc d1 ⊢
      have hc101 : c ≤ 101 := Nat.le_trans hcn HLL.out
      clear hcn
      clear hcc
      go_wp2_with fail
      refine (withC _ l k 2 W HI.out HLL.out HK.out ⟨by omega, by omega⟩).mono ?_
      rintro _ w1 ⟨u, rfl, hu, hb⟩
      have HT := Lib.hid (show Told W (l.set (k : Int).toNat 2) 0 (.returned (.tuple #[u, .int .i64 0])) w1 from ⟨u, rfl, hu, hb⟩)
      clear hu hb
      go_wp2
      go_ret2
      exact HT.out
  · obtain ⟨e1, e2⟩ := drE_none (need := need) hs
    rw [e1, e2]
    have d1 : (stAt l n == 1) = false := by simpa using hs
    have d2 : (stAt l n != 1) = true := by simpa using hs
    clear e1 e2 h hn hl
    go_enter Try.func13, Try.ntmps13
    go_wp2_with fail
    refine (ofC _ l n W HI.out HN.out).mono ?_
    rintro _ w1 ⟨rfl, rfl⟩
    obtain ⟨x, hx⟩ : ∃ x, stAt l n = x := ⟨_, rfl⟩
    rw [hx] at d1 d2 hs ⊢
    clear hx
    go_wp2
    go_ret2
    exact told_nil _ _ (Below.refl _ _)
set_option maxHeartbeats 1000000 in
theorem removeC (W : World) (v : Value) (l : List Int) (n : Int) (h : Ints W v l) (hl : l.length ≤ 101) (hn : I64 n) :
    Calls Try.prog 14 #[v, .int .i64 n] W (Told W (rmL l n) (rmE l n)) := by
  have HI := Lib.hid h
  have HN := Lib.hid hn
  have HLL := Lib.hid hl
  by_cases hs : stAt l n = 1
  · obtain ⟨e1, e2⟩ := rmE_in hs
    rw [e1, e2]
    have HS := Lib.hid hs
    clear e1 e2 hs h hn hl
    go_enter Try.func14, Try.ntmps14
    go_wp2_with fail
    refine (ofC _ l n W HI.out HN.out).mono ?_
    rintro _ w1 ⟨rfl, rfl⟩
    rw [HS.out]
    go_wp2
    go_ret2
    exact told_nil _ _ (Below.refl _ _)
  · by_cases hs2 : stAt l n = 2
    · have hk : 0 ≤ n ∧ n < l.length := by
        by_cases q : 0 ≤ n ∧ n < l.length
        · exact q
        · rw [stAt_out (by omega)] at hs2; omega
      obtain ⟨k, rfl⟩ : ∃ k : Nat, n = k := ⟨n.toNat, by omega⟩
      have HK := Lib.hid (show k < l.length by omega)
      obtain ⟨e1, e2⟩ := rmE_out hs2
      rw [e1, e2]
      have HS := Lib.hid hs2
      clear e1 e2 hs hs2 h hn hl
      go_enter Try.func14, Try.ntmps14
      go_wp2_with fail
      refine (ofC _ l k W HI.out HN.out).mono ?_
      rintro _ w1 ⟨rfl, rfl⟩
      rw [HS.out]
      go_wp2_with fail
      refine (withC _ l k 0 W HI.out HLL.out HK.out ⟨by omega, by omega⟩).mono ?_
      rintro _ w1 ⟨u, rfl, hu, hb⟩
      have HT := Lib.hid (show Told W (l.set (k : Int).toNat 0) 0 (.returned (.tuple #[u, .int .i64 0])) w1 from ⟨u, rfl, hu, hb⟩)
      clear hu hb
      go_wp2
      go_ret2
      exact HT.out
    · obtain ⟨e1, e2⟩ := rmE_none hs hs2
      rw [e1, e2]
      have d1 : (stAt l n == 1) = false := by simpa using hs
      have d2 : (stAt l n == 2) = false := by simpa using hs2
      clear e1 e2 h hn hl
      go_enter Try.func14, Try.ntmps14
      go_wp2_with fail
      refine (ofC _ l n W HI.out HN.out).mono ?_
      rintro _ w1 ⟨rfl, rfl⟩
      obtain ⟨x, hx⟩ : ∃ x, stAt l n = x := ⟨_, rfl⟩
      rw [hx] at d1 d2 hs hs2 ⊢
      clear hx
      go_wp2
      go_ret2
      exact told_nil _ _ (Below.refl _ _)
theorem epI : EpI :=
  ⟨fun W v l h hl => (inGoC v l W h hl).mono fun _ _ ⟨he, hw⟩ => ⟨he, by subst hw; exact Below.refl _ _⟩, joinC, drainC, removeC⟩
end Go.Proofs.Ytemafhpogkbbkaa.Epo
