/- Law MatUnit as a walk: products of three, and a unit. -/
import Derived.Test.YtnognnbelaflgaaMatLaws
import Derived.Test.YtnognnbelaflgaaInvMath
namespace Go.Proofs.Ytnognnbelaflgaa.Mat
open Go.ChangeShapes Go.WideShapes Go.ChangeAt Go.RowKit
open Go.Mem
open GfPlain Gf GfLin
theorem times_len (a b : List (List Nat)) : (times a b).length = a.length := tabOf_len _ _ _
theorem times_bd {a b : List (List Nat)} (ha : Byt a) : Byt (times a b) := byt_tab fun r _ c _ => dot_bd (row_bd ha r) c _
theorem can_intro {a b : List (List Nat)} (h1 : fitB a = true) (h2 : fitB b = true) (h3 : width a = b.length) : canTimes a b = true := by
  unfold canTimes; rw [h1, h2, h3]; simp
theorem tab_self {a : List (List Nat)} (h : fitB a = true) : tabOf a.length (width a) (entry a) = a := by
  obtain ⟨_, hw⟩ := fitB_iff.1 h
  refine List.ext_getElem (tabOf_len _ _ _) fun i hi hi' => ?_
  rw [tabOf_get]
  refine List.ext_getElem (by simp; exact (hw i hi' hi').symm) fun j hj hj' => ?_
  unfold entry
  simp [hi', hj']
theorem times_assoc {a b c : List (List Nat)} (ba : Byt a) (bb : Byt b) (bc : Byt c) (pb : 0 < b.length) (h1 : width b = c.length) : times (times a b) c = times a (times b c) := by
  unfold times
  rw [tabOf_len, width_tab pb]
  refine tab_ext fun r hr j hj => tg_inj (dot_bd (row_bd (times_bd (a := a) (b := b) ba) r) j _) (dot_bd (row_bd ba r) j _) ?_
  have bAB : Byt (tabOf a.length (width b) (prodF a b)) := times_bd ba
  have bBC : Byt (tabOf b.length (width c) (prodF b c)) := times_bd bb
  rw [times_entry bAB bc, times_entry ba bBC, tabOf_len]
  rw [S_congr (g := fun k => S b.length (fun i => tg (entry a r i) * tg (entry b i k) * tg (entry c k j))) (fun k hk => by
    rw [entry_tab hr (by omega), times_entry ba bb, S_rmul])]
  rw [S_comm]
  refine S_congr fun i hi => ?_
  rw [entry_tab hi hj, times_entry bb bc, S_mul]
  exact S_congr fun k _ => mulA' _ _ _
theorem unit_bd (n : Nat) : Byt (unitT n) := byt_tab fun r _ c _ => unitF_bd r c
theorem times_one {a : List (List Nat)} (ba : Byt a) (h : fitB a = true) : times (unitT a.length) a = a := by
  have e : times (unitT a.length) a = tabOf a.length (width a) (entry a) := by
    unfold times
    rw [show (unitT a.length).length = a.length from tabOf_len _ _ _]
    refine tab_ext fun r hr c hc => tg_inj (dot_bd (row_bd (unit_bd _) r) c _) (entry_bd ba r c) ?_
    rw [times_entry (unit_bd _) ba, S_one hr (fun i hi hne => by unfold unitT; rw [entry_tab hr hi, tg_unit, eye_off (fun q => hne q.symm), zmul])]
    unfold unitT
    rw [entry_tab hr hr, tg_unit, show eye r r = g1 from if_pos rfl, omul]
  rw [e, tab_self h]
set_option maxHeartbeats 1000000 in
theorem unit_s0 (a b c : List (List Nat)) (va vb vc : Value) (w : World) (ha : Tab w va a) (hb : Tab w vb b) (hc : Tab w vc c) (sa : smallB a = false) :
    Calls Try.prog 7 #[va, vb, vc] w fun e w' => e = .returned (.bool true) ∧ Below w.heap.size w w' := by
  obtain ⟨A, C, rfl, h1, h2, _⟩ := ha.shape
  obtain ⟨Ab, Cb, rfl, g1, g2, _⟩ := hb.shape
  obtain ⟨Ac, Cc, rfl, k1, k2, _⟩ := hc.shape
  go_enter Try.func7, Try.ntmps7
  go_wp2_with fail
  refine (smallC a _ _ ha).mono ?_; rintro e w' ⟨rfl, rfl⟩
  go_wp2_with fail
  refine (answersC _).mono ?_; rintro e w3 ⟨rfl, hb3⟩
  have hbb : Below w.heap.size w w3 := hb3
  go_wp2
  go_ret
  exact ⟨rfl, hbb⟩
set_option maxHeartbeats 1000000 in
theorem unit_s1 (a b c : List (List Nat)) (va vb vc : Value) (w : World) (ha : Tab w va a) (hb : Tab w vb b) (hc : Tab w vc c) (sa : smallB a = true) (sb : smallB b = false) :
    Calls Try.prog 7 #[va, vb, vc] w fun e w' => e = .returned (.bool true) ∧ Below w.heap.size w w' := by
  obtain ⟨A, C, rfl, h1, h2, _⟩ := ha.shape
  obtain ⟨Ab, Cb, rfl, g1, g2, _⟩ := hb.shape
  obtain ⟨Ac, Cc, rfl, k1, k2, _⟩ := hc.shape
  go_enter Try.func7, Try.ntmps7
  go_wp2_with fail
  refine (smallC a _ _ ha).mono ?_; rintro e w' ⟨rfl, rfl⟩
  go_wp2_with fail
  refine (smallC b _ _ hb).mono ?_; rintro e w' ⟨rfl, rfl⟩
  go_wp2_with fail
  refine (answersC _).mono ?_; rintro e w3 ⟨rfl, hb3⟩
  have hbb : Below w.heap.size w w3 := hb3
  go_wp2
  go_ret
  exact ⟨rfl, hbb⟩
set_option maxHeartbeats 1000000 in
theorem unit_s2 (a b c : List (List Nat)) (va vb vc : Value) (w : World) (ha : Tab w va a) (hb : Tab w vb b) (hc : Tab w vc c) (sa : smallB a = true) (sb : smallB b = true) (sc : smallB c = false) :
    Calls Try.prog 7 #[va, vb, vc] w fun e w' => e = .returned (.bool true) ∧ Below w.heap.size w w' := by
  obtain ⟨A, C, rfl, h1, h2, _⟩ := ha.shape
  obtain ⟨Ab, Cb, rfl, g1, g2, _⟩ := hb.shape
  obtain ⟨Ac, Cc, rfl, k1, k2, _⟩ := hc.shape
  go_enter Try.func7, Try.ntmps7
  go_wp2_with fail
  refine (smallC a _ _ ha).mono ?_; rintro e w' ⟨rfl, rfl⟩
  go_wp2_with fail
  refine (smallC b _ _ hb).mono ?_; rintro e w' ⟨rfl, rfl⟩
  go_wp2_with fail
  refine (smallC c _ _ hc).mono ?_; rintro e w' ⟨rfl, rfl⟩
  go_wp2_with fail
  refine (answersC _).mono ?_; rintro e w3 ⟨rfl, hb3⟩
  have hbb : Below w.heap.size w w3 := hb3
  go_wp2
  go_ret
  exact ⟨rfl, hbb⟩
set_option maxHeartbeats 1000000 in
theorem unit_f0 (a b c : List (List Nat)) (va vb vc : Value) (w : World) (ha : Tab w va a) (hb : Tab w vb b) (hc : Tab w vc c) (sa : smallB a = true) (sb : smallB b = true) (sc : smallB c = true) (fa : fitB a = false) :
    Calls Try.prog 7 #[va, vb, vc] w fun e w' => e = .returned (.bool true) ∧ Below w.heap.size w w' := by
  obtain ⟨A, C, rfl, h1, h2, _⟩ := ha.shape
  obtain ⟨Ab, Cb, rfl, g1, g2, _⟩ := hb.shape
  obtain ⟨Ac, Cc, rfl, k1, k2, _⟩ := hc.shape
  go_enter Try.func7, Try.ntmps7
  go_wp2_with fail
  refine (smallC a _ _ ha).mono ?_; rintro e w' ⟨rfl, rfl⟩
  go_wp2_with fail
  refine (smallC b _ _ hb).mono ?_; rintro e w' ⟨rfl, rfl⟩
  go_wp2_with fail
  refine (smallC c _ _ hc).mono ?_; rintro e w' ⟨rfl, rfl⟩
  go_wp2_with fail
  refine (fitC a _ _ ha).mono ?_; rintro e w' ⟨rfl, n0, rfl⟩
  go_wp2_with fail
  refine (answersC _).mono ?_; rintro e w3 ⟨rfl, hb3⟩
  have hbb : Below w.heap.size w w3 := (below_drewN _ _ _).trans hb3
  go_wp2
  go_ret
  exact ⟨rfl, hbb⟩
set_option maxHeartbeats 1000000 in
theorem unit_f1 (a b c : List (List Nat)) (va vb vc : Value) (w : World) (ha : Tab w va a) (hb : Tab w vb b) (hc : Tab w vc c) (sa : smallB a = true) (sb : smallB b = true) (sc : smallB c = true) (fa : fitB a = true) (fb : fitB b = false) :
    Calls Try.prog 7 #[va, vb, vc] w fun e w' => e = .returned (.bool true) ∧ Below w.heap.size w w' := by
  obtain ⟨A, C, rfl, h1, h2, _⟩ := ha.shape
  obtain ⟨Ab, Cb, rfl, g1, g2, _⟩ := hb.shape
  obtain ⟨Ac, Cc, rfl, k1, k2, _⟩ := hc.shape
  go_enter Try.func7, Try.ntmps7
  go_wp2_with fail
  refine (smallC a _ _ ha).mono ?_; rintro e w' ⟨rfl, rfl⟩
  go_wp2_with fail
  refine (smallC b _ _ hb).mono ?_; rintro e w' ⟨rfl, rfl⟩
  go_wp2_with fail
  refine (smallC c _ _ hc).mono ?_; rintro e w' ⟨rfl, rfl⟩
  go_wp2_with fail
  refine (fitC a _ _ ha).mono ?_; rintro e w' ⟨rfl, n0, rfl⟩
  go_wp2_with fail
  refine (fitC b _ _ (hb.drewN _)).mono ?_; rintro e w' ⟨rfl, n1, rfl⟩
  go_wp2_with fail
  refine (answersC _).mono ?_; rintro e w3 ⟨rfl, hb3⟩
  have hbb : Below w.heap.size w w3 := (below_drewN _ _ _).trans hb3
  go_wp2
  go_ret
  exact ⟨rfl, hbb⟩
set_option maxHeartbeats 1000000 in
theorem unit_f2 (a b c : List (List Nat)) (va vb vc : Value) (w : World) (ha : Tab w va a) (hb : Tab w vb b) (hc : Tab w vc c) (sa : smallB a = true) (sb : smallB b = true) (sc : smallB c = true) (fa : fitB a = true) (fb : fitB b = true) (fc : fitB c = false) :
    Calls Try.prog 7 #[va, vb, vc] w fun e w' => e = .returned (.bool true) ∧ Below w.heap.size w w' := by
  obtain ⟨A, C, rfl, h1, h2, _⟩ := ha.shape
  obtain ⟨Ab, Cb, rfl, g1, g2, _⟩ := hb.shape
  obtain ⟨Ac, Cc, rfl, k1, k2, _⟩ := hc.shape
  go_enter Try.func7, Try.ntmps7
  go_wp2_with fail
  refine (smallC a _ _ ha).mono ?_; rintro e w' ⟨rfl, rfl⟩
  go_wp2_with fail
  refine (smallC b _ _ hb).mono ?_; rintro e w' ⟨rfl, rfl⟩
  go_wp2_with fail
  refine (smallC c _ _ hc).mono ?_; rintro e w' ⟨rfl, rfl⟩
  go_wp2_with fail
  refine (fitC a _ _ ha).mono ?_; rintro e w' ⟨rfl, n0, rfl⟩
  go_wp2_with fail
  refine (fitC b _ _ (hb.drewN _)).mono ?_; rintro e w' ⟨rfl, n1, rfl⟩
  go_wp2_with fail
  refine (fitC c _ _ (hc.drewN _)).mono ?_; rintro e w' ⟨rfl, n2, rfl⟩
  go_wp2_with fail
  refine (answersC _).mono ?_; rintro e w3 ⟨rfl, hb3⟩
  have hbb : Below w.heap.size w w3 := (below_drewN _ _ _).trans hb3
  go_wp2
  go_ret
  exact ⟨rfl, hbb⟩
set_option maxHeartbeats 1000000 in
theorem unit_w0 (a b c : List (List Nat)) (va vb vc : Value) (w : World) (ha : Tab w va a) (hb : Tab w vb b) (hc : Tab w vc c) (sa : smallB a = true) (sb : smallB b = true) (sc : smallB c = true) (fa : fitB a = true) (fb : fitB b = true) (fc : fitB c = true) (hw : ¬ width a = b.length) :
    Calls Try.prog 7 #[va, vb, vc] w fun e w' => e = .returned (.bool true) ∧ Below w.heap.size w w' := by
  obtain ⟨A, C, rfl, h1, h2, _⟩ := ha.shape
  obtain ⟨Ab, Cb, rfl, g1, g2, _⟩ := hb.shape
  obtain ⟨Ac, Cc, rfl, k1, k2, _⟩ := hc.shape
  have pa := (fitB_iff.1 fa).1
  have pb := (fitB_iff.1 fb).1
  have hpa : (0 : Int) < a.length := by omega
  have hpb : (0 : Int) < b.length := by omega
  obtain ⟨ba, oa, Aa, Ca, rfl, hcaw, hma, _⟩ := ha.at pa
  rw [← width_get pa, Nat.add_zero] at hcaw
  rw [← width_get pa] at hma
  obtain ⟨bb, ob, Abb, Cbb, rfl, hcbw, hmb, _⟩ := hb.at pb
  rw [← width_get pb, Nat.add_zero] at hcbw
  rw [← width_get pb] at hmb
  have q1 : ((width a : Int) != (b.length : Int)) = true := by rw [bne_iff_ne]; omega
  clear hw
  go_enter Try.func7, Try.ntmps7
  go_wp2_with fail
  refine (smallC a _ _ ha).mono ?_; rintro e w' ⟨rfl, rfl⟩
  go_wp2_with fail
  refine (smallC b _ _ hb).mono ?_; rintro e w' ⟨rfl, rfl⟩
  go_wp2_with fail
  refine (smallC c _ _ hc).mono ?_; rintro e w' ⟨rfl, rfl⟩
  go_wp2_with fail
  refine (fitC a _ _ ha).mono ?_; rintro e w' ⟨rfl, n0, rfl⟩
  go_wp2_with fail
  refine (fitC b _ _ (hb.drewN _)).mono ?_; rintro e w' ⟨rfl, n1, rfl⟩
  go_wp2_with fail
  refine (fitC c _ _ (hc.drewN _)).mono ?_; rintro e w' ⟨rfl, n2, rfl⟩
  go_wp2_with fail
  refine (answersC _).mono ?_; rintro e w3 ⟨rfl, hb3⟩
  have hbb : Below w.heap.size w w3 := (below_drewN _ _ _).trans hb3
  go_wp2
  go_ret
  exact ⟨rfl, hbb⟩
set_option maxHeartbeats 1000000 in
theorem unit_w1 (a b c : List (List Nat)) (va vb vc : Value) (w : World) (ha : Tab w va a) (hb : Tab w vb b) (hc : Tab w vc c) (sa : smallB a = true) (sb : smallB b = true) (sc : smallB c = true) (fa : fitB a = true) (fb : fitB b = true) (fc : fitB c = true) (hw1 : width a = b.length) (hw : ¬ width b = c.length) :
    Calls Try.prog 7 #[va, vb, vc] w fun e w' => e = .returned (.bool true) ∧ Below w.heap.size w w' := by
  obtain ⟨A, C, rfl, h1, h2, _⟩ := ha.shape
  obtain ⟨Ab, Cb, rfl, g1, g2, _⟩ := hb.shape
  obtain ⟨Ac, Cc, rfl, k1, k2, _⟩ := hc.shape
  have pa := (fitB_iff.1 fa).1
  have pb := (fitB_iff.1 fb).1
  have hpa : (0 : Int) < a.length := by omega
  have hpb : (0 : Int) < b.length := by omega
  obtain ⟨ba, oa, Aa, Ca, rfl, hcaw, hma, _⟩ := ha.at pa
  rw [← width_get pa, Nat.add_zero] at hcaw
  rw [← width_get pa] at hma
  obtain ⟨bb, ob, Abb, Cbb, rfl, hcbw, hmb, _⟩ := hb.at pb
  rw [← width_get pb, Nat.add_zero] at hcbw
  rw [← width_get pb] at hmb
  have q1 : ((width a : Int) != (b.length : Int)) = false := by rw [hw1]; simp
  have q2 : ((width b : Int) != (c.length : Int)) = true := by rw [bne_iff_ne]; omega
  clear hw hw1
  go_enter Try.func7, Try.ntmps7
  go_wp2_with fail
  refine (smallC a _ _ ha).mono ?_; rintro e w' ⟨rfl, rfl⟩
  go_wp2_with fail
  refine (smallC b _ _ hb).mono ?_; rintro e w' ⟨rfl, rfl⟩
  go_wp2_with fail
  refine (smallC c _ _ hc).mono ?_; rintro e w' ⟨rfl, rfl⟩
  go_wp2_with fail
  refine (fitC a _ _ ha).mono ?_; rintro e w' ⟨rfl, n0, rfl⟩
  go_wp2_with fail
  refine (fitC b _ _ (hb.drewN _)).mono ?_; rintro e w' ⟨rfl, n1, rfl⟩
  go_wp2_with fail
  refine (fitC c _ _ (hc.drewN _)).mono ?_; rintro e w' ⟨rfl, n2, rfl⟩
  go_wp2_with fail
  refine (answersC _).mono ?_; rintro e w3 ⟨rfl, hb3⟩
  have hbb : Below w.heap.size w w3 := (below_drewN _ _ _).trans hb3
  go_wp2
  go_ret
  exact ⟨rfl, hbb⟩
set_option maxHeartbeats 1000000 in
theorem unit_w2 (a b c : List (List Nat)) (va vb vc : Value) (w : World) (ha : Tab w va a) (hb : Tab w vb b) (hc : Tab w vc c) (sa : smallB a = true) (sb : smallB b = true) (sc : smallB c = true) (fa : fitB a = true) (fb : fitB b = true) (fc : fitB c = true) (hw1 : width a = b.length) (hw2 : width b = c.length) (hw : width a = 0) :
    Calls Try.prog 7 #[va, vb, vc] w fun e w' => e = .returned (.bool true) ∧ Below w.heap.size w w' := by
  obtain ⟨A, C, rfl, h1, h2, _⟩ := ha.shape
  obtain ⟨Ab, Cb, rfl, g1, g2, _⟩ := hb.shape
  obtain ⟨Ac, Cc, rfl, k1, k2, _⟩ := hc.shape
  have pa := (fitB_iff.1 fa).1
  have pb := (fitB_iff.1 fb).1
  have hpa : (0 : Int) < a.length := by omega
  have hpb : (0 : Int) < b.length := by omega
  obtain ⟨ba, oa, Aa, Ca, rfl, hcaw, hma, _⟩ := ha.at pa
  rw [← width_get pa, Nat.add_zero] at hcaw
  rw [← width_get pa] at hma
  obtain ⟨bb, ob, Abb, Cbb, rfl, hcbw, hmb, _⟩ := hb.at pb
  rw [← width_get pb, Nat.add_zero] at hcbw
  rw [← width_get pb] at hmb
  have q1 : ((width a : Int) != (b.length : Int)) = false := by rw [hw1]; simp
  have q2 : ((width b : Int) != (c.length : Int)) = false := by rw [hw2]; simp
  have q3 : ((width a : Int) == 0) = true := by rw [hw]; rfl
  clear hw hw1 hw2
  go_enter Try.func7, Try.ntmps7
  go_wp2_with fail
  refine (smallC a _ _ ha).mono ?_; rintro e w' ⟨rfl, rfl⟩
  go_wp2_with fail
  refine (smallC b _ _ hb).mono ?_; rintro e w' ⟨rfl, rfl⟩
  go_wp2_with fail
  refine (smallC c _ _ hc).mono ?_; rintro e w' ⟨rfl, rfl⟩
  go_wp2_with fail
  refine (fitC a _ _ ha).mono ?_; rintro e w' ⟨rfl, n0, rfl⟩
  go_wp2_with fail
  refine (fitC b _ _ (hb.drewN _)).mono ?_; rintro e w' ⟨rfl, n1, rfl⟩
  go_wp2_with fail
  refine (fitC c _ _ (hc.drewN _)).mono ?_; rintro e w' ⟨rfl, n2, rfl⟩
  go_wp2_with fail
  refine (answersC _).mono ?_; rintro e w3 ⟨rfl, hb3⟩
  have hbb : Below w.heap.size w w3 := (below_drewN _ _ _).trans hb3
  go_wp2
  go_ret
  exact ⟨rfl, hbb⟩
set_option maxHeartbeats 1000000 in
theorem unit_w3 (a b c : List (List Nat)) (va vb vc : Value) (w : World) (ha : Tab w va a) (hb : Tab w vb b) (hc : Tab w vc c) (sa : smallB a = true) (sb : smallB b = true) (sc : smallB c = true) (fa : fitB a = true) (fb : fitB b = true) (fc : fitB c = true) (hw1 : width a = b.length) (hw2 : width b = c.length) (_hw3 : ¬ width a = 0) (hw : width b = 0) :
    Calls Try.prog 7 #[va, vb, vc] w fun e w' => e = .returned (.bool true) ∧ Below w.heap.size w w' := by
  obtain ⟨A, C, rfl, h1, h2, _⟩ := ha.shape
  obtain ⟨Ab, Cb, rfl, g1, g2, _⟩ := hb.shape
  obtain ⟨Ac, Cc, rfl, k1, k2, _⟩ := hc.shape
  have pa := (fitB_iff.1 fa).1
  have pb := (fitB_iff.1 fb).1
  have hpa : (0 : Int) < a.length := by omega
  have hpb : (0 : Int) < b.length := by omega
  obtain ⟨ba, oa, Aa, Ca, rfl, hcaw, hma, _⟩ := ha.at pa
  rw [← width_get pa, Nat.add_zero] at hcaw
  rw [← width_get pa] at hma
  obtain ⟨bb, ob, Abb, Cbb, rfl, hcbw, hmb, _⟩ := hb.at pb
  rw [← width_get pb, Nat.add_zero] at hcbw
  rw [← width_get pb] at hmb
  have q1 : ((width a : Int) != (b.length : Int)) = false := by rw [hw1]; simp
  have q2 : ((width b : Int) != (c.length : Int)) = false := by rw [hw2]; simp
  have q3 : ((width a : Int) == 0) = false := by rw [beq_eq_false_iff_ne]; omega
  have q4 : ((width b : Int) == 0) = true := by rw [hw]; rfl
  clear hw hw1 hw2 _hw3
  go_enter Try.func7, Try.ntmps7
  go_wp2_with fail
  refine (smallC a _ _ ha).mono ?_; rintro e w' ⟨rfl, rfl⟩
  go_wp2_with fail
  refine (smallC b _ _ hb).mono ?_; rintro e w' ⟨rfl, rfl⟩
  go_wp2_with fail
  refine (smallC c _ _ hc).mono ?_; rintro e w' ⟨rfl, rfl⟩
  go_wp2_with fail
  refine (fitC a _ _ ha).mono ?_; rintro e w' ⟨rfl, n0, rfl⟩
  go_wp2_with fail
  refine (fitC b _ _ (hb.drewN _)).mono ?_; rintro e w' ⟨rfl, n1, rfl⟩
  go_wp2_with fail
  refine (fitC c _ _ (hc.drewN _)).mono ?_; rintro e w' ⟨rfl, n2, rfl⟩
  go_wp2_with fail
  refine (answersC _).mono ?_; rintro e w3 ⟨rfl, hb3⟩
  have hbb : Below w.heap.size w w3 := (below_drewN _ _ _).trans hb3
  go_wp2
  go_ret
  exact ⟨rfl, hbb⟩
set_option maxHeartbeats 1000000 in
theorem unit_all (a b c : List (List Nat)) (va vb vc : Value) (w : World) (ha : Tab w va a) (hb : Tab w vb b) (hc : Tab w vc c) (sa : smallB a = true) (sb : smallB b = true) (sc : smallB c = true) (fa : fitB a = true) (fb : fitB b = true) (fc : fitB c = true) (hw1 : width a = b.length) (hw2 : width b = c.length) (_hw3 : ¬ width a = 0) (hw4 : ¬ width b = 0) :
    Calls Try.prog 7 #[va, vb, vc] w fun e w' => e = .returned (.bool true) ∧ Below w.heap.size w w' := by
  obtain ⟨A, C, rfl, h1, h2, _⟩ := ha.shape
  obtain ⟨Ab, Cb, rfl, g1, g2, _⟩ := hb.shape
  obtain ⟨Ac, Cc, rfl, k1, k2, _⟩ := hc.shape
  have pa := (fitB_iff.1 fa).1
  have pb := (fitB_iff.1 fb).1
  have hpa : (0 : Int) < a.length := by omega
  have hpb : (0 : Int) < b.length := by omega
  obtain ⟨ba, oa, Aa, Ca, rfl, hcaw, hma, _⟩ := ha.at pa
  rw [← width_get pa, Nat.add_zero] at hcaw
  rw [← width_get pa] at hma
  obtain ⟨bb, ob, Abb, Cbb, rfl, hcbw, hmb, _⟩ := hb.at pb
  rw [← width_get pb, Nat.add_zero] at hcbw
  rw [← width_get pb] at hmb
  have q1 : ((width a : Int) != (b.length : Int)) = false := by rw [hw1]; simp
  have q2 : ((width b : Int) != (c.length : Int)) = false := by rw [hw2]; simp
  have q3 : ((width a : Int) == 0) = false := by rw [beq_eq_false_iff_ne]; omega
  have q4 : ((width b : Int) == 0) = false := by rw [beq_eq_false_iff_ne]; omega
  have la := small_len sa
  have lb := small_len sb
  have lc := small_len sc
  have ba' := Tab_bd ha
  have bb' := Tab_bd hb
  have bc' := Tab_bd hc
  have X1 := Lib.hid (can_intro fa fb hw1)
  have X2 := Lib.hid (can_intro (a := times a b) (fit_tab pa) fc ((width_tab pa).trans hw2))
  have X3 := Lib.hid (can_intro fb fc hw2)
  have X4 := Lib.hid (can_intro (b := times b c) fa (fit_tab pb) (hw1.trans (times_len b c).symm))
  have X5 := Lib.hid (can_intro (a := unitT a.length) (fit_tab pa) fa (width_tab pa))
  have Y1 := Lib.hid (show (times a b).length ≤ 4294967296 by rw [times_len]; omega)
  have Y2 := Lib.hid (show width (times b c) ≤ 4294967296 by rw [show width (times b c) = width c from width_tab pb]; omega)
  have Y3 := Lib.hid (show (unitT a.length).length ≤ 4294967296 by rw [show (unitT a.length).length = a.length from tabOf_len _ _ _]; omega)
  have R1 : rowsB (times (times a b) c) (times a (times b c)) = true := decide_eq_true (times_assoc ba' bb' bc' pb hw2)
  have R2 : rowsB (times (unitT a.length) a) a = true := decide_eq_true (times_one ba' fa)
  clear hw1 hw2 _hw3 hw4 ba' bb' bc'
  go_enter Try.func7, Try.ntmps7
  go_wp2_with fail
  refine (smallC a _ _ ha).mono ?_; rintro e w' ⟨rfl, rfl⟩
  go_wp2_with fail
  refine (smallC b _ _ hb).mono ?_; rintro e w' ⟨rfl, rfl⟩
  go_wp2_with fail
  refine (smallC c _ _ hc).mono ?_; rintro e w' ⟨rfl, rfl⟩
  go_wp2_with fail
  refine (fitC a _ _ ha).mono ?_; rintro e w' ⟨rfl, n0, rfl⟩
  go_wp2_with fail
  refine (fitC b _ _ (hb.drewN _)).mono ?_; rintro e w' ⟨rfl, n1, rfl⟩
  go_wp2_with fail
  refine (fitC c _ _ (hc.drewN _)).mono ?_; rintro e w' ⟨rfl, n2, rfl⟩
  have d0 := below_drewN w.heap.size w (n0 + n1 + n2)
  have ha0 := ha.drewN (n0 + n1 + n2)
  have hb0 := hb.drewN (n0 + n1 + n2)
  have hc0 := hc.drewN (n0 + n1 + n2)
  go_wp2_with fail
  refine (timesOk a b _ _ _ ha0 hb0 X1.out (by omega) (by omega)).mono ?_; rintro e w1 ⟨x, rfl, tx, b1⟩
  have d1 := d0.trans (b1.mono (Nat.le_refl _))
  have hc1 := hc0.below b1
  go_wp2_with fail
  refine (timesOk (times a b) c _ _ _ tx hc1 X2.out Y1.out (by omega)).mono ?_; rintro e w2 ⟨y, rfl, ty, b2⟩
  have d2 := d1.trans (b2.mono d1.size)
  go_wp2_with fail
  refine (timesOk b c _ _ _ ((hb0.below b1).below b2) (hc1.below b2) X3.out (by omega) (by omega)).mono ?_; rintro e w3 ⟨z, rfl, tz, b3⟩
  have d3 := d2.trans (b3.mono d2.size)
  have ha3 := ((ha0.below b1).below b2).below b3
  go_wp2_with fail
  refine (timesOk a (times b c) _ _ _ ha3 tz X4.out (by omega) Y2.out).mono ?_; rintro e w4 ⟨v, rfl, tv, b4⟩
  have d4 := d3.trans (b4.mono d3.size)
  go_wp2_with fail
  refine (refUnit a.length _ (by omega)).mono ?_; rintro e w5 ⟨u, rfl, tu, b5⟩
  have d5 := d4.trans (b5.mono d4.size)
  have ha5 := (ha3.below b4).below b5
  go_wp2_with fail
  refine (timesOk (unitT a.length) a _ _ _ tu.slice ha5 X5.out Y3.out (by omega)).mono ?_; rintro e w6 ⟨u6, rfl, tu6, b6⟩
  have d6 := d5.trans (b6.mono d5.size)
  go_wp2_with fail
  refine (answersC _).mono ?_; rintro e w7 ⟨rfl, b7⟩
  have d7 := d6.trans (b7.mono d6.size)
  have ty7 := ((((ty.below b3).below b4).below b5).below b6).below b7
  have tv7 := ((tv.below b5).below b6).below b7
  go_wp2_with fail
  refine (rowsC _ _ _ _ _ ty7 tv7).mono ?_; rintro e w' ⟨rfl, n8, rfl⟩
  go_wp2_with fail
  refine (rowsC _ _ _ _ _ ((tu6.below b7).drewN n8) (((ha5.below b6).below b7).drewN n8)).mono ?_; rintro e w' ⟨rfl, n9, rfl⟩
  have d9 : Below w.heap.size w (w7.drewN (n8 + n9)) := d7.trans (below_drewN _ _ _)
  go_wp2
  go_ret
  exact ⟨rfl, d9⟩
theorem MatUnitC (a b c : List (List Nat)) (va vb vc : Value) (w : World) (ha : Tab w va a) (hb : Tab w vb b) (hc : Tab w vc c) :
    Calls Try.prog 7 #[va, vb, vc] w fun e w' => e = .returned (.bool true) ∧ Below w.heap.size w w' := by
  cases sa : smallB a
  · exact unit_s0 a b c va vb vc w ha hb hc sa
  cases sb : smallB b
  · exact unit_s1 a b c va vb vc w ha hb hc sa sb
  cases sc : smallB c
  · exact unit_s2 a b c va vb vc w ha hb hc sa sb sc
  cases fa : fitB a
  · exact unit_f0 a b c va vb vc w ha hb hc sa sb sc fa
  cases fb : fitB b
  · exact unit_f1 a b c va vb vc w ha hb hc sa sb sc fa fb
  cases fc : fitB c
  · exact unit_f2 a b c va vb vc w ha hb hc sa sb sc fa fb fc
  by_cases hw1 : width a = b.length
  · by_cases hw2 : width b = c.length
    · by_cases hw3 : width a = 0
      · exact unit_w2 a b c va vb vc w ha hb hc sa sb sc fa fb fc hw1 hw2 hw3
      · by_cases hw4 : width b = 0
        · exact unit_w3 a b c va vb vc w ha hb hc sa sb sc fa fb fc hw1 hw2 hw3 hw4
        · exact unit_all a b c va vb vc w ha hb hc sa sb sc fa fb fc hw1 hw2 hw3 hw4
    · exact unit_w1 a b c va vb vc w ha hb hc sa sb sc fa fb fc hw1 hw2
  · exact unit_w0 a b c va vb vc w ha hb hc sa sb sc fa fb fc hw1
end Go.Proofs.Ytnognnbelaflgaa.Mat
