/- LinearStale: a Get that begins behind the end of a Put of its key does not answer what was there ahead of it. -/
import Derived.Test.YtkibnpienbchaaaLnAns
import Derived.Test.YtkibnpienbchaaaSame
namespace Go.Proofs.Ytkibnpienbchaaa.Lnr
set_option linter.unusedVariables false
open Go.ChangeShapes Go.WideShapes Go.ChangeAt Go.RowKit
open Go.Mem Ln
theorem boxed (w : World) (x : Cl) (K : Nat) (h : w.heap.size = K) : ∃ w', w.alloc (.cells (boxOf x) TCall) = w' ∧ w'.heap.size = K + 1 ∧ w'.rowIs K TCall 10 (fun j => (boxOf x).getD j undef) ∧ Below w.heap.size w w' :=
  ⟨_, rfl, by simp [h], by rw [← h]; exact box_row w x, alB _ _⟩
theorem drew_size (w : World) (n : Nat) : (w.drewN n).heap.size = w.heap.size := rfl
theorem in_of {c : Cl} (h1 : c.fr ≤ c.mo) (h2 : c.mo ≤ c.to) : inIt c = true := by unfold inIt; simp [h1, h2]
theorem goes_step (m : Mp) (c : Cl) (S : List Cl) (h : inIt c = true) (h2 : does m c = true) : goes m (c :: S) = goes (next m c) S := by
  show (inIt c && does m c && goes (next m c) S) = _
  rw [h, h2]; rfl
theorem goes_stop (m : Mp) (c : Cl) (S : List Cl) (h2 : does m c = false) : goes m (c :: S) = false := by
  show (inIt c && does m c && goes (next m c) S) = _
  rw [h2]; simp
section
variable (m : Mp) (d : List Nat) (A : Option Addr) (C : Nat) (f t o : Int)
theorem put_does : does m (cPut d A C f t o) = true := if_pos rfl
theorem put_next : next m (cPut d A C f t o) = put m (cPut d A C f t o) := by
  unfold next
  rw [if_pos (show (cPut d A C f t o).op = 1 from rfl), if_pos (show (cPut d A C f t o).e = 0 from rfl)]
theorem get_next : next m (cGet d A C f t o) = m := by
  unfold next
  rw [if_neg (show ¬ (cGet d A C f t o).op = 1 by show ¬ (2 : Int) = 1; omega)]
theorem get_does (ht : t ≠ 0) {x : Cl} (hx : m kK = some x) : does m (cGet d A C f t o) = decide (d = x.data) := by
  unfold does
  rw [if_neg (show ¬ (cGet d A C f t o).op = 1 by show ¬ (2 : Int) = 1; omega), decide_eq_false (show ¬ (cGet d A C f t o).to = 0 from ht), Bool.false_or]
  unfold got
  rw [if_pos (show (cGet d A C f t o).e = 0 from rfl), show m (cGet d A C f t o).key = some x from hx]
  rfl
theorem put_kK : put m (cPut d A C f t o) kK = some (cPut d A C f t o) := if_pos rfl
end
theorem stale1 (a b : List Nat) (h : a ≠ b) (A B : Option Addr) (C D : Nat) (z : Int) (hz0 : 0 ≤ z) : goes noMap [cPut a A C 1 2 2, cPut b B D 3 4 4, cGet a A C (z + 5) (z + 5 + 1) (z + 5)] = false := by
  rw [goes_step _ _ _ (in_of (show (1 : Int) ≤ 2 by omega) (show (2 : Int) ≤ 2 by omega)) (put_does _ _ _ _ _ _ _), goes_step _ _ _ (in_of (show (3 : Int) ≤ 4 by omega) (show (4 : Int) ≤ 4 by omega)) (put_does _ _ _ _ _ _ _), put_next, put_next]
  exact goes_stop _ _ _ ((get_does _ _ _ _ _ _ _ (by omega) (put_kK _ _ _ _ _ _ _)).trans (decide_eq_false h))
theorem stale2 (a b : List Nat) (A B : Option Addr) (C D : Nat) (z : Int) (hz0 : 0 ≤ z) : goes noMap [cPut a A C 1 2 2, cPut b B D 3 4 4, cGet b B D (z + 5) (z + 5 + 1) (z + 5)] = true := by
  rw [goes_step _ _ _ (in_of (show (1 : Int) ≤ 2 by omega) (show (2 : Int) ≤ 2 by omega)) (put_does _ _ _ _ _ _ _), goes_step _ _ _ (in_of (show (3 : Int) ≤ 4 by omega) (show (4 : Int) ≤ 4 by omega)) (put_does _ _ _ _ _ _ _), put_next, put_next]
  rw [goes_step _ _ _ (in_of (show z + 5 ≤ z + 5 by omega) (show z + 5 ≤ z + 5 + 1 by omega)) ((get_does _ b _ _ _ _ _ (by omega) (put_kK _ b _ _ _ _ _)).trans (decide_eq_true rfl))]
  rfl
theorem stale3 (a b : List Nat) (A B : Option Addr) (C D : Nat) (z : Int) (hz0 : 0 ≤ z) : goes noMap [cPut a A C 1 2 2, cGet a A C 2 (z + 5 + 1) 3, cPut b B D 3 4 4] = true := by
  rw [goes_step _ _ _ (in_of (show (1 : Int) ≤ 2 by omega) (show (2 : Int) ≤ 2 by omega)) (put_does _ _ _ _ _ _ _), put_next]
  rw [goes_step _ _ _ (in_of (show (2 : Int) ≤ 3 by omega) (show 3 ≤ z + 5 + 1 by omega)) ((get_does _ a _ _ _ _ _ (by omega) (put_kK _ a _ _ _ _ _)).trans (decide_eq_true rfl)), get_next]
  rw [goes_step _ _ _ (in_of (show (3 : Int) ≤ 4 by omega) (show (4 : Int) ≤ 4 by omega)) (put_does _ _ _ _ _ _ _)]
  rfl
set_option maxRecDepth 100000 in
set_option maxHeartbeats 8000000 in
theorem staleMain {W : World} {a b : List Nat} {A B : Option Addr} {C D : Nat} (ha : Bytes W (.slice A a.length C) a) (hb : Bytes W (.slice B b.length D) b) (hne : a ≠ b) (hla : a.length ≤ 100) (hlb : b.length ≤ 100) (z : Int) (hz0 : 0 ≤ z) (hz1 : z ≤ 255) :
    Calls Try.prog 5 #[.slice A a.length C, .slice B b.length D, .int .u8 z] W fun e w' => e = .returned (.bool true) ∧ Below W.heap.size W w' := by
  obtain ⟨K, hK⟩ : ∃ K, W.heap.size = K := ⟨_, rfl⟩
  have HSM := Lib.hid (Same.sameC a b _ _ W ha hb)
  have hsb : Same.sameB a b = false := decide_eq_false hne
  rw [hsb] at HSM
  have HA := Lib.hid ha
  have HB := Lib.hid hb
  have HNE := Lib.hid hne
  have HKE := Lib.hid hK
  obtain ⟨na, hna⟩ : ∃ n, a.length = n := ⟨_, rfl⟩
  obtain ⟨nb, hnb⟩ : ∃ n, b.length = n := ⟨_, rfl⟩
  have HNA := Lib.hid hna
  have HNB := Lib.hid hnb
  rw [hna] at HSM hla ⊢
  rw [hnb] at HSM hlb ⊢
  have qa : ¬ (100 : Int) < (na : Int) := by omega
  have qb : ¬ (100 : Int) < (nb : Int) := by omega
  clear ha hb hne hK hsb hna hnb
  go_enter Try.func5, Try.ntmps5
  go_wp2_with fail
  refine HSM.out.mono ?_
  rintro _ W0 ⟨rfl, n0, hn0⟩
  have hs0 : W0.heap.size = K := by rw [hn0, drew_size]; exact HKE.out
  have hb0 : Below K W W0 := by rw [hn0, ← HKE.out]; exact Go.Mem.below_drewN _ _ _
  have ha0 : Bytes W0 (.slice A a.length C) a := HA.out.below (by rw [HKE.out]; exact hb0)
  have hbb0 : Bytes W0 (.slice B b.length D) b := HB.out.below (by rw [HKE.out]; exact hb0)
  clear hn0
  obtain ⟨x, hx⟩ : ∃ x, cPut a A C 1 2 2 = x := ⟨_, rfl⟩
  have hXx : boxOf x = #[.int .i64 0, .int .i64 1, .string ⟨#[107]⟩, .slice A na C, .int .i64 1, .int .i64 2, .int .i64 2, .int .i64 0, .slice none 0 0, .slice none 0 0] := by rw [← hx, ← HNA.out]; rfl
  obtain ⟨w1, hw1, hs1, hr1, hb1⟩ := boxed W0 x _ hs0
  rw [hXx] at hw1
  obtain ⟨y, hy⟩ : ∃ y, cPut b B D 3 4 4 = y := ⟨_, rfl⟩
  have hXy : boxOf y = #[.int .i64 0, .int .i64 1, .string ⟨#[107]⟩, .slice B nb D, .int .i64 3, .int .i64 4, .int .i64 4, .int .i64 0, .slice none 0 0, .slice none 0 0] := by rw [← hy, ← HNB.out]; rfl
  obtain ⟨w2, hw2, hs2, hr2, hb2⟩ := boxed w1 y _ hs1
  rw [hXy] at hw2
  obtain ⟨t, ht⟩ : ∃ t, cGet a A C (z + 5) (z + 5 + 1) (z + 5) = t := ⟨_, rfl⟩
  have hXt : boxOf t = #[.int .i64 0, .int .i64 2, .string ⟨#[107]⟩, .slice none 0 0, .int .i64 (z + 5), .int .i64 (z + 5 + 1), .int .i64 (z + 5), .int .i64 0, .slice A na C, .slice none 0 0] := by rw [← ht, ← HNA.out]; rfl
  obtain ⟨w3, hw3, hs3, hr3, hb3⟩ := boxed w2 t _ hs2
  rw [hXt] at hw3
  obtain ⟨u, hu⟩ : ∃ u, cGet b B D (z + 5) (z + 5 + 1) (z + 5) = u := ⟨_, rfl⟩
  have hXu : boxOf u = #[.int .i64 0, .int .i64 2, .string ⟨#[107]⟩, .slice none 0 0, .int .i64 (z + 5), .int .i64 (z + 5 + 1), .int .i64 (z + 5), .int .i64 0, .slice B nb D, .slice none 0 0] := by rw [← hu, ← HNB.out]; rfl
  obtain ⟨w4, hw4, hs4, hr4, hb4⟩ := boxed w3 u _ hs3
  rw [hXu] at hw4
  obtain ⟨v, hv⟩ : ∃ v, cGet a A C 2 (z + 5 + 1) 3 = v := ⟨_, rfl⟩
  have hXv : boxOf v = #[.int .i64 0, .int .i64 2, .string ⟨#[107]⟩, .slice none 0 0, .int .i64 2, .int .i64 (z + 5 + 1), .int .i64 3, .int .i64 0, .slice A na C, .slice none 0 0] := by rw [← hv, ← HNA.out]; rfl
  obtain ⟨w5, hw5, hs5, hr5, hb5⟩ := boxed w4 v _ hs4
  rw [hXv] at hw5
  have b45 := hb5
  have b35 := hb4.trans (b45.mono hb4.size)
  have b25 := hb3.trans (b35.mono hb3.size)
  have b15 := hb2.trans (b25.mono hb2.size)
  have b05 := hb1.trans (b15.mono hb1.size)
  have HW5B := Lib.hid (show Below K W w5 from hb0.trans (b05.mono (by rw [hs0]; exact Nat.le_refl _)))
  have Px := cPut_p (data := a) (ha0.below b05) (fr := 1) (to := 2) (mo := 2) (i64c (by omega)) (i64c (by omega)) (i64c (by omega))
  rw [hx] at Px
  have Py := cPut_p (data := b) (hbb0.below b05) (fr := 3) (to := 4) (mo := 4) (i64c (by omega)) (i64c (by omega)) (i64c (by omega))
  rw [hy] at Py
  have Pt := cGet_p (out := a) (ha0.below b05) (fr := (z + 5)) (to := (z + 5 + 1)) (mo := (z + 5)) (i64c (by omega)) (i64c (by omega)) (i64c (by omega))
  rw [ht] at Pt
  have Pu := cGet_p (out := b) (hbb0.below b05) (fr := (z + 5)) (to := (z + 5 + 1)) (mo := (z + 5)) (i64c (by omega)) (i64c (by omega)) (i64c (by omega))
  rw [hu] at Pu
  have Pv := cGet_p (out := a) (ha0.below b05) (fr := 2) (to := (z + 5 + 1)) (mo := 3) (i64c (by omega)) (i64c (by omega)) (i64c (by omega))
  rw [hv] at Pv
  have HC1 := Lib.hid (show ∀ w', Below w5.heap.size w5 w' → ∀ V, Cls w' V [x, y, t] → Calls Try.prog 7 #[V] w' fun e w'' => e = .returned (.bool false) ∧ Below w'.heap.size w' w'' from fun w' q V hV => by
    have hg : goes noMap [x, y, t] = false := by
      rw [← ht, ← hx, ← hy]
      exact stale1 _ _ HNE.out _ _ _ _ _ hz0
    have := checkC hV (by simp) (S := [x, y, t]) (by
      rw [← ht, ← hx, ← hy]
      simp [Ln.Ord, cPut, cGet]
      omega) (by
      have hd : dones [x, y, t] = [x, y, t] := dones_all (by
        rw [← ht, ← hx, ← hy]
        intro c hc
        simp only [List.mem_cons, List.not_mem_nil, or_false] at hc
        rcases hc with rfl | rfl | rfl <;> (simp only [cPut, cGet]; omega))
      rw [hd]) (by simp) (fun c hc => by
      simp only [List.mem_cons, List.not_mem_nil, or_false] at hc
      rcases hc with rfl | rfl | rfl
      · exact Px.below q
      · exact Py.below q
      · exact Pt.below q)
    rw [hg] at this
    exact this)
  have HC2 := Lib.hid (show ∀ w', Below w5.heap.size w5 w' → ∀ V, Cls w' V [x, y, u] → Calls Try.prog 7 #[V] w' fun e w'' => e = .returned (.bool true) ∧ Below w'.heap.size w' w'' from fun w' q V hV => by
    have hg : goes noMap [x, y, u] = true := by
      rw [← hu, ← hx, ← hy]
      exact stale2 _ _ _ _ _ _ _ hz0
    have := checkC hV (by simp) (S := [x, y, u]) (by
      rw [← hu, ← hx, ← hy]
      simp [Ln.Ord, cPut, cGet]
      omega) (by
      have hd : dones [x, y, u] = [x, y, u] := dones_all (by
        rw [← hu, ← hx, ← hy]
        intro c hc
        simp only [List.mem_cons, List.not_mem_nil, or_false] at hc
        rcases hc with rfl | rfl | rfl <;> (simp only [cPut, cGet]; omega))
      rw [hd]) (by simp) (fun c hc => by
      simp only [List.mem_cons, List.not_mem_nil, or_false] at hc
      rcases hc with rfl | rfl | rfl
      · exact Px.below q
      · exact Py.below q
      · exact Pu.below q)
    rw [hg] at this
    exact this)
  have HC3 := Lib.hid (show ∀ w', Below w5.heap.size w5 w' → ∀ V, Cls w' V [x, y, v] → Calls Try.prog 7 #[V] w' fun e w'' => e = .returned (.bool true) ∧ Below w'.heap.size w' w'' from fun w' q V hV => by
    have hg : goes noMap [x, v, y] = true := by
      rw [← hv, ← hx, ← hy]
      exact stale3 _ _ _ _ _ _ _ hz0
    have := checkC hV (by simp) (S := [x, v, y]) (by
      rw [← hv, ← hx, ← hy]
      simp [Ln.Ord, cPut, cGet]) (by
      have hd : dones [x, y, v] = [x, y, v] := dones_all (by
        rw [← hv, ← hx, ← hy]
        intro c hc
        simp only [List.mem_cons, List.not_mem_nil, or_false] at hc
        rcases hc with rfl | rfl | rfl <;> (simp only [cPut, cGet]; omega))
      rw [hd]
      exact (List.Perm.swap _ _ _).cons _) (by simp) (fun c hc => by
      simp only [List.mem_cons, List.not_mem_nil, or_false] at hc
      rcases hc with rfl | rfl | rfl
      · exact Px.below q
      · exact Pv.below q
      · exact Py.below q)
    rw [hg] at this
    exact this)
  have HRx := Lib.hid (hr1.of_block (b15.block _ hr1.lt))
  have HRy := Lib.hid (hr2.of_block (b25.block _ hr2.lt))
  have HRt := Lib.hid (hr3.of_block (b35.block _ hr3.lt))
  have HRu := Lib.hid (hr4.of_block (b45.block _ hr4.lt))
  have HRv := Lib.hid (hr5)
  have HRt3 := Lib.hid hr3
  have HRt4 := Lib.hid (hr3.of_block (hb4.block _ hr3.lt))
  have HXx := Lib.hid hXx
  have HEx := Lib.hid hx
  have HXy := Lib.hid hXy
  have HEy := Lib.hid hy
  have HXt := Lib.hid hXt
  have HEt := Lib.hid ht
  have HXu := Lib.hid hXu
  have HEu := Lib.hid hu
  have HXv := Lib.hid hXv
  have HEv := Lib.hid hv
  have HS0 := Lib.hid hs0
  have HS1 := Lib.hid hs1
  have HS2 := Lib.hid hs2
  have HS3 := Lib.hid hs3
  have HS4 := Lib.hid hs4
  have HS5 := Lib.hid hs5
  have HW1 := Lib.hid hw1
  have HW2 := Lib.hid hw2
  have HW3 := Lib.hid hw3
  have HW4 := Lib.hid hw4
  have HW5 := Lib.hid hw5
  clear ha0 hbb0 hb0 b05 b15 b25 b35 b45 hx hXx Px hy hXy Py ht hXt Pt hu hXu Pu hv hXv Pv hw1 hr1 hb1 hw2 hr2 hb2 hw3 hr3 hb3 hw4 hr4 hb4 hw5 hr5 hb5 hs0 hs1 hs2 hs3 hs4 hs5
  go_upto_region 5 with fail
  rw [HS0.out, HW1.out]
  go_upto_region 6 with fail
  rw [HS1.out, HW2.out]
  go_upto_region 7 with fail
  rw [HS2.out, HW3.out]
  have t0 := HRt3.out.cell (i := 0) (by omega)
  have t1 := HRt3.out.cell (i := 1) (by omega)
  have t2 := HRt3.out.cell (i := 2) (by omega)
  have t3 := HRt3.out.cell (i := 3) (by omega)
  have t4 := HRt3.out.cell (i := 4) (by omega)
  have t5 := HRt3.out.cell (i := 5) (by omega)
  have t6 := HRt3.out.cell (i := 6) (by omega)
  have t7 := HRt3.out.cell (i := 7) (by omega)
  have t8 := HRt3.out.cell (i := 8) (by omega)
  have t9 := HRt3.out.cell (i := 9) (by omega)
  simp only [HXt.out] at t0 t1 t2 t3 t4 t5 t6 t7 t8 t9
  go_upto_region 9 with fail
  rw [HS3.out, HW4.out]
  clear t0 t1 t2 t3 t4 t5 t6 t7 t8 t9
  have t0 := HRt4.out.cell (i := 0) (by omega)
  have t1 := HRt4.out.cell (i := 1) (by omega)
  have t2 := HRt4.out.cell (i := 2) (by omega)
  have t3 := HRt4.out.cell (i := 3) (by omega)
  have t4 := HRt4.out.cell (i := 4) (by omega)
  have t5 := HRt4.out.cell (i := 5) (by omega)
  have t6 := HRt4.out.cell (i := 6) (by omega)
  have t7 := HRt4.out.cell (i := 7) (by omega)
  have t8 := HRt4.out.cell (i := 8) (by omega)
  have t9 := HRt4.out.cell (i := 9) (by omega)
  simp only [HXt.out] at t0 t1 t2 t3 t4 t5 t6 t7 t8 t9
  go_upto_region 11 with fail
  rw [HS4.out, HW5.out]
  clear t0 t1 t2 t3 t4 t5 t6 t7 t8 t9
  go_wp2_with fail
  refine (answersC w5).mono ?_
  rintro _ w6 ⟨rfl, hb6⟩
  have HB6 := Lib.hid hb6
  clear hb6
  have hrx := HRx.out.of_block (HB6.out.block _ HRx.out.lt)
  have hry := HRy.out.of_block (HB6.out.block _ HRy.out.lt)
  have hrl := HRt.out.of_block (HB6.out.block _ HRt.out.lt)
  have x0 := hrx.cell (i := 0) (by omega)
  have x1 := hrx.cell (i := 1) (by omega)
  have x2 := hrx.cell (i := 2) (by omega)
  have x3 := hrx.cell (i := 3) (by omega)
  have x4 := hrx.cell (i := 4) (by omega)
  have x5 := hrx.cell (i := 5) (by omega)
  have x6 := hrx.cell (i := 6) (by omega)
  have x7 := hrx.cell (i := 7) (by omega)
  have x8 := hrx.cell (i := 8) (by omega)
  have x9 := hrx.cell (i := 9) (by omega)
  simp only [HXx.out] at x0 x1 x2 x3 x4 x5 x6 x7 x8 x9
  have y0 := hry.cell (i := 0) (by omega)
  have y1 := hry.cell (i := 1) (by omega)
  have y2 := hry.cell (i := 2) (by omega)
  have y3 := hry.cell (i := 3) (by omega)
  have y4 := hry.cell (i := 4) (by omega)
  have y5 := hry.cell (i := 5) (by omega)
  have y6 := hry.cell (i := 6) (by omega)
  have y7 := hry.cell (i := 7) (by omega)
  have y8 := hry.cell (i := 8) (by omega)
  have y9 := hry.cell (i := 9) (by omega)
  simp only [HXy.out] at y0 y1 y2 y3 y4 y5 y6 y7 y8 y9
  have l0 := hrl.cell (i := 0) (by omega)
  have l1 := hrl.cell (i := 1) (by omega)
  have l2 := hrl.cell (i := 2) (by omega)
  have l3 := hrl.cell (i := 3) (by omega)
  have l4 := hrl.cell (i := 4) (by omega)
  have l5 := hrl.cell (i := 5) (by omega)
  have l6 := hrl.cell (i := 6) (by omega)
  have l7 := hrl.cell (i := 7) (by omega)
  have l8 := hrl.cell (i := 8) (by omega)
  have l9 := hrl.cell (i := 9) (by omega)
  simp only [HXt.out] at l0 l1 l2 l3 l4 l5 l6 l7 l8 l9
  clear hrx hry hrl
  go_wp2_with fail
  refine (HC1.out _ (HB6.out.trans ((alB w6 _).mono HB6.out.size)) _ (lit_cls _ _ [x, y, t] (by simp) (by rw [← HEx.out, ← HEy.out, ← HEt.out, ← HNA.out, ← HNB.out]; rfl) _ _ rfl rfl)).mono ?_
  rintro _ w7 ⟨rfl, hbn⟩
  have HB7 := Lib.hid (HB6.out.trans (((alB w6 _).trans (hbn.mono (alB w6 _).size)).mono HB6.out.size))
  clear hbn x0 x1 x2 x3 x4 x5 x6 x7 x8 x9 y0 y1 y2 y3 y4 y5 y6 y7 y8 y9 l0 l1 l2 l3 l4 l5 l6 l7 l8 l9
  have hrx := HRx.out.of_block (HB7.out.block _ HRx.out.lt)
  have hry := HRy.out.of_block (HB7.out.block _ HRy.out.lt)
  have hrl := HRu.out.of_block (HB7.out.block _ HRu.out.lt)
  have x0 := hrx.cell (i := 0) (by omega)
  have x1 := hrx.cell (i := 1) (by omega)
  have x2 := hrx.cell (i := 2) (by omega)
  have x3 := hrx.cell (i := 3) (by omega)
  have x4 := hrx.cell (i := 4) (by omega)
  have x5 := hrx.cell (i := 5) (by omega)
  have x6 := hrx.cell (i := 6) (by omega)
  have x7 := hrx.cell (i := 7) (by omega)
  have x8 := hrx.cell (i := 8) (by omega)
  have x9 := hrx.cell (i := 9) (by omega)
  simp only [HXx.out] at x0 x1 x2 x3 x4 x5 x6 x7 x8 x9
  have y0 := hry.cell (i := 0) (by omega)
  have y1 := hry.cell (i := 1) (by omega)
  have y2 := hry.cell (i := 2) (by omega)
  have y3 := hry.cell (i := 3) (by omega)
  have y4 := hry.cell (i := 4) (by omega)
  have y5 := hry.cell (i := 5) (by omega)
  have y6 := hry.cell (i := 6) (by omega)
  have y7 := hry.cell (i := 7) (by omega)
  have y8 := hry.cell (i := 8) (by omega)
  have y9 := hry.cell (i := 9) (by omega)
  simp only [HXy.out] at y0 y1 y2 y3 y4 y5 y6 y7 y8 y9
  have l0 := hrl.cell (i := 0) (by omega)
  have l1 := hrl.cell (i := 1) (by omega)
  have l2 := hrl.cell (i := 2) (by omega)
  have l3 := hrl.cell (i := 3) (by omega)
  have l4 := hrl.cell (i := 4) (by omega)
  have l5 := hrl.cell (i := 5) (by omega)
  have l6 := hrl.cell (i := 6) (by omega)
  have l7 := hrl.cell (i := 7) (by omega)
  have l8 := hrl.cell (i := 8) (by omega)
  have l9 := hrl.cell (i := 9) (by omega)
  simp only [HXu.out] at l0 l1 l2 l3 l4 l5 l6 l7 l8 l9
  clear hrx hry hrl
  go_wp2_with fail
  refine (HC2.out _ (HB7.out.trans ((alB w7 _).mono HB7.out.size)) _ (lit_cls _ _ [x, y, u] (by simp) (by rw [← HEx.out, ← HEy.out, ← HEu.out, ← HNA.out, ← HNB.out]; rfl) _ _ rfl rfl)).mono ?_
  rintro _ w8 ⟨rfl, hbn⟩
  have HB8 := Lib.hid (HB7.out.trans (((alB w7 _).trans (hbn.mono (alB w7 _).size)).mono HB7.out.size))
  clear hbn x0 x1 x2 x3 x4 x5 x6 x7 x8 x9 y0 y1 y2 y3 y4 y5 y6 y7 y8 y9 l0 l1 l2 l3 l4 l5 l6 l7 l8 l9
  have hrx := HRx.out.of_block (HB8.out.block _ HRx.out.lt)
  have hry := HRy.out.of_block (HB8.out.block _ HRy.out.lt)
  have hrl := HRv.out.of_block (HB8.out.block _ HRv.out.lt)
  have x0 := hrx.cell (i := 0) (by omega)
  have x1 := hrx.cell (i := 1) (by omega)
  have x2 := hrx.cell (i := 2) (by omega)
  have x3 := hrx.cell (i := 3) (by omega)
  have x4 := hrx.cell (i := 4) (by omega)
  have x5 := hrx.cell (i := 5) (by omega)
  have x6 := hrx.cell (i := 6) (by omega)
  have x7 := hrx.cell (i := 7) (by omega)
  have x8 := hrx.cell (i := 8) (by omega)
  have x9 := hrx.cell (i := 9) (by omega)
  simp only [HXx.out] at x0 x1 x2 x3 x4 x5 x6 x7 x8 x9
  have y0 := hry.cell (i := 0) (by omega)
  have y1 := hry.cell (i := 1) (by omega)
  have y2 := hry.cell (i := 2) (by omega)
  have y3 := hry.cell (i := 3) (by omega)
  have y4 := hry.cell (i := 4) (by omega)
  have y5 := hry.cell (i := 5) (by omega)
  have y6 := hry.cell (i := 6) (by omega)
  have y7 := hry.cell (i := 7) (by omega)
  have y8 := hry.cell (i := 8) (by omega)
  have y9 := hry.cell (i := 9) (by omega)
  simp only [HXy.out] at y0 y1 y2 y3 y4 y5 y6 y7 y8 y9
  have l0 := hrl.cell (i := 0) (by omega)
  have l1 := hrl.cell (i := 1) (by omega)
  have l2 := hrl.cell (i := 2) (by omega)
  have l3 := hrl.cell (i := 3) (by omega)
  have l4 := hrl.cell (i := 4) (by omega)
  have l5 := hrl.cell (i := 5) (by omega)
  have l6 := hrl.cell (i := 6) (by omega)
  have l7 := hrl.cell (i := 7) (by omega)
  have l8 := hrl.cell (i := 8) (by omega)
  have l9 := hrl.cell (i := 9) (by omega)
  simp only [HXv.out] at l0 l1 l2 l3 l4 l5 l6 l7 l8 l9
  clear hrx hry hrl
  go_wp2_with fail
  refine (HC3.out _ (HB8.out.trans ((alB w8 _).mono HB8.out.size)) _ (lit_cls _ _ [x, y, v] (by simp) (by rw [← HEx.out, ← HEy.out, ← HEv.out, ← HNA.out, ← HNB.out]; rfl) _ _ rfl rfl)).mono ?_
  rintro _ w9 ⟨rfl, hbn⟩
  have HB9 := Lib.hid (HB8.out.trans (((alB w8 _).trans (hbn.mono (alB w8 _).size)).mono HB8.out.size))
  clear hbn x0 x1 x2 x3 x4 x5 x6 x7 x8 x9 y0 y1 y2 y3 y4 y5 y6 y7 y8 y9 l0 l1 l2 l3 l4 l5 l6 l7 l8 l9
  go_wp2
  go_ret
  refine ⟨rfl, ?_⟩
  rw [HKE.out]
  exact HW5B.out.trans (HB9.out.mono (by rw [HS5.out]; omega))
set_option maxRecDepth 100000 in
set_option maxHeartbeats 4000000 in
theorem LinearStaleC {W : World} {a b : List Nat} {va vb : Value} (ha : Bytes W va a) (hb : Bytes W vb b) (z : Int) (hz0 : 0 ≤ z) (hz1 : z ≤ 255) :
    Calls Try.prog 5 #[va, vb, .int .u8 z] W fun e w' => e = .returned (.bool true) ∧ Below W.heap.size W w' := by
  obtain ⟨A, C, rfl, -⟩ := ha.shape
  obtain ⟨B, D, rfl, -⟩ := hb.shape
  by_cases hm : a ≠ b ∧ a.length ≤ 100 ∧ b.length ≤ 100
  · exact staleMain ha hb hm.1 hm.2.1 hm.2.2 z hz0 hz1
  · have HSM := Lib.hid (Same.sameC a b _ _ W ha hb)
    have fin : ∀ w1, (∃ n, w1 = W.drewN n) → Calls Try.prog 6 #[] w1 fun e w' => e = .returned (.bool true) ∧ Below W.heap.size W w' := fun w1 ⟨n, hn⟩ => (answersC w1).mono fun e w' ⟨h1, h2⟩ => ⟨h1, by
      subst hn
      exact (Go.Mem.below_drewN _ _ _).trans h2⟩
    have HF := Lib.hid fin
    obtain ⟨na, hna⟩ : ∃ n, a.length = n := ⟨_, rfl⟩
    obtain ⟨nb, hnb⟩ : ∃ n, b.length = n := ⟨_, rfl⟩
    rw [hna] at HSM hm ⊢
    rw [hnb] at HSM hm ⊢
    clear ha hb fin
    by_cases h0 : a = b
    · have hsb : Same.sameB a b = true := decide_eq_true h0
      rw [hsb] at HSM
      clear hsb h0 hm hna hnb
      go_enter Try.func5, Try.ntmps5
      go_wp2_with fail
      refine HSM.out.mono ?_
      rintro _ W0 ⟨rfl, hn0⟩
      have HA := Lib.hid (HF.out _ hn0)
      clear hn0
      go_wp2_with fail
      refine HA.out.mono ?_
      rintro _ w2 ⟨rfl, hb2⟩
      have HB2 := Lib.hid hb2
      clear hb2
      go_wp2
      go_ret
      exact ⟨rfl, HB2.out⟩
    · have hsb : Same.sameB a b = false := decide_eq_false h0
      rw [hsb] at HSM
      by_cases ha1 : na ≤ 100
      · have qa : ¬ (100 : Int) < (na : Int) := by omega
        have qb : (100 : Int) < (nb : Int) := by
          have : ¬ nb ≤ 100 := fun q => hm ⟨h0, ha1, q⟩
          omega
        clear hsb h0 hm hna hnb
        go_enter Try.func5, Try.ntmps5
        go_wp2_with fail
        refine HSM.out.mono ?_
        rintro _ W0 ⟨rfl, hn0⟩
        have HA := Lib.hid (HF.out _ hn0)
        clear hn0
        go_wp2_with fail
        refine HA.out.mono ?_
        rintro _ w2 ⟨rfl, hb2⟩
        have HB2 := Lib.hid hb2
        clear hb2
        go_wp2
        go_ret
        exact ⟨rfl, HB2.out⟩
      · have qa : (100 : Int) < (na : Int) := by omega
        clear hsb h0 hm hna hnb
        go_enter Try.func5, Try.ntmps5
        go_wp2_with fail
        refine HSM.out.mono ?_
        rintro _ W0 ⟨rfl, hn0⟩
        have HA := Lib.hid (HF.out _ hn0)
        clear hn0
        go_wp2_with fail
        refine HA.out.mono ?_
        rintro _ w2 ⟨rfl, hb2⟩
        have HB2 := Lib.hid hb2
        clear hb2
        go_wp2
        go_ret
        exact ⟨rfl, HB2.out⟩
end Go.Proofs.Ytkibnpienbchaaa.Lnr
