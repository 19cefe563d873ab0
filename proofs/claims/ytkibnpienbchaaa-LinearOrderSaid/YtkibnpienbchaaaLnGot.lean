/- The program's map of what there is: what a Get answers; a call that is done. -/
import Derived.Test.YtkibnpienbchaaaLnGo
namespace Go.Proofs.Ytkibnpienbchaaa.Lnr
set_option linter.unusedVariables false
open Go.ChangeShapes Go.WideShapes Go.ChangeAt Go.RowKit
open Go.Mem Ln
theorem alB (w : World) (o : Obj) : Below w.heap.size w (w.alloc o) := (Below.refl _ _).alloc (Nat.le_refl _) _
set_option maxRecDepth 100000 in
set_option maxHeartbeats 4000000 in
theorem gotC {w : World} {b n : Nat} {m : Mp} (h : MapC w b n m) (x : Cl) (hk : KeyOk x.key) (ho : Bytes w (.slice x.oA x.out.length x.oC) x.out) (hm : ∀ s y, m s = some y → Bytes w (.slice y.dA y.data.length y.dC) y.data) :
    Calls Try.prog 20 #[.map (some b), clVal x] w fun e w' => e = .returned (.bool (got m x)) ∧ Below w.heap.size w w' := by
  obtain ⟨r, hr⟩ : ∃ r, got m x = r := ⟨_, rfl⟩
  rw [hr]
  unfold got at hr
  cases hmk : m x.key with
  | some y =>
    rw [hmk] at hr
    have hlk := fun o => (h.below (alB w o)).look hM hZ hk (v := clVal y) (by rw [hmk]; rfl)
    have hd := hm _ _ hmk
    clear hm hmk h
    unfold clVal at hlk ⊢
    obtain ⟨task, op, key, data, dA, dC, fr, to, mo, e, out, oA, oC, nk, kA, kC⟩ := x
    obtain ⟨ytask, yop, ykey, ydata, ydA, ydC, yfr, yto, ymo, ye, yout, yoA, yoC, ynk, ykA, ykC⟩ := y
    dsimp only at *
    have HHR := Lib.hid hr
    have HO := Lib.hid (fun o o' => (ho.below (alB w o)).below (alB (w.alloc o) o'))
    have HD := Lib.hid (fun o o' => (hd.below (alB w o)).below (alB (w.alloc o) o'))
    have HB := Lib.hid (fun o o' => (alB w o).trans ((alB (w.alloc o) o').mono (alB w o).size))
    clear hr ho hd hk
    by_cases h0 : e = 0
    · have q0 : (e == (0 : Int)) = true := by simpa using h0
      have HE := Lib.hid (show decide (out = ydata) = r by rw [← HHR.out, if_pos h0])
      clear HHR h0
      go_enter Try.func20, Try.ntmps20
      go_wp2_with fail
      refine (equalC (HO.out _ _) (HD.out _ _)).mono ?_
      rintro _ _ ⟨rfl, rfl⟩
      rw [HE.out]
      go_wp2
      go_ret
      exact ⟨rfl, HB.out _ _⟩
    · have q0 : (e == (0 : Int)) = false := by simpa using h0
      by_cases h7 : e = 7
      · have q7 : (e == (7 : Int)) = true := by simpa using h7
        have HE := Lib.hid (show false = r by rw [← HHR.out, if_neg h0, if_pos h7]; rfl)
        clear HHR h0 h7
        go_enter Try.func20, Try.ntmps20
        go_wp2
        go_ret
        exact ⟨by rw [← HE.out]; rfl, HB.out _ _⟩
      · have q7 : (e == (7 : Int)) = false := by simpa using h7
        have HE := Lib.hid (show (e == (8 : Int)) = r by rw [← HHR.out, if_neg h0, if_neg h7]; rfl)
        clear HHR h0 h7
        go_enter Try.func20, Try.ntmps20
        go_wp2
        go_ret
        exact ⟨by rw [← HE.out]; rfl, HB.out _ _⟩
  | none =>
    rw [hmk] at hr
    have hlk := fun o => (h.below (alB w o)).lookNo hM hZ x.key (by rw [hmk]; rfl)
    clear hm hmk h
    unfold clVal
    obtain ⟨task, op, key, data, dA, dC, fr, to, mo, e, out, oA, oC, nk, kA, kC⟩ := x
    dsimp only at *
    have HHR := Lib.hid hr
    have HB := Lib.hid (fun o o' => (alB w o).trans ((alB (w.alloc o) o').mono (alB w o).size))
    clear hr ho hk
    by_cases h0 : e = 0
    · have q0 : (e == (0 : Int)) = true := by simpa using h0
      have HE := Lib.hid (show false = r by rw [← HHR.out, if_pos h0])
      clear HHR h0
      go_enter Try.func20, Try.ntmps20
      go_wp2
      go_ret
      exact ⟨by rw [← HE.out]; rfl, HB.out _ _⟩
    · have q0 : (e == (0 : Int)) = false := by simpa using h0
      by_cases h7 : e = 7
      · have q7 : (e == (7 : Int)) = true := by simpa using h7
        have HE := Lib.hid (show true = r by rw [← HHR.out, if_neg h0, if_pos h7]; rfl)
        clear HHR h0 h7
        go_enter Try.func20, Try.ntmps20
        go_wp2
        go_ret
        exact ⟨by rw [← HE.out]; rfl, HB.out _ _⟩
      · have q7 : (e == (7 : Int)) = false := by simpa using h7
        have HE := Lib.hid (show (e == (8 : Int)) = r by rw [← HHR.out, if_neg h0, if_neg h7]; rfl)
        clear HHR h0 h7
        go_enter Try.func20, Try.ntmps20
        go_wp2
        go_ret
        exact ⟨by rw [← HE.out]; rfl, HB.out _ _⟩
set_option maxRecDepth 100000 in
set_option maxHeartbeats 2000000 in
theorem sawC {w : World} {b n : Nat} {m : Mp} (h : MapC w b n m) (x : Cl) (hk : KeyOk x.key) (hop : x.op = 2) (ho : Bytes w (.slice x.oA x.out.length x.oC) x.out) (hm : ∀ s y, m s = some y → Bytes w (.slice y.dA y.data.length y.dC) y.data) :
    Calls Try.prog 17 #[.map (some b), clVal x] w fun e w' => e = .returned (.bool (got m x)) ∧ Below w.heap.size w w' := by
  have HG := Lib.hid (fun o => gotC (h.below (alB w o)) x hk (ho.below (alB w o)) (fun s y q => (hm s y q).below (alB w o)))
  have q2 : (x.op == (2 : Int)) = true := by simpa using hop
  obtain ⟨r, hr⟩ : ∃ r, got m x = r := ⟨_, rfl⟩
  rw [hr] at HG ⊢
  clear h hk hop ho hm hr
  unfold clVal at HG ⊢
  go_enter Try.func17, Try.ntmps17
  go_wp2_with fail
  refine (HG.out _).mono ?_
  rintro _ w2 ⟨rfl, hb⟩
  have HB := Lib.hid ((alB w _).trans (hb.mono (alB w _).size))
  clear hb
  go_wp2
  go_ret
  exact ⟨rfl, HB.out⟩
/-- behind a call that was done -/
structure Done (W : World) (b n : Nat) (m : Mp) (w' : World) : Prop where
  map : MapC w' b n m
  tur : Turned (fun y => y = b) W w'
set_option maxRecDepth 100000 in
set_option maxHeartbeats 2000000 in
theorem doC {w : World} {b n : Nat} {m : Mp} (h : MapC w b n m) (hn : n ≤ 1000) (x : Cl) (hk : KeyOk x.key) (hop : x.op = 1 ∨ x.op = 2) (ho : Bytes w (.slice x.oA x.out.length x.oC) x.out) (hm : ∀ s y, m s = some y → Bytes w (.slice y.dA y.data.length y.dC) y.data) :
    Calls Try.prog 11 #[.map (some b), clVal x] w fun e w' => e = .returned (.bool (does m x)) ∧ Done w b (n + 1) (next m x) w' := by
  rcases hop with h1 | h2
  · have HP := Lib.hid (fun o => putC (h.below (alB w o)) hn x hk h1)
    have q1 : (x.op == (1 : Int)) = true := by simpa using h1
    have HR := Lib.hid (show does m x = true by unfold does; rw [if_pos h1])
    rw [HR.out]
    clear h hk ho hm h1 HR
    unfold clVal at HP ⊢
    obtain ⟨m', hm'⟩ : ∃ m', next m x = m' := ⟨_, rfl⟩
    rw [hm'] at HP ⊢
    clear hm'
    go_enter Try.func11, Try.ntmps11
    go_wp2_with fail
    refine (HP.out _).mono ?_
    rintro _ w2 ⟨rfl, hm2, ht2⟩
    have HM := Lib.hid hm2
    have HT := Lib.hid ((Turned.alloc _ w _).trans ht2 (Grown.refl _ _))
    clear hm2 ht2
    go_wp2
    go_ret
    exact ⟨rfl, HM.out, HT.out⟩
  · have q1 : (x.op == (1 : Int)) = false := by rw [h2]; rfl
    have q3 : (x.op == (3 : Int)) = false := by rw [h2]; rfl
    have HN := Lib.hid (show next m x = m by unfold next; rw [if_neg (by rw [h2]; decide)])
    have HR := Lib.hid (show does m x = (decide (x.to = 0) || got m x) by unfold does; rw [if_neg (by rw [h2]; decide)])
    rw [HN.out, HR.out]
    have HM := Lib.hid (fun w' (q : Below w.heap.size w w') => (h.below q).more (Nat.le_succ n))
    have HS := Lib.hid (fun o => sawC (h.below (alB w o)) x hk h2 (ho.below (alB w o)) (fun s y q => (hm s y q).below (alB w o)))
    obtain ⟨r, hr⟩ : ∃ r, got m x = r := ⟨_, rfl⟩
    rw [hr] at HS ⊢
    clear h hk h2 ho hm hr HN HR
    unfold clVal at HS ⊢
    by_cases h0 : x.to = 0
    · have q0 : (x.to == (0 : Int)) = true := by simpa using h0
      have HE := Lib.hid (show (decide (x.to = 0) || r) = true by simp [h0])
      rw [HE.out]
      clear h0 HE
      go_enter Try.func11, Try.ntmps11
      go_wp2
      go_ret
      exact ⟨rfl, HM.out _ (alB w _), Turned.alloc _ _ _⟩
    · have q0 : (x.to == (0 : Int)) = false := by simpa using h0
      have HE := Lib.hid (show (decide (x.to = 0) || r) = r by simp [h0])
      rw [HE.out]
      clear h0 HE
      go_enter Try.func11, Try.ntmps11
      go_wp2_with fail
      refine (HS.out _).mono ?_
      rintro _ w2 ⟨rfl, hb⟩
      have HB := Lib.hid ((alB w _).trans (hb.mono (alB w _).size))
      clear hb
      go_wp2
      go_ret
      exact ⟨rfl, HM.out _ HB.out, Turned.of_below _ HB.out⟩
end Go.Proofs.Ytkibnpienbchaaa.Lnr
