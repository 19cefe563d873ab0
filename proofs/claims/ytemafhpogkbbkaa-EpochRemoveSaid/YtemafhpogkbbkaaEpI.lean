/- What the laws of layer 13 want of the program's own functions, and the first law, as walks. -/
import Derived.Test.YtemafhpogkbbkaaEpMath
import Derived.Test.YtemafhpogkbbkaaRecSame
import Derived.Test.YtemafhpogkbbkaaWrites
namespace Go.Proofs.Ytemafhpogkbbkaa.Epo
set_option linter.unusedVariables false
open Go.ChangeShapes Go.WideShapes Go.ChangeAt Go.RowKit
open Go.Mem Ep Rec
theorem infoInt : (Try.prog.info? 3).map (fun i => (i.zero, i.size, i.bytes)) = some (some (.int .i64 0), 1, 8) := by kernel_rfl
/-- what is told lies in new memory -/
def Told (W : World) (l : List Int) (k : Int) (e : Ending) (w' : World) : Prop := ∃ u, e = .returned (.tuple #[u, .int .i64 k]) ∧ (∀ w'', Turned (fun b => b < W.heap.size) w' w'' → Ints w'' u l) ∧ Below W.heap.size W w'
structure EpI : Prop where
  inn : ∀ (W : World) (v : Value) (l : List Int), Ints W v l → l.length ≤ 101 → Calls Try.prog 11 #[v] W fun e w' => e = .returned (.int .i64 (cnt l : Nat)) ∧ Below W.heap.size W w'
  join : ∀ (W : World) (v : Value) (l : List Int), Ints W v l → l.length ≤ 101 → Calls Try.prog 9 #[v] W (Told W (jnL l) (jnE l))
  drain : ∀ (W : World) (v : Value) (l : List Int) (n need : Int), Ints W v l → l.length ≤ 101 → I64 n → I64 need → Calls Try.prog 13 #[v, .int .i64 n, .int .i64 need] W (Told W (drL l n need) (drE l n need))
  remove : ∀ (W : World) (v : Value) (l : List Int) (n : Int), Ints W v l → l.length ≤ 101 → I64 n → Calls Try.prog 14 #[v, .int .i64 n] W (Told W (rmL l n) (rmE l n))
theorem copy_ints (W : World) (A : Option Addr) (C : Nat) (l : List Int) (hI : Ints W (.slice A l.length C) l) (hl : l.length ≤ 101) :
    ∃ v1 w1, (Builtin.append_ #[22, 22] 22 #[.slice (some ⟨W.heap.size, 0, none⟩) 0 0, .slice A l.length C]).run Try.prog (W.alloc (.cells #[] 3)) = .ok v1 w1 ∧ Built IntR w1 W.heap.size 3 v1 l ∧ Below W.heap.size W w1 := by
  have hal : Below W.heap.size W (W.alloc (.cells #[] 3)) := (Below.refl _ _).alloc (Nat.le_refl _) _
  obtain ⟨v1, w1, hrun, hbu, _, hb1⟩ := run_append_list (P := Try.prog) intR_world intR_one (W.alloc (.cells #[] 3)) W.heap.size 22 22 3 (.int .i64 0) 8 Try.underlying22 infoInt rfl _ [] (built_none W (Nat.le_refl _)) _ _ _ l (hI.below hal) (by simp; omega) (by simp)
  exact ⟨v1, w1, hrun, hbu, hal.trans hb1⟩
theorem one_more (W : World) (base : Nat) (v : Value) (l : List Int) (x : Int) (hx : I64 x) (h : Built IntR W base 3 v l) (hl : l.length ≤ 101) (hb : base ≤ W.heap.size) :
    ∃ v1 w1, (Builtin.append_ #[22, 22] 22 #[v, .slice (some ⟨W.heap.size, 0, none⟩) 1 1]).run Try.prog (W.alloc (.cells #[.int .i64 x] 3)) = .ok v1 w1 ∧ Built IntR w1 base 3 v1 (l ++ [x]) ∧ Below base W w1 := by
  obtain ⟨v1, w1, hr, h2, _, h4⟩ := run_append_built (P := Try.prog) W base 22 22 3 (.int .i64 0) 8 Try.underlying22 infoInt rfl v l h (.int .i64 x) x rfl (fun _ _ => ⟨rfl, hx⟩) (by omega) hb
  exact ⟨v1, w1, hr, h2, h4⟩
set_option maxHeartbeats 1000000 in
theorem inC (v : Value) (l : List Int) (w : World) (h : Ints w v l) (hl : l.length ≤ 101) :
    Calls Try.prog 12 #[v] w fun e w' => e = .returned (.int .i64 (cnt l : Nat)) ∧ w = w' := by
  obtain ⟨A, C, rfl, g1, g2, -⟩ := h.shape
  have HI := Lib.hid h
  have hcl : ∀ k, cnt (l.take k) ≤ l.length := fun k => Nat.le_trans (cnt_le _) (by rw [List.length_take]; omega)
  have HCL := Lib.hid hcl
  obtain ⟨L, hL⟩ : ∃ L, l.length = L := ⟨_, rfl⟩
  have HL := Lib.hid hL
  rw [hL] at g1 HI HCL hl ⊢
  clear h hL hcl
  go_enter Try.func12, Try.ntmps12
  go_wp2
  go_loop [3, 4] (fun n c => ∃ k : Nat, k ≤ L ∧ c = .int .i64 k ∧ n = .int .i64 (cnt (l.take k) : Nat)) (fun _ c => L - (intOf c).toNat)
  case atStart => exact ⟨0, Nat.zero_le _, rfl, rfl⟩
  case round =>
    obtain ⟨k, hk, rfl, rfl⟩ := hrel
    have hcl := HCL.out k
    by_cases hlt : k < L
    · have hk' : k < l.length := by rw [HL.out]; exact hlt
      obtain ⟨b, o, rfl, hc, hz⟩ := HI.out.at hk'
      have HNX := Lib.hid (cnt_take hk')
      obtain ⟨x, hx⟩ : ∃ x, l[k] = x := ⟨_, rfl⟩
      rw [hx] at hc hz HNX
      obtain ⟨N, hN⟩ : ∃ N, cnt (l.take k) = N := ⟨_, rfl⟩
      rw [hN] at hcl HNX ⊢
      have q1 : (k : Int) < (L : Int) := by omega
      have q2 : (0 : Int) ≤ (k : Int) := by omega
      clear hx hk' hN
      by_cases h1 : x = 1
      · have hq : (x == 1) = true := by rw [h1]; rfl
        rw [if_pos h1] at HNX
        clear h1
        go_wp2
        go_round
        case rel => exact ⟨k + 1, by omega, by go_num, by rw [HNX.out]; go_num⟩
        case measure => simp [intOf]; omega
      · have hq : (x == 1) = false := by simpa using h1
        rw [if_neg h1] at HNX
        clear h1
        go_wp2
        go_round
        case rel => exact ⟨k + 1, by omega, by go_num, by rw [HNX.out]; rfl⟩
        case measure => simp [intOf]; omega
    · obtain rfl : k = L := by omega
      rw [List.take_of_length_le (Nat.le_of_eq HL.out)]
      have q1 : ¬ (k : Int) < (k : Int) := by omega
      go_wp2
      go_ret
      exact ⟨rfl, rfl⟩
theorem ans_facts : jnL [1] = [1, 1] ∧ jnE [1] = 0 ∧ drL [1, 1] 0 1 = [2, 1] ∧ drE [1, 1] 0 1 = 0 ∧ cnt [1, 1] = 2 := by decide
set_option maxHeartbeats 2000000 in
theorem answersC (I : EpI) (w : World) :
    Calls Try.prog 8 #[] w fun e w' => e = .returned (.bool true) ∧ Below w.heap.size w w' := by
  have hal : Below w.heap.size w (w.alloc (.cells #[.int .i64 1] 3)) := (Below.refl _ _).alloc (Nat.le_refl _) _
  have HAL := Lib.hid hal
  obtain ⟨f1, f2, f3, f4, f5⟩ := ans_facts
  have F5 := Lib.hid f5
  clear hal
  go_enter Try.func8, Try.ntmps8
  go_wp2_with fail
  refine (I.join _ _ [1] (one_int 3 w 1 ⟨by omega, by omega⟩) (by simp)).mono ?_
  rintro _ w1 ⟨u, rfl, hu, hb⟩
  have hu := hu _ (Turned.refl _ _)
  rw [f1] at hu
  rw [f2]
  obtain ⟨A, C, rfl, -⟩ := hu.shape
  obtain ⟨b, o, rfl, hc, -⟩ := hu.at (i := 1) (by simp)
  have HU := Lib.hid hu
  have HB := Lib.hid (below_nxt HAL.out hb (Nat.le_refl _))
  have hal2 : Below w1.heap.size w1 (w1.alloc (.cells #[.int .i64 1, .int .i64 1] 3)) := (Below.refl _ _).alloc (Nat.le_refl _) _
  have HAL2 := Lib.hid hal2
  clear hu hb hal2 f1 f2 f5 hc
  simp only [List.length_cons, List.length_nil, Nat.zero_add]
  go_wp2_with fail
  refine (I.drain _ _ [1, 1] 0 1 (two_ints 3 w1 1 1 ⟨by omega, by omega⟩ ⟨by omega, by omega⟩) (by simp) ⟨by omega, by omega⟩ ⟨by omega, by omega⟩).mono ?_
  rintro _ w2 ⟨u2, rfl, hu2, hb2⟩
  have hu2 := hu2 _ (Turned.refl _ _)
  rw [f3] at hu2
  rw [f4]
  obtain ⟨A2, C2, rfl, -⟩ := hu2.shape
  obtain ⟨b2, o2, rfl, hc2, -⟩ := hu2.at (i := 0) (by simp)
  have hbb := below_nxt (B := w1.heap.size) (w := w1) HAL2.out hb2 (Nat.le_refl _)
  have HB2 := Lib.hid (below_nxt HB.out hbb (Nat.le_refl _))
  have hu12 := HU.out.below hbb
  have HU2 := Lib.hid hu12
  have hc1 := (hu12.here (i := 1) (by simp)).1
  simp only [List.getElem_cons_zero, List.getElem_cons_succ, Nat.add_zero, List.length_cons, List.length_nil, Nat.zero_add] at hc1 hc2 ⊢
  clear hu2 hb2 hbb hu12 f3 f4
  go_wp2_with fail
  refine (I.inn _ _ [1, 1] HU2.out (by simp)).mono ?_
  rintro _ w3 ⟨rfl, hb3⟩
  rw [F5.out]
  have HB3 := Lib.hid (below_nxt HB2.out hb3 (Nat.le_refl _))
  clear hb3
  go_wp2
  go_ret
  exact ⟨rfl, HB3.out⟩
end Go.Proofs.Ytemafhpogkbbkaa.Epo
