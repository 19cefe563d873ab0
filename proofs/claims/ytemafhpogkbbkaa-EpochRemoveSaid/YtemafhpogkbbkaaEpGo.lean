/- The program's own functions of layer 13, and what the laws want of them. -/
import Derived.Test.YtemafhpogkbbkaaEpI
namespace Go.Proofs.Ytemafhpogkbbkaa.Epo
set_option linter.unusedVariables false
open Go.ChangeShapes Go.WideShapes Go.ChangeAt Go.RowKit
open Go.Mem Ep Rec
set_option maxHeartbeats 1000000 in
theorem cloneC (l : List Int) (v : Value) (w : World) (h : Ints w v l) (hl : l.length ≤ 101) :
    Calls Try.prog 15 #[v] w fun e w' => ∃ u, e = .returned u ∧ Built IntR w' w.heap.size 3 u l ∧ Below w.heap.size w w' := by
  obtain ⟨A, C, rfl, h1, h2, h3⟩ := h.shape
  have hne := Lib.run_eql_slice_nil (P := Try.prog)
  rcases A with _ | ad
  · have hC := h3 rfl
    have hl0 : l = [] := List.length_eq_zero_iff.1 (by omega)
    subst hl0
    subst hC
    go_enter Try.func15, Try.ntmps15
    go_wp2_with fail
    go_ret
    exact ⟨_, rfl, Built.start _ _ _, Below.refl _ _⟩
  · have hal : Below w.heap.size w (w.alloc (.cells #[] 3)) := (Below.refl _ _).alloc (Nat.le_refl _) _
    have HB := Lib.hid (built_none (R := IntR) (t := 3) w (Nat.le_refl _))
    have HL := Lib.hid (h.below hal)
    have HA := Lib.hid hal
    have HLL := Lib.hid hl
    clear hal h hl
    go_enter Try.func15, Try.ntmps15
    go_wp2_with (at_builtin; refine wpList_append_list intR_world intR_one _ rfl (.tmp 5) (.tmp 6) 22 rfl w.heap.size 3 (.int .i64 0) 8 Try.underlying22 infoInt rfl _ _ rfl HB.out _ _ _ _ rfl HL.out (by have := HLL.out; simp; omega) (by simp) ?_; intro v' w' hbu' hg' hb')
    go_ret
    exact ⟨_, rfl, hbu', HA.out.trans hb'⟩
/-- what the call built reads on, whatever becomes of elder memory -/
theorem built_on {w w' : World} {base : Nat} {v : Value} {l : List Int} (h : Built IntR w base 3 v l) (ht : Turned (fun b => b < base) w w') : Ints w' v l := by
  rcases Nat.eq_zero_or_pos l.length with h0 | h0
  · have hl0 : l = [] := List.length_eq_zero_iff.1 h0
    subst hl0
    obtain ⟨A, C, e, g1, g2, g3⟩ := h.slice.shape
    exact ⟨A, 0, C, e, rfl, Nat.zero_le _, by unfold maxLen; exact g2, g3, fun i hi => absurd hi (by simp)⟩
  · have hi := ints_i64 h.slice
    obtain ⟨g, C, rfl, g1, g2, g3, g4⟩ := built_rowZ h h0
    exact (g4.keep (ht.block g (g4.lt h0) (by omega))).ints hi g1 g2
set_option maxHeartbeats 1000000 in
theorem inGoC (v : Value) (l : List Int) (w : World) (h : Ints w v l) (hl : l.length ≤ 101) :
    Calls Try.prog 11 #[v] w fun e w' => e = .returned (.int .i64 (cnt l : Nat)) ∧ w = w' := by
  obtain ⟨A, C, rfl, g1, g2, -⟩ := h.shape
  have HI := Lib.hid h
  have hcl : ∀ k, cnt (l.take k) ≤ l.length := fun k => Nat.le_trans (cnt_le _) (by rw [List.length_take]; omega)
  have HCL := Lib.hid hcl
  obtain ⟨L, hL⟩ : ∃ L, l.length = L := ⟨_, rfl⟩
  have HL := Lib.hid hL
  rw [hL] at g1 HI HCL hl ⊢
  clear h hL hcl
  go_enter Try.func11, Try.ntmps11
  go_wp2
  go_loop [3, 8] (fun n c => ∃ k : Nat, k ≤ L ∧ c = .int .i64 k ∧ n = .int .i64 (cnt (l.take k) : Nat)) (fun _ c => L - (intOf c).toNat)
  case atStart => exact ⟨0, Nat.zero_le _, rfl, rfl⟩
  case round =>
    obtain ⟨k, hk, rfl, rfl⟩ := hrel
    have hcl := HCL.out k
    by_cases hlt : k < L
    · have hk' : k < l.length := by rw [HL.out]; exact hlt
      obtain ⟨b, o, rfl, hc, hz⟩ := HI.out.at hk'
      have HNX := Lib.hid (cnt_take hk')
      obtain ⟨x, hx⟩ : ∃ x, l[k] = x := ⟨_, rfl⟩
      rw [hx] at hc hz HNX
      obtain ⟨N, hN⟩ : ∃ N, cnt (l.take k) = N := ⟨_, rfl⟩
      rw [hN] at hcl HNX ⊢
      have q1 : (k : Int) < (L : Int) := by omega
      have q2 : (0 : Int) ≤ (k : Int) := by omega
      clear hx hk' hN
      by_cases h1 : x = 1
      · have hq : (x == 1) = true := by rw [h1]; rfl
        rw [if_pos h1] at HNX
        clear h1
        go_wp2
        go_round
        case rel => exact ⟨k + 1, by omega, by go_num, by rw [HNX.out]; go_num⟩
        case measure => simp [intOf]; omega
      · have hq : (x == 1) = false := by simpa using h1
        rw [if_neg h1] at HNX
        clear h1
        go_wp2
        go_round
        case rel => exact ⟨k + 1, by omega, by go_num, by rw [HNX.out]; rfl⟩
        case measure => simp [intOf]; omega
    · obtain rfl : k = L := by omega
      rw [List.take_of_length_le (Nat.le_of_eq HL.out)]
      have q1 : ¬ (k : Int) < (k : Int) := by omega
      go_wp2
      go_ret
      exact ⟨rfl, rfl⟩
set_option maxHeartbeats 1000000 in
theorem ofC (v : Value) (l : List Int) (n : Int) (w : World) (h : Ints w v l) (hn : I64 n) :
    Calls Try.prog 16 #[v, .int .i64 n] w fun e w' => e = .returned (.int .i64 (stAt l n)) ∧ w = w' := by
  obtain ⟨n1, n2⟩ := hn
  obtain ⟨A, C, rfl, g1, g2, -⟩ := h.shape
  by_cases h0 : n < 0
  · rw [stAt_out (.inl h0)]
    have d0 : decide (n < 0) = true := by simpa using h0
    go_enter Try.func16, Try.ntmps16
    go_wp2
    go_ret
    exact ⟨rfl, rfl⟩
  · have d0 : decide (n < 0) = false := by simpa using h0
    obtain ⟨k, rfl⟩ : ∃ k : Nat, n = k := ⟨n.toNat, by omega⟩
    by_cases h1 : l.length ≤ k
    · rw [stAt_out (.inr (by omega))]
      have d1 : decide (l.length ≤ k) = true := by simpa using h1
      go_enter Try.func16, Try.ntmps16
      go_wp2
      go_ret
      exact ⟨rfl, rfl⟩
    · have d1 : decide (l.length ≤ k) = false := by simpa using h1
      have hk : k < l.length := by omega
      rw [stAt_in hk]
      obtain ⟨b, o, rfl, hc, hz⟩ := h.at hk
      obtain ⟨x, hx⟩ : ∃ x, l[k] = x := ⟨_, rfl⟩
      rw [show l.getD k 0 = x by rw [← hx]; simp [List.getD, hk]]
      rw [hx] at hc hz
      obtain ⟨L, hL⟩ : ∃ L, l.length = L := ⟨_, rfl⟩
      rw [hL] at d1 hk g1 h1 ⊢
      clear hx h hL
      go_enter Try.func16, Try.ntmps16
      go_wp2
      go_ret
      exact ⟨rfl, rfl⟩
set_option maxHeartbeats 1000000 in
theorem withC (v : Value) (l : List Int) (k : Nat) (x : Int) (w : World) (h : Ints w v l) (hl : l.length ≤ 101) (hk : k < l.length) (hx : I64 x) :
    Calls Try.prog 17 #[v, .int .i64 k, .int .i64 x] w fun e w' => ∃ u, e = .returned u ∧ (∀ w'', Turned (fun b => b < w.heap.size) w' w'' → Ints w'' u (l.set k x)) ∧ Below w.heap.size w w' := by
  have HK := Lib.hid hk
  have HLL := Lib.hid hl
  have HI := Lib.hid h
  have hx' := hx
  obtain ⟨x1, x2⟩ := hx'
  have k1 : (k : Int) ≤ 9223372036854775807 := by omega
  clear h hl hk
  go_enter Try.func17, Try.ntmps17
  go_wp2_with fail
  refine (cloneC l _ _ HI.out HLL.out).mono ?_
  rintro _ w1 ⟨u, rfl, hb1, hb2⟩
  have hall := ints_i64 hb1.slice
  obtain ⟨g, C, rfl, g1, g2, g3, g4⟩ := built_rowZ hb1 (by have := HK.out; omega)
  have hset := g4.set k x
  have hc := g4.cell k HK.out
  have hf := g4.free k HK.out
  have hfin : ∀ w'', Turned (fun b => b < w.heap.size) (w1.setCell ⟨g, k, none⟩ (.int .i64 x)) w'' → Ints w'' (.slice (some ⟨g, 0, none⟩) l.length C) (l.set k x) := by
    intro w'' ht
    have hr : RowZ w'' g (l.set k x) := hset.keep (ht.block g (by have := g4.lt (by have := HK.out; omega); simpa [World.setCell] using this) (by omega))
    have := hr.ints (C := C) (fun y hy => by
      rcases List.mem_or_eq_of_mem_set hy with h1 | h1
      · exact hall y h1
      · rw [h1]; exact hx) (by simpa using g1) g2
    simpa using this
  have HF := Lib.hid hfin
  have HW := Lib.hid (show Below w.heap.size w (w1.setCell ⟨g, k, none⟩ (.int .i64 x)) from hb2.setCell g3 _)
  have hkl : k < l.length := HK.out
  obtain ⟨L, hL⟩ : ∃ L, l.length = L := ⟨_, rfl⟩
  rw [hL] at HF hkl g1 ⊢
  clear hset hall hb1 hb2 g4 hL hfin
  go_wp2
  go_ret
  exact ⟨_, rfl, HF.out, HW.out⟩
end Go.Proofs.Ytemafhpogkbbkaa.Epo
