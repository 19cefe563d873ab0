/- Law RsDecode as a walk. -/
import Derived.Test.YtmcodfjaeaociaaRsAns
namespace Go.Proofs.Ytmcodfjaeaociaa.Rs
open Go.RowKit Go.Shelf
open Go.Mem Mat
/-- each of the first k is no shard, or one of its length -/
def rightUpto (S : List (List Nat)) : Nat → Bool
  | 0 => true
  | k + 1 => rightUpto S k && rightB (S.getD k [])
theorem rightUpto_all {S : List (List Nat)} : ∀ k, rightUpto S k = true ↔ ∀ i, i < k → rightB (S.getD i []) = true
  | 0 => ⟨fun _ i h => absurd h (by omega), fun _ => rfl⟩
  | k + 1 => by
    rw [rightUpto, Bool.and_eq_true, rightUpto_all k]
    exact ⟨fun ⟨h, g⟩ i hi => by
      by_cases e : i = k
      · rw [e]; exact g
      · exact h i (by omega), fun h => ⟨fun i hi => h i (by omega), h k (by omega)⟩⟩
theorem rightUpto_len {S : List (List Nat)} : rightUpto S S.length = rightAll S := by
  rw [Bool.eq_iff_iff, rightUpto_all, rightAll_iff]
  exact ⟨fun h i hi _ => by have := h i hi; rwa [show S.getD i [] = S[i] by simp [hi]] at this, fun h i hi => by rw [show S.getD i [] = S[i] by simp [hi]]; exact h i hi hi⟩
theorem get_at {S : List (List Nat)} {i : Nat} (h : i < S.length) : S.getD i [] = S[i] := by simp [h]
theorem cnt_hit {S : List (List Nat)} {i : Nat} (h : i < S.length) (hz : ¬ S[i].length = 0) : (idx S (i + 1)).length = (idx S i).length + 1 := by
  rw [idx_hit (by rw [get_at h]; omega)]; simp
theorem cnt_miss {S : List (List Nat)} {i : Nat} (h : i < S.length) (hz : S[i].length = 0) : (idx S (i + 1)).length = (idx S i).length := by
  rw [idx_miss (by rw [get_at h]; exact hz)]
theorem rightB_len {l : List Nat} {L : Nat} (h : l.length = L) : rightB l = (decide (L = 0) || decide (L = 8)) := by unfold rightB; rw [h]
theorem hit_first {S : List (List Nat)} {K i : Nat} (h : i < S.length) (hz : ¬ S[i].length = 0) (hk : (idx S i).length < K) : i ∈ firstK S K := by
  obtain ⟨t, e⟩ := idx_more S (i + 1) (S.length - (i + 1))
  rw [show i + 1 + (S.length - (i + 1)) = S.length by omega, idx_hit (by rw [get_at h]; omega)] at e
  unfold firstK
  rw [e, List.append_assoc, List.take_append]
  refine List.mem_append_right _ ?_
  obtain ⟨n, hn⟩ : ∃ n, K - (idx S i).length = n + 1 := ⟨K - (idx S i).length - 1, by omega⟩
  rw [hn]
  simp
set_option maxHeartbeats 1000000 in
theorem decode_far (k m : Int) (S : List (List Nat)) (v : Value) (w : World) (hS : Tab w v S) (h : 20 < S.length) :
    Calls Try.prog 4 #[.int .i64 k, .int .i64 m, v] w fun e w' => e = .returned (.bool true) ∧ Below w.heap.size w w' := by
  obtain ⟨A, C, rfl, h1, h2, _⟩ := hS.shape
  have HS := Lib.hid hS
  clear hS
  obtain ⟨L, hL⟩ : ∃ L, S.length = L := ⟨_, rfl⟩
  have HL := Lib.hid hL
  rw [hL] at h h1 ⊢
  clear hL
  have e0 : (20 : Int) < (L : Int) := by omega
  go_enter Try.func4, Try.ntmps4
  go_wp2_with fail
  refine (answersC _).mono ?_
  rintro _ w1 ⟨rfl, hB1⟩
  go_wp2_with fail
  go_ret
  exact ⟨rfl, hB1⟩
set_option maxHeartbeats 1000000 in
theorem decode_k0 (k m : Int) (S : List (List Nat)) (v : Value) (w : World) (hS : Tab w v S) (h : ¬ 20 < S.length) (c1 : k < 1) :
    Calls Try.prog 4 #[.int .i64 k, .int .i64 m, v] w fun e w' => e = .returned (.bool true) ∧ Below w.heap.size w w' := by
  obtain ⟨A, C, rfl, h1, h2, _⟩ := hS.shape
  have HN := Lib.hid (show NoDec k m S from .inl (.inl c1))
  have HS := Lib.hid hS
  clear hS
  obtain ⟨L, hL⟩ : ∃ L, S.length = L := ⟨_, rfl⟩
  have HL := Lib.hid hL
  rw [hL] at h h1 ⊢
  have e0 : ¬ (20 : Int) < (L : Int) := by omega
  clear hL
  go_enter Try.func4, Try.ntmps4
  go_wp2_with fail
  refine (decodeNo k m S _ w (HL.out ▸ HS.out) HN.out).mono ?_
  rintro _ w1 ⟨rfl, hB1⟩
  have HT := Lib.hid (HS.out.below hB1)
  rw [HL.out] at HT
  go_wp2_with fail
  go_loop [9, 10, 11] (fun f h c => ∃ i : Nat, i ≤ L ∧ f = .bool false ∧ h = .int .i64 (((idx S i).length : Nat) : Int) ∧ c = .int .i64 (i : Nat)) (fun _ _ c => L - (intOf c).toNat)
  case atStart => exact ⟨0, Nat.zero_le _, rfl, rfl, rfl⟩
  case round =>
    obtain ⟨i, hi, rfl, rfl, rfl⟩ := hrel
    have hcb := Nat.le_trans (idx_len S i) hi
    by_cases hlt : i < L
    · have hlt' : i < S.length := by rw [HL.out]; exact hlt
      obtain ⟨b, o, A', C', rfl, hc, hm, -⟩ := HT.out.at hlt'
      obtain ⟨z, hz⟩ : ∃ z, S[i].length = z := ⟨_, rfl⟩
      have HZ := Lib.hid hz
      rw [hz] at hc hm
      clear hz
      by_cases hz0 : z = 0
      · have E1 := Lib.hid (cnt_miss hlt' (HZ.out.trans hz0))
        subst hz0
        go_wp2_with fail
        go_round
        case rel => exact ⟨i + 1, by omega, rfl, by rw [E1.out], by go_num⟩
        case measure => simp [intOf]; omega
      · have E1 := Lib.hid (cnt_hit hlt' (fun e => hz0 (HZ.out.symm.trans e)))
        have q0 : (0 : Int) < (z : Int) := by omega
        have q1 : ((z : Int) == 0) = false := by rw [beq_eq_false_iff_ne]; omega
        go_wp2_with fail
        go_round
        case rel => exact ⟨i + 1, by omega, rfl, by rw [E1.out]; go_num, by go_num⟩
        case measure => simp [intOf]; omega
    · obtain rfl : i = L := by omega
      clear hi hlt
      go_wp2_with fail
      refine (answersC _).mono ?_
      rintro _ w2 ⟨rfl, hB2⟩
      go_wp2_with fail
      go_ret
      exact ⟨rfl, hB1.trans (hB2.mono hB1.size)⟩
set_option maxHeartbeats 1000000 in
theorem decode_k5 (k m : Int) (S : List (List Nat)) (v : Value) (w : World) (hS : Tab w v S) (h : ¬ 20 < S.length) (c1 : ¬ k < 1) (c2 : 4 < k) :
    Calls Try.prog 4 #[.int .i64 k, .int .i64 m, v] w fun e w' => e = .returned (.bool true) ∧ Below w.heap.size w w' := by
  obtain ⟨A, C, rfl, h1, h2, _⟩ := hS.shape
  have HN := Lib.hid (show NoDec k m S from .inl (.inr (.inl c2)))
  have HS := Lib.hid hS
  clear hS
  obtain ⟨L, hL⟩ : ∃ L, S.length = L := ⟨_, rfl⟩
  have HL := Lib.hid hL
  rw [hL] at h h1 ⊢
  have e0 : ¬ (20 : Int) < (L : Int) := by omega
  clear hL
  go_enter Try.func4, Try.ntmps4
  go_wp2_with fail
  refine (decodeNo k m S _ w (HL.out ▸ HS.out) HN.out).mono ?_
  rintro _ w1 ⟨rfl, hB1⟩
  have HT := Lib.hid (HS.out.below hB1)
  rw [HL.out] at HT
  go_wp2_with fail
  go_loop [9, 10, 11] (fun f h c => ∃ i : Nat, i ≤ L ∧ f = .bool false ∧ h = .int .i64 (((idx S i).length : Nat) : Int) ∧ c = .int .i64 (i : Nat)) (fun _ _ c => L - (intOf c).toNat)
  case atStart => exact ⟨0, Nat.zero_le _, rfl, rfl, rfl⟩
  case round =>
    obtain ⟨i, hi, rfl, rfl, rfl⟩ := hrel
    have hcb := Nat.le_trans (idx_len S i) hi
    by_cases hlt : i < L
    · have hlt' : i < S.length := by rw [HL.out]; exact hlt
      obtain ⟨b, o, A', C', rfl, hc, hm, -⟩ := HT.out.at hlt'
      obtain ⟨z, hz⟩ : ∃ z, S[i].length = z := ⟨_, rfl⟩
      have HZ := Lib.hid hz
      rw [hz] at hc hm
      clear hz
      by_cases hz0 : z = 0
      · have E1 := Lib.hid (cnt_miss hlt' (HZ.out.trans hz0))
        subst hz0
        go_wp2_with fail
        go_round
        case rel => exact ⟨i + 1, by omega, rfl, by rw [E1.out], by go_num⟩
        case measure => simp [intOf]; omega
      · have E1 := Lib.hid (cnt_hit hlt' (fun e => hz0 (HZ.out.symm.trans e)))
        have q0 : (0 : Int) < (z : Int) := by omega
        have q1 : ((z : Int) == 0) = false := by rw [beq_eq_false_iff_ne]; omega
        go_wp2_with fail
        go_round
        case rel => exact ⟨i + 1, by omega, rfl, by rw [E1.out]; go_num, by go_num⟩
        case measure => simp [intOf]; omega
    · obtain rfl : i = L := by omega
      clear hi hlt
      go_wp2_with fail
      refine (answersC _).mono ?_
      rintro _ w2 ⟨rfl, hB2⟩
      go_wp2_with fail
      go_ret
      exact ⟨rfl, hB1.trans (hB2.mono hB1.size)⟩
set_option maxHeartbeats 1000000 in
theorem decode_m0 (k m : Int) (S : List (List Nat)) (v : Value) (w : World) (hS : Tab w v S) (h : ¬ 20 < S.length) (c1 : ¬ k < 1) (c2 : ¬ 4 < k) (c3 : m < 0) :
    Calls Try.prog 4 #[.int .i64 k, .int .i64 m, v] w fun e w' => e = .returned (.bool true) ∧ Below w.heap.size w w' := by
  obtain ⟨A, C, rfl, h1, h2, _⟩ := hS.shape
  have HN := Lib.hid (show NoDec k m S from .inl (.inr (.inr (.inl c3))))
  have HS := Lib.hid hS
  clear hS
  obtain ⟨L, hL⟩ : ∃ L, S.length = L := ⟨_, rfl⟩
  have HL := Lib.hid hL
  rw [hL] at h h1 ⊢
  have e0 : ¬ (20 : Int) < (L : Int) := by omega
  clear hL
  go_enter Try.func4, Try.ntmps4
  go_wp2_with fail
  refine (decodeNo k m S _ w (HL.out ▸ HS.out) HN.out).mono ?_
  rintro _ w1 ⟨rfl, hB1⟩
  have HT := Lib.hid (HS.out.below hB1)
  rw [HL.out] at HT
  go_wp2_with fail
  go_loop [9, 10, 11] (fun f h c => ∃ i : Nat, i ≤ L ∧ f = .bool false ∧ h = .int .i64 (((idx S i).length : Nat) : Int) ∧ c = .int .i64 (i : Nat)) (fun _ _ c => L - (intOf c).toNat)
  case atStart => exact ⟨0, Nat.zero_le _, rfl, rfl, rfl⟩
  case round =>
    obtain ⟨i, hi, rfl, rfl, rfl⟩ := hrel
    have hcb := Nat.le_trans (idx_len S i) hi
    by_cases hlt : i < L
    · have hlt' : i < S.length := by rw [HL.out]; exact hlt
      obtain ⟨b, o, A', C', rfl, hc, hm, -⟩ := HT.out.at hlt'
      obtain ⟨z, hz⟩ : ∃ z, S[i].length = z := ⟨_, rfl⟩
      have HZ := Lib.hid hz
      rw [hz] at hc hm
      clear hz
      by_cases hz0 : z = 0
      · have E1 := Lib.hid (cnt_miss hlt' (HZ.out.trans hz0))
        subst hz0
        go_wp2_with fail
        go_round
        case rel => exact ⟨i + 1, by omega, rfl, by rw [E1.out], by go_num⟩
        case measure => simp [intOf]; omega
      · have E1 := Lib.hid (cnt_hit hlt' (fun e => hz0 (HZ.out.symm.trans e)))
        have q0 : (0 : Int) < (z : Int) := by omega
        have q1 : ((z : Int) == 0) = false := by rw [beq_eq_false_iff_ne]; omega
        go_wp2_with fail
        go_round
        case rel => exact ⟨i + 1, by omega, rfl, by rw [E1.out]; go_num, by go_num⟩
        case measure => simp [intOf]; omega
    · obtain rfl : i = L := by omega
      clear hi hlt
      go_wp2_with fail
      refine (answersC _).mono ?_
      rintro _ w2 ⟨rfl, hB2⟩
      go_wp2_with fail
      go_ret
      exact ⟨rfl, hB1.trans (hB2.mono hB1.size)⟩
set_option maxHeartbeats 1000000 in
theorem decode_m4 (k m : Int) (S : List (List Nat)) (v : Value) (w : World) (hS : Tab w v S) (h : ¬ 20 < S.length) (c1 : ¬ k < 1) (c2 : ¬ 4 < k) (c3 : ¬ m < 0) (c4 : 3 < m) :
    Calls Try.prog 4 #[.int .i64 k, .int .i64 m, v] w fun e w' => e = .returned (.bool true) ∧ Below w.heap.size w w' := by
  obtain ⟨A, C, rfl, h1, h2, _⟩ := hS.shape
  have HN := Lib.hid (show NoDec k m S from .inl (.inr (.inr (.inr c4))))
  have HS := Lib.hid hS
  clear hS
  obtain ⟨L, hL⟩ : ∃ L, S.length = L := ⟨_, rfl⟩
  have HL := Lib.hid hL
  rw [hL] at h h1 ⊢
  have e0 : ¬ (20 : Int) < (L : Int) := by omega
  clear hL
  go_enter Try.func4, Try.ntmps4
  go_wp2_with fail
  refine (decodeNo k m S _ w (HL.out ▸ HS.out) HN.out).mono ?_
  rintro _ w1 ⟨rfl, hB1⟩
  have HT := Lib.hid (HS.out.below hB1)
  rw [HL.out] at HT
  go_wp2_with fail
  go_loop [9, 10, 11] (fun f h c => ∃ i : Nat, i ≤ L ∧ f = .bool false ∧ h = .int .i64 (((idx S i).length : Nat) : Int) ∧ c = .int .i64 (i : Nat)) (fun _ _ c => L - (intOf c).toNat)
  case atStart => exact ⟨0, Nat.zero_le _, rfl, rfl, rfl⟩
  case round =>
    obtain ⟨i, hi, rfl, rfl, rfl⟩ := hrel
    have hcb := Nat.le_trans (idx_len S i) hi
    by_cases hlt : i < L
    · have hlt' : i < S.length := by rw [HL.out]; exact hlt
      obtain ⟨b, o, A', C', rfl, hc, hm, -⟩ := HT.out.at hlt'
      obtain ⟨z, hz⟩ : ∃ z, S[i].length = z := ⟨_, rfl⟩
      have HZ := Lib.hid hz
      rw [hz] at hc hm
      clear hz
      by_cases hz0 : z = 0
      · have E1 := Lib.hid (cnt_miss hlt' (HZ.out.trans hz0))
        subst hz0
        go_wp2_with fail
        go_round
        case rel => exact ⟨i + 1, by omega, rfl, by rw [E1.out], by go_num⟩
        case measure => simp [intOf]; omega
      · have E1 := Lib.hid (cnt_hit hlt' (fun e => hz0 (HZ.out.symm.trans e)))
        have q0 : (0 : Int) < (z : Int) := by omega
        have q1 : ((z : Int) == 0) = false := by rw [beq_eq_false_iff_ne]; omega
        go_wp2_with fail
        go_round
        case rel => exact ⟨i + 1, by omega, rfl, by rw [E1.out]; go_num, by go_num⟩
        case measure => simp [intOf]; omega
    · obtain rfl : i = L := by omega
      clear hi hlt
      go_wp2_with fail
      refine (answersC _).mono ?_
      rintro _ w2 ⟨rfl, hB2⟩
      go_wp2_with fail
      go_ret
      exact ⟨rfl, hB1.trans (hB2.mono hB1.size)⟩
set_option maxHeartbeats 1000000 in
theorem decode_len (k m : Int) (S : List (List Nat)) (v : Value) (w : World) (hS : Tab w v S) (h : ¬ 20 < S.length) (c1 : ¬ k < 1) (c2 : ¬ 4 < k) (c3 : ¬ m < 0) (c4 : ¬ 3 < m) (c5 : ¬ (S.length : Int) = k + m) :
    Calls Try.prog 4 #[.int .i64 k, .int .i64 m, v] w fun e w' => e = .returned (.bool true) ∧ Below w.heap.size w w' := by
  obtain ⟨A, C, rfl, h1, h2, _⟩ := hS.shape
  have HN := Lib.hid (show NoDec k m S from .inr (.inl c5))
  have HS := Lib.hid hS
  clear hS
  obtain ⟨L, hL⟩ : ∃ L, S.length = L := ⟨_, rfl⟩
  have HL := Lib.hid hL
  rw [hL] at h h1 ⊢
  have e0 : ¬ (20 : Int) < (L : Int) := by omega
  rw [hL] at c5
  have q5 : ((L : Int) == k + m) = false := by simpa using c5
  clear hL
  go_enter Try.func4, Try.ntmps4
  go_wp2_with fail
  refine (decodeNo k m S _ w (HL.out ▸ HS.out) HN.out).mono ?_
  rintro _ w1 ⟨rfl, hB1⟩
  have HT := Lib.hid (HS.out.below hB1)
  rw [HL.out] at HT
  go_wp2_with fail
  go_loop [9, 10, 11] (fun f h c => ∃ i : Nat, i ≤ L ∧ f = .bool false ∧ h = .int .i64 (((idx S i).length : Nat) : Int) ∧ c = .int .i64 (i : Nat)) (fun _ _ c => L - (intOf c).toNat)
  case atStart => exact ⟨0, Nat.zero_le _, rfl, rfl, rfl⟩
  case round =>
    obtain ⟨i, hi, rfl, rfl, rfl⟩ := hrel
    have hcb := Nat.le_trans (idx_len S i) hi
    by_cases hlt : i < L
    · have hlt' : i < S.length := by rw [HL.out]; exact hlt
      obtain ⟨b, o, A', C', rfl, hc, hm, -⟩ := HT.out.at hlt'
      obtain ⟨z, hz⟩ : ∃ z, S[i].length = z := ⟨_, rfl⟩
      have HZ := Lib.hid hz
      rw [hz] at hc hm
      clear hz
      by_cases hz0 : z = 0
      · have E1 := Lib.hid (cnt_miss hlt' (HZ.out.trans hz0))
        subst hz0
        go_wp2_with fail
        go_round
        case rel => exact ⟨i + 1, by omega, rfl, by rw [E1.out], by go_num⟩
        case measure => simp [intOf]; omega
      · have E1 := Lib.hid (cnt_hit hlt' (fun e => hz0 (HZ.out.symm.trans e)))
        have q0 : (0 : Int) < (z : Int) := by omega
        have q1 : ((z : Int) == 0) = false := by rw [beq_eq_false_iff_ne]; omega
        go_wp2_with fail
        go_round
        case rel => exact ⟨i + 1, by omega, rfl, by rw [E1.out]; go_num, by go_num⟩
        case measure => simp [intOf]; omega
    · obtain rfl : i = L := by omega
      clear hi hlt
      go_wp2_with fail
      refine (answersC _).mono ?_
      rintro _ w2 ⟨rfl, hB2⟩
      go_wp2_with fail
      go_ret
      exact ⟨rfl, hB1.trans (hB2.mono hB1.size)⟩
set_option maxHeartbeats 1000000 in
theorem decode_wrong (k m : Int) (S : List (List Nat)) (v : Value) (w : World) (hS : Tab w v S) (h : ¬ 20 < S.length) (c1 : ¬ k < 1) (c2 : ¬ 4 < k) (c3 : ¬ m < 0) (c4 : ¬ 3 < m) (c5 : (S.length : Int) = k + m) (c6 : rightAll S = false) :
    Calls Try.prog 4 #[.int .i64 k, .int .i64 m, v] w fun e w' => e = .returned (.bool true) ∧ Below w.heap.size w w' := by
  obtain ⟨A, C, rfl, h1, h2, _⟩ := hS.shape
  have HN := Lib.hid (show NoDec k m S from .inr (.inr c6))
  have HS := Lib.hid hS
  clear hS
  obtain ⟨L, hL⟩ : ∃ L, S.length = L := ⟨_, rfl⟩
  have HL := Lib.hid hL
  rw [hL] at h h1 ⊢
  have e0 : ¬ (20 : Int) < (L : Int) := by omega
  rw [hL] at c5
  have HF := Lib.hid (show rightUpto S L = false by rw [← hL, rightUpto_len]; exact c6)
  have q5 : ((L : Int) == k + m) = true := by simpa using c5
  clear c5 c6
  clear hL
  go_enter Try.func4, Try.ntmps4
  go_wp2_with fail
  refine (decodeNo k m S _ w (HL.out ▸ HS.out) HN.out).mono ?_
  rintro _ w1 ⟨rfl, hB1⟩
  have HT := Lib.hid (HS.out.below hB1)
  rw [HL.out] at HT
  go_wp2_with fail
  go_loop [9, 10, 11] (fun f h c => ∃ i : Nat, i ≤ L ∧ f = .bool (rightUpto S i) ∧ h = .int .i64 (((idx S i).length : Nat) : Int) ∧ c = .int .i64 (i : Nat)) (fun _ _ c => L - (intOf c).toNat)
  case atStart => exact ⟨0, Nat.zero_le _, rfl, rfl, rfl⟩
  case round =>
    obtain ⟨i, hi, rfl, rfl, rfl⟩ := hrel
    have hcb := Nat.le_trans (idx_len S i) hi
    by_cases hlt : i < L
    · have hlt' : i < S.length := by rw [HL.out]; exact hlt
      obtain ⟨b, o, A', C', rfl, hc, hm, -⟩ := HT.out.at hlt'
      obtain ⟨z, hz⟩ : ∃ z, S[i].length = z := ⟨_, rfl⟩
      have HZ := Lib.hid hz
      rw [hz] at hc hm
      clear hz
      by_cases hz0 : z = 0
      · have E1 := Lib.hid (cnt_miss hlt' (HZ.out.trans hz0))
        have E2 := Lib.hid (show rightUpto S (i + 1) = rightUpto S i by rw [rightUpto, get_at hlt', rightB_len HZ.out, hz0]; simp)
        subst hz0
        cases hru : rightUpto S i with
        | true =>
          go_wp2_with fail
          go_round
          case rel => exact ⟨i + 1, by omega, by rw [E2.out, hru], by rw [E1.out], by go_num⟩
          case measure => simp [intOf]; omega
        | false =>
          go_wp2_with fail
          go_round
          case rel => exact ⟨i + 1, by omega, by rw [E2.out, hru], by rw [E1.out], by go_num⟩
          case measure => simp [intOf]; omega
      · have E1 := Lib.hid (cnt_hit hlt' (fun e => hz0 (HZ.out.symm.trans e)))
        have q0 : (0 : Int) < (z : Int) := by omega
        have q1 : ((z : Int) == 0) = false := by rw [beq_eq_false_iff_ne]; omega
        by_cases hz8 : z = 8
        · have E2 := Lib.hid (show rightUpto S (i + 1) = rightUpto S i by rw [rightUpto, get_at hlt', rightB_len HZ.out, hz8]; simp)
          subst hz8
          cases hru : rightUpto S i with
          | true =>
            go_wp2_with fail
            go_round
            case rel => exact ⟨i + 1, by omega, by rw [E2.out, hru], by rw [E1.out]; go_num, by go_num⟩
            case measure => simp [intOf]; omega
          | false =>
            go_wp2_with fail
            go_round
            case rel => exact ⟨i + 1, by omega, by rw [E2.out, hru], by rw [E1.out]; go_num, by go_num⟩
            case measure => simp [intOf]; omega
        · have E2 := Lib.hid (show rightUpto S (i + 1) = false by rw [rightUpto, get_at hlt', rightB_len HZ.out]; simp [hz0, hz8])
          have q8 : ((z : Int) == 8) = false := by rw [beq_eq_false_iff_ne]; omega
          cases hru : rightUpto S i with
          | true =>
            go_wp2_with fail
            go_round
            case rel => exact ⟨i + 1, by omega, by rw [E2.out], by rw [E1.out]; go_num, by go_num⟩
            case measure => simp [intOf]; omega
          | false =>
            go_wp2_with fail
            go_round
            case rel => exact ⟨i + 1, by omega, by rw [E2.out], by rw [E1.out]; go_num, by go_num⟩
            case measure => simp [intOf]; omega
    · obtain rfl : i = L := by omega
      clear hi hlt
      rw [HF.out]
      go_wp2_with fail
      refine (answersC _).mono ?_
      rintro _ w2 ⟨rfl, hB2⟩
      go_wp2_with fail
      go_ret
      exact ⟨rfl, hB1.trans (hB2.mono hB1.size)⟩
set_option maxHeartbeats 1000000 in
theorem decode_few (k m : Int) (S : List (List Nat)) (v : Value) (w : World) (hS : Tab w v S) (h : ¬ 20 < S.length) (c1 : ¬ k < 1) (c2 : ¬ 4 < k) (c3 : ¬ m < 0) (c4 : ¬ 3 < m) (c5 : (S.length : Int) = k + m) (c6 : rightAll S = true) (c7 : ((idx S S.length).length : Int) < k) :
    Calls Try.prog 4 #[.int .i64 k, .int .i64 m, v] w fun e w' => e = .returned (.bool true) ∧ Below w.heap.size w w' := by
  obtain ⟨K, rfl⟩ := Int.eq_ofNat_of_zero_le (show 0 ≤ k by omega)
  obtain ⟨M, rfl⟩ := Int.eq_ofNat_of_zero_le (show 0 ≤ m by omega)
  have hK0 : 1 ≤ K := by omega
  have hK : K ≤ 4 := by omega
  have hM : M ≤ 3 := by omega
  have hlen : S.length = K + M := by omega
  obtain ⟨A, C, rfl, h1, h2, _⟩ := hS.shape
  have HS := Lib.hid hS
  clear hS
  obtain ⟨L, hL⟩ : ∃ L, S.length = L := ⟨_, rfl⟩
  have HL := Lib.hid hL
  rw [hL] at h h1 ⊢
  have HLEN := Lib.hid hlen
  have HRA := Lib.hid c6
  have HBY := Lib.hid (Tab_bd HS.out)
  have HR := Lib.hid (show ∀ i, 0 < (S.getD i []).length → (S.getD i []).length = 8 from rightAll_len c6)
  rw [hL] at hlen c7
  have e0 : ¬ (20 : Int) < (L : Int) := by omega
  have q5 : ((L : Int) == (K : Int) + (M : Int)) = true := by rw [beq_iff_eq]; omega
  clear hL c5 c6 hlen
  go_enter Try.func4, Try.ntmps4
  go_wp2_with fail
  refine (decodeYes K M S _ w (HL.out ▸ HS.out) hK0 hK hM HLEN.out HRA.out).mono ?_
  rintro e w1 ⟨hB1, hp⟩
  have HT := Lib.hid (HS.out.below hB1)
  rw [HL.out] at HT
  rcases hp with ⟨_, rfl⟩ | ⟨hle, _⟩
  · go_wp2_with fail
    go_loop [9, 10, 11] (fun f h c => ∃ i : Nat, i ≤ L ∧ f = .bool true ∧ h = .int .i64 (((idx S i).length : Nat) : Int) ∧ c = .int .i64 (i : Nat)) (fun _ _ c => L - (intOf c).toNat)
    case atStart => exact ⟨0, Nat.zero_le _, rfl, rfl, rfl⟩
    case round =>
      obtain ⟨i, hi, rfl, rfl, rfl⟩ := hrel
      have hcb := Nat.le_trans (idx_len S i) hi
      by_cases hlt : i < L
      · have hlt' : i < S.length := by rw [HL.out]; exact hlt
        obtain ⟨b, o, A', C', rfl, hc, hm, -⟩ := HT.out.at hlt'
        obtain ⟨z, hz⟩ : ∃ z, S[i].length = z := ⟨_, rfl⟩
        have HZ := Lib.hid hz
        rw [hz] at hc hm
        clear hz
        by_cases hz0 : z = 0
        · have E1 := Lib.hid (cnt_miss hlt' (HZ.out.trans hz0))
          subst hz0
          go_wp2_with fail
          go_round
          case rel => exact ⟨i + 1, by omega, rfl, by rw [E1.out], by go_num⟩
          case measure => simp [intOf]; omega
        · have E1 := Lib.hid (cnt_hit hlt' (fun e => hz0 (HZ.out.symm.trans e)))
          have q0 : (0 : Int) < (z : Int) := by omega
          have q1 : ((z : Int) == 0) = false := by rw [beq_eq_false_iff_ne]; omega
          have hz8 : z = 8 := by
            have h := HR.out i (by rw [get_at hlt', HZ.out]; omega)
            rw [get_at hlt', HZ.out] at h
            exact h
          subst hz8
          go_wp2_with fail
          go_round
          case rel => exact ⟨i + 1, by omega, rfl, by rw [E1.out]; go_num, by go_num⟩
          case measure => simp [intOf]; omega
      · obtain rfl : i = L := by omega
        clear hi hlt
        go_wp2_with fail
        refine (answersC _).mono ?_
        rintro _ w2 ⟨rfl, hB2⟩
        go_wp2_with fail
        go_ret
        exact ⟨rfl, hB1.trans (hB2.mono hB1.size)⟩
  · exact absurd hle (by rw [HL.out]; omega)
set_option maxHeartbeats 1000000 in
theorem decode_full (k m : Int) (S : List (List Nat)) (v : Value) (w : World) (hS : Tab w v S) (h : ¬ 20 < S.length) (c1 : ¬ k < 1) (c2 : ¬ 4 < k) (c3 : ¬ m < 0) (c4 : ¬ 3 < m) (c5 : (S.length : Int) = k + m) (c6 : rightAll S = true) (c7 : ¬ ((idx S S.length).length : Int) < k) :
    Calls Try.prog 4 #[.int .i64 k, .int .i64 m, v] w fun e w' => e = .returned (.bool true) ∧ Below w.heap.size w w' := by
  obtain ⟨K, rfl⟩ := Int.eq_ofNat_of_zero_le (show 0 ≤ k by omega)
  obtain ⟨M, rfl⟩ := Int.eq_ofNat_of_zero_le (show 0 ≤ m by omega)
  have hK0 : 1 ≤ K := by omega
  have hK : K ≤ 4 := by omega
  have hM : M ≤ 3 := by omega
  have hlen : S.length = K + M := by omega
  obtain ⟨A, C, rfl, h1, h2, _⟩ := hS.shape
  have HS := Lib.hid hS
  clear hS
  obtain ⟨L, hL⟩ : ∃ L, S.length = L := ⟨_, rfl⟩
  have HL := Lib.hid hL
  rw [hL] at h h1 ⊢
  have HLEN := Lib.hid hlen
  have HRA := Lib.hid c6
  have HBY := Lib.hid (Tab_bd HS.out)
  have HR := Lib.hid (show ∀ i, 0 < (S.getD i []).length → (S.getD i []).length = 8 from rightAll_len c6)
  rw [hL] at hlen c7
  have e0 : ¬ (20 : Int) < (L : Int) := by omega
  have q5 : ((L : Int) == (K : Int) + (M : Int)) = true := by rw [beq_iff_eq]; omega
  clear hL c5 c6 hlen
  go_enter Try.func4, Try.ntmps4
  go_wp2_with fail
  refine (decodeYes K M S _ w (HL.out ▸ HS.out) hK0 hK hM HLEN.out HRA.out).mono ?_
  rintro e w1 ⟨hB1, hp⟩
  have HT := Lib.hid (HS.out.below hB1)
  rw [HL.out] at HT
  rcases hp with ⟨hfew, _⟩ | ⟨hle, u, B, rfl, hu, hbu⟩
  · exact absurd hfew (by rw [HL.out]; omega)
  · obtain ⟨d, hd⟩ : ∃ d, catTo (times B (rowsAt S (firstK S K))) K = d := ⟨_, rfl⟩
    have hde := dec_enc hK0 HBY.out HLEN.out (right_first HRA.out) hle hu
    rw [hd] at hbu hde
    have HDL := Lib.hid hde.1
    have HEQ := Lib.hid hde.2
    obtain ⟨A2, C2, rfl, _, _, _⟩ := hbu.shape
    rw [hde.1] at hbu ⊢
    have HBU := Lib.hid hbu
    clear hle hu hd hde hbu
    go_wp2_with fail
    go_loop [9, 10, 11] (fun f h c => ∃ i : Nat, i ≤ L ∧ f = .bool true ∧ h = .int .i64 (((idx S i).length : Nat) : Int) ∧ c = .int .i64 (i : Nat)) (fun _ _ c => L - (intOf c).toNat)
    case atStart => exact ⟨0, Nat.zero_le _, rfl, rfl, rfl⟩
    case round =>
      obtain ⟨i, hi, rfl, rfl, rfl⟩ := hrel
      have hcb := Nat.le_trans (idx_len S i) hi
      by_cases hlt : i < L
      · have hlt' : i < S.length := by rw [HL.out]; exact hlt
        obtain ⟨b, o, A', C', rfl, hc, hm, -⟩ := HT.out.at hlt'
        obtain ⟨z, hz⟩ : ∃ z, S[i].length = z := ⟨_, rfl⟩
        have HZ := Lib.hid hz
        rw [hz] at hc hm
        clear hz
        by_cases hz0 : z = 0
        · have E1 := Lib.hid (cnt_miss hlt' (HZ.out.trans hz0))
          subst hz0
          go_wp2_with fail
          go_round
          case rel => exact ⟨i + 1, by omega, rfl, by rw [E1.out], by go_num⟩
          case measure => simp [intOf]; omega
        · have E1 := Lib.hid (cnt_hit hlt' (fun e => hz0 (HZ.out.symm.trans e)))
          have q0 : (0 : Int) < (z : Int) := by omega
          have q1 : ((z : Int) == 0) = false := by rw [beq_eq_false_iff_ne]; omega
          have hz8 : z = 8 := by
            have h := HR.out i (by rw [get_at hlt', HZ.out]; omega)
            rw [get_at hlt', HZ.out] at h
            exact h
          subst hz8
          go_wp2_with fail
          go_round
          case rel => exact ⟨i + 1, by omega, rfl, by rw [E1.out]; go_num, by go_num⟩
          case measure => simp [intOf]; omega
      · obtain rfl : i = L := by omega
        clear hi hlt
        have hnk : ¬ ((((idx S i).length : Nat) : Int) < (K : Int)) := by omega
        go_wp2_with fail
        refine (refEncode K M d _ w1 HBU.out hK0 hK hM HDL.out).mono ?_
        rintro _ w2 ⟨v2, rfl, hT2, hB2⟩
        have HT2 := Lib.hid hT2
        obtain ⟨A3, C3, rfl, _, _, _⟩ := hT2.shape
        clear hT2
        have HTS := Lib.hid (HT.out.below hB2)
        rw [encT_len] at HT2
        go_wp2_with fail
        rw [encT_len]
        go_loopw [13, 14] (fun a c wr => ∃ (j q : Nat), j ≤ i ∧ (idx S j).length ≤ K ∧ a = .int .i64 (((idx S j).length : Nat) : Int) ∧ c = .int .i64 (j : Nat) ∧ wr = w2.drewN q) (fun _ c _ => i - (intOf c).toNat)
        case atStart => exact ⟨0, 0, Nat.zero_le _, Nat.zero_le _, rfl, rfl, rfl⟩
        case round =>
          obtain ⟨j, q, hj, hjk, rfl, rfl, rfl⟩ := hrel
          have hcj := Nat.le_trans (idx_len S j) hj
          by_cases hlt : j < i
          · by_cases hfull : (idx S j).length < K
            · have hlt' : j < S.length := by rw [HL.out]; exact hlt
              obtain ⟨b, o, A', C', rfl, hc, hm, hb⟩ := HTS.out.at hlt'
              obtain ⟨z, hz⟩ : ∃ z, S[j].length = z := ⟨_, rfl⟩
              have HZ := Lib.hid hz
              rw [hz] at hc hm hb
              clear hz
              by_cases hz0 : z = 0
              · have E1 := Lib.hid (cnt_miss hlt' (HZ.out.trans hz0))
                subst hz0
                go_wp2_with fail
                go_roundw
                case rel => exact ⟨j + 1, q, by omega, by rw [E1.out]; omega, by rw [E1.out], by go_num, rfl⟩
                case measure => simp [intOf]; omega
              · have E1 := Lib.hid (cnt_hit hlt' (fun e => hz0 (HZ.out.symm.trans e)))
                have E3 := Lib.hid (hit_first hlt' (fun e => hz0 (HZ.out.symm.trans e)) hfull)
                have E4 := Lib.hid (HEQ.out j E3.out)
                have q0 : (0 : Int) < (z : Int) := by omega
                cases A3 with
                | none =>
                  obtain ⟨_, _, _, _, e, -⟩ := HT2.out.at (i := j) (by rw [encT_len, ← HLEN.out]; exact hlt')
                  cases e
                | some ad =>
                  obtain ⟨b3, o3, _, _, e, -⟩ := HT2.out.at (i := j) (by rw [encT_len, ← HLEN.out]; exact hlt')
                  cases e
                  obtain ⟨A4, L4, C4, hc4, hb4⟩ := Tab.get HT2.out (i := j) (by rw [encT_len, ← HLEN.out]; exact hlt')
                  rw [E4.out, get_at hlt'] at hb4
                  have hs : sameB S[j] S[j] = true := decide_eq_true rfl
                  have q7 : (j : Int) < (K : Int) + (M : Int) := by have := HLEN.out; omega
                  go_wp2_with fail
                  go_quiet ((go_at_call 14; exact quiet_at (sameC S[j] S[j] _ _ _ (hb.drewN _) (hb4.drewN _))))
                  go_wp2
                  go_roundw
                  case rel => exact ⟨j + 1, _, by omega, by rw [E1.out]; omega, by rw [E1.out]; go_num, by go_num, rfl⟩
                  case measure => simp [intOf]; omega
            · have e9 : ¬ ((((idx S j).length : Nat) : Int) < (K : Int)) := by omega
              go_wp2_with fail
              refine (answersC _).mono ?_
              rintro _ w5 ⟨rfl, hB5⟩
              go_wp2_with fail
              go_ret
              have hh := hB1.trans (hB2.mono hB1.size)
              have hh2 := hh.trans (below_drewN _ w2 q)
              exact ⟨rfl, hh2.trans (hB5.mono hh2.size)⟩
          · obtain rfl : j = i := by omega
            go_wp2_with fail
            refine (answersC _).mono ?_
            rintro _ w5 ⟨rfl, hB5⟩
            go_wp2_with fail
            go_ret
            have hh := hB1.trans (hB2.mono hB1.size)
            have hh2 := hh.trans (below_drewN _ w2 q)
            exact ⟨rfl, hh2.trans (hB5.mono hh2.size)⟩
theorem RsDecodeC (k m : Int) (S : List (List Nat)) (v : Value) (w : World) (hS : Tab w v S) :
    Calls Try.prog 4 #[.int .i64 k, .int .i64 m, v] w fun e w' => e = .returned (.bool true) ∧ Below w.heap.size w w' := by
  by_cases h : 20 < S.length
  · exact decode_far k m S v w hS h
  by_cases c1 : k < 1
  · exact decode_k0 k m S v w hS h c1
  by_cases c2 : 4 < k
  · exact decode_k5 k m S v w hS h c1 c2
  by_cases c3 : m < 0
  · exact decode_m0 k m S v w hS h c1 c2 c3
  by_cases c4 : 3 < m
  · exact decode_m4 k m S v w hS h c1 c2 c3 c4
  by_cases c5 : (S.length : Int) = k + m
  · cases c6 : rightAll S with
    | true =>
      by_cases c7 : ((idx S S.length).length : Int) < k
      · exact decode_few k m S v w hS h c1 c2 c3 c4 c5 c6 c7
      · exact decode_full k m S v w hS h c1 c2 c3 c4 c5 c6 c7
    | false => exact decode_wrong k m S v w hS h c1 c2 c3 c4 c5 c6
  · exact decode_len k m S v w hS h c1 c2 c3 c4 c5
end Go.Proofs.Ytmcodfjaeaociaa.Rs
