/- Law RsEncode as a walk. -/
import Derived.Test.YtmcodfjaeaociaaRsAns
namespace Go.Proofs.Ytmcodfjaeaociaa.Rs
open Go.RowKit Go.Shelf
open Go.Mem Mat
set_option maxHeartbeats 1000000 in
theorem encode_far (k m : Int) (d : List Nat) (v : Value) (w : World) (hd : Bytes w v d) (h : 200 < d.length) :
    Calls Try.prog 3 #[.int .i64 k, .int .i64 m, v] w fun e w' => e = .returned (.bool true) ∧ Below w.heap.size w w' := by
  obtain ⟨A, C, rfl, h1, h2, _⟩ := hd.shape
  obtain ⟨L, hL⟩ : ∃ L, d.length = L := ⟨_, rfl⟩
  rw [hL] at h h1 ⊢
  have e0 : (200 : Int) < (L : Int) := by omega
  go_enter Try.func3, Try.ntmps3
  go_wp2_with fail
  refine (answersC _).mono ?_
  rintro _ w1 ⟨rfl, hB1⟩
  go_wp2_with fail
  go_ret
  exact ⟨rfl, hB1⟩
set_option maxHeartbeats 1000000 in
theorem encode_k0 (k m : Int) (d : List Nat) (v : Value) (w : World) (hd : Bytes w v d) (h : ¬ 200 < d.length) (c1 : k < 1) :
    Calls Try.prog 3 #[.int .i64 k, .int .i64 m, v] w fun e w' => e = .returned (.bool true) ∧ Below w.heap.size w w' := by
  obtain ⟨A, C, rfl, h1, h2, _⟩ := hd.shape
  have HN := Lib.hid (show NoEnc k m d.length from .inl (.inl c1))
  have HD := Lib.hid hd
  clear hd
  obtain ⟨L, hL⟩ : ∃ L, d.length = L := ⟨_, rfl⟩
  have HL := Lib.hid hL
  rw [hL] at h h1 ⊢
  clear hL
  have e0 : ¬ (200 : Int) < (L : Int) := by omega
  go_enter Try.func3, Try.ntmps3
  go_wp2_with fail
  refine (encodeNo k m d _ w (HL.out ▸ HD.out) HN.out).mono ?_
  rintro _ w1 ⟨rfl, hB1⟩
  go_wp2_with fail
  refine (answersC _).mono ?_
  rintro _ w2 ⟨rfl, hB2⟩
  go_wp2_with fail
  go_ret
  exact ⟨rfl, hB1.trans (hB2.mono hB1.size)⟩
set_option maxHeartbeats 1000000 in
theorem encode_k5 (k m : Int) (d : List Nat) (v : Value) (w : World) (hd : Bytes w v d) (h : ¬ 200 < d.length) (c1 : ¬ k < 1) (c2 : 4 < k) :
    Calls Try.prog 3 #[.int .i64 k, .int .i64 m, v] w fun e w' => e = .returned (.bool true) ∧ Below w.heap.size w w' := by
  obtain ⟨A, C, rfl, h1, h2, _⟩ := hd.shape
  have HN := Lib.hid (show NoEnc k m d.length from .inl (.inr (.inl c2)))
  have HD := Lib.hid hd
  clear hd
  obtain ⟨L, hL⟩ : ∃ L, d.length = L := ⟨_, rfl⟩
  have HL := Lib.hid hL
  rw [hL] at h h1 ⊢
  clear hL
  have e0 : ¬ (200 : Int) < (L : Int) := by omega
  go_enter Try.func3, Try.ntmps3
  go_wp2_with fail
  refine (encodeNo k m d _ w (HL.out ▸ HD.out) HN.out).mono ?_
  rintro _ w1 ⟨rfl, hB1⟩
  go_wp2_with fail
  refine (answersC _).mono ?_
  rintro _ w2 ⟨rfl, hB2⟩
  go_wp2_with fail
  go_ret
  exact ⟨rfl, hB1.trans (hB2.mono hB1.size)⟩
set_option maxHeartbeats 1000000 in
theorem encode_m0 (k m : Int) (d : List Nat) (v : Value) (w : World) (hd : Bytes w v d) (h : ¬ 200 < d.length) (c1 : ¬ k < 1) (c2 : ¬ 4 < k) (c3 : m < 0) :
    Calls Try.prog 3 #[.int .i64 k, .int .i64 m, v] w fun e w' => e = .returned (.bool true) ∧ Below w.heap.size w w' := by
  obtain ⟨A, C, rfl, h1, h2, _⟩ := hd.shape
  have HN := Lib.hid (show NoEnc k m d.length from .inl (.inr (.inr (.inl c3))))
  have HD := Lib.hid hd
  clear hd
  obtain ⟨L, hL⟩ : ∃ L, d.length = L := ⟨_, rfl⟩
  have HL := Lib.hid hL
  rw [hL] at h h1 ⊢
  clear hL
  have e0 : ¬ (200 : Int) < (L : Int) := by omega
  go_enter Try.func3, Try.ntmps3
  go_wp2_with fail
  refine (encodeNo k m d _ w (HL.out ▸ HD.out) HN.out).mono ?_
  rintro _ w1 ⟨rfl, hB1⟩
  go_wp2_with fail
  refine (answersC _).mono ?_
  rintro _ w2 ⟨rfl, hB2⟩
  go_wp2_with fail
  go_ret
  exact ⟨rfl, hB1.trans (hB2.mono hB1.size)⟩
set_option maxHeartbeats 1000000 in
theorem encode_m4 (k m : Int) (d : List Nat) (v : Value) (w : World) (hd : Bytes w v d) (h : ¬ 200 < d.length) (c1 : ¬ k < 1) (c2 : ¬ 4 < k) (c3 : ¬ m < 0) (c4 : 3 < m) :
    Calls Try.prog 3 #[.int .i64 k, .int .i64 m, v] w fun e w' => e = .returned (.bool true) ∧ Below w.heap.size w w' := by
  obtain ⟨A, C, rfl, h1, h2, _⟩ := hd.shape
  have HN := Lib.hid (show NoEnc k m d.length from .inl (.inr (.inr (.inr c4))))
  have HD := Lib.hid hd
  clear hd
  obtain ⟨L, hL⟩ : ∃ L, d.length = L := ⟨_, rfl⟩
  have HL := Lib.hid hL
  rw [hL] at h h1 ⊢
  clear hL
  have e0 : ¬ (200 : Int) < (L : Int) := by omega
  go_enter Try.func3, Try.ntmps3
  go_wp2_with fail
  refine (encodeNo k m d _ w (HL.out ▸ HD.out) HN.out).mono ?_
  rintro _ w1 ⟨rfl, hB1⟩
  go_wp2_with fail
  refine (answersC _).mono ?_
  rintro _ w2 ⟨rfl, hB2⟩
  go_wp2_with fail
  go_ret
  exact ⟨rfl, hB1.trans (hB2.mono hB1.size)⟩
set_option maxHeartbeats 1000000 in
theorem encode_len (k m : Int) (d : List Nat) (v : Value) (w : World) (hd : Bytes w v d) (h : ¬ 200 < d.length) (c1 : ¬ k < 1) (c2 : ¬ 4 < k) (c3 : ¬ m < 0) (c4 : ¬ 3 < m) (c5 : ¬ (d.length : Int) = 8 * k) :
    Calls Try.prog 3 #[.int .i64 k, .int .i64 m, v] w fun e w' => e = .returned (.bool true) ∧ Below w.heap.size w w' := by
  obtain ⟨A, C, rfl, h1, h2, _⟩ := hd.shape
  have HN := Lib.hid (show NoEnc k m d.length from .inr c5)
  have HD := Lib.hid hd
  clear hd
  obtain ⟨L, hL⟩ : ∃ L, d.length = L := ⟨_, rfl⟩
  have HL := Lib.hid hL
  rw [hL] at h h1 ⊢
  clear hL
  have e0 : ¬ (200 : Int) < (L : Int) := by omega
  rw [HL.out] at c5
  have q4 : ((L : Int) != 8 * k) = true := by simpa using c5
  go_enter Try.func3, Try.ntmps3
  go_wp2_with fail
  refine (encodeNo k m d _ w (HL.out ▸ HD.out) HN.out).mono ?_
  rintro _ w1 ⟨rfl, hB1⟩
  go_wp2_with fail
  refine (answersC _).mono ?_
  rintro _ w2 ⟨rfl, hB2⟩
  go_wp2_with fail
  go_ret
  exact ⟨rfl, hB1.trans (hB2.mono hB1.size)⟩
set_option maxHeartbeats 1000000 in
theorem encode_yes (k m : Int) (d : List Nat) (v : Value) (w : World) (hd : Bytes w v d) (h : ¬ 200 < d.length) (c1 : ¬ k < 1) (c2 : ¬ 4 < k) (c3 : ¬ m < 0) (c4 : ¬ 3 < m) (c5 : (d.length : Int) = 8 * k) :
    Calls Try.prog 3 #[.int .i64 k, .int .i64 m, v] w fun e w' => e = .returned (.bool true) ∧ Below w.heap.size w w' := by
  obtain ⟨K, rfl⟩ := Int.eq_ofNat_of_zero_le (show 0 ≤ k by omega)
  obtain ⟨M, rfl⟩ := Int.eq_ofNat_of_zero_le (show 0 ≤ m by omega)
  have hK0 : 1 ≤ K := by omega
  have hK : K ≤ 4 := by omega
  have hM : M ≤ 3 := by omega
  have hlen : d.length = 8 * K := by omega
  have HLEN := Lib.hid hlen
  obtain ⟨A, C, rfl, h1, h2, _⟩ := hd.shape
  rw [hlen] at h h1 hd ⊢
  clear hlen c5
  have HD := Lib.hid hd
  clear hd
  have e0 : ¬ (200 : Int) < (8 * (K : Int)) := by omega
  go_enter Try.func3, Try.ntmps3
  go_wp2_with fail
  refine (encodeYes K M d _ w HD.out hK0 hK hM HLEN.out).mono ?_
  rintro _ w1 ⟨v1, rfl, hT1, hB1⟩
  have HT1 := Lib.hid hT1
  clear hT1
  go_wp2_with fail
  refine (answersC _).mono ?_
  rintro _ w2 ⟨rfl, hB2⟩
  have hb2 := hB1.trans (hB2.mono hB1.size)
  go_wp2_with fail
  refine (refEncode K M d _ w2 (HD.out.below hb2) hK0 hK hM HLEN.out).mono ?_
  rintro _ w3 ⟨v3, rfl, hT3, hB3⟩
  have HT3 := Lib.hid hT3
  clear hT3
  have hb3 := hb2.trans (hB3.mono hb2.size)
  have hs : rowsB (encT K M d) (encT K M d) = true := decide_eq_true rfl
  go_wp2_with fail
  refine (rowsC _ _ _ _ w3 ((HT1.out.below hB2).below hB3) HT3.out).mono ?_
  rw [hs]
  rintro _ w4 ⟨rfl, n, rfl⟩
  go_wp2_with fail
  go_ret
  exact ⟨rfl, hb3.trans (below_drewN _ _ _)⟩
theorem RsEncodeC (k m : Int) (d : List Nat) (v : Value) (w : World) (hd : Bytes w v d) :
    Calls Try.prog 3 #[.int .i64 k, .int .i64 m, v] w fun e w' => e = .returned (.bool true) ∧ Below w.heap.size w w' := by
  by_cases h : 200 < d.length
  · exact encode_far k m d v w hd h
  by_cases c1 : k < 1
  · exact encode_k0 k m d v w hd h c1
  by_cases c2 : 4 < k
  · exact encode_k5 k m d v w hd h c1 c2
  by_cases c3 : m < 0
  · exact encode_m0 k m d v w hd h c1 c2 c3
  by_cases c4 : 3 < m
  · exact encode_m4 k m d v w hd h c1 c2 c3 c4
  by_cases c5 : (d.length : Int) = 8 * k
  · exact encode_yes k m d v w hd h c1 c2 c3 c4 c5
  · exact encode_len k m d v w hd h c1 c2 c3 c4 c5
end Go.Proofs.Ytmcodfjaeaociaa.Rs
