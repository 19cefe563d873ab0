/- The weight of layer 5, as a walk. -/
import Derived.Test.YtcgjoidfmigpnaaDoorHashSum
namespace Go.Proofs.YtcgjoidfmigpnaaDoor.Hash
set_option linter.unusedVariables false
open Go.ChangeShapes Go.WideShapes Go.ChangeAt Go.RowKit
open Go.Mem Sha
theorem read_raw {v x : Nat} (hv : v < 18446744073709551616) (hx : x < 256) : bits .or .u64 (IntKind.u64.wrap ((v : Int) * 256)) (x : Int) = (((v * 256 + x) % 18446744073709551616 : Nat) : Int) := by
  rw [IntKind.wrap_u64, show ((v : Int) * 256 % 18446744073709551616) = ((v * 256 % 18446744073709551616 : Nat) : Int) by simp, u64_or_nat _ _ (by omega) (by omega), shl_or hx]
theorem readB_lt (l : List Nat) : ∀ k, readB (l.take k) < 18446744073709551616 := by
  intro k
  unfold readB
  generalize l.take k = m
  rcases List.eq_nil_or_concat m with h | ⟨p, x, h⟩
  · subst h; simp
  · subst h
    rw [List.concat_eq_append, List.foldl_append]
    exact Nat.mod_lt _ (by omega)
set_option maxHeartbeats 2000000 in
theorem weightC (a b : Int) (w : World) (hT : Tabs w) :
    Calls Tryd.prog 15 #[.int .i64 a, .int .i64 b] w fun e w' => e = .returned (.int .u64 (weight (u64 a) (u64 b) : Nat)) ∧ Below w.heap.size w w' := by
  have ua := u64_wrap a
  have ub := u64_wrap b
  have ua2 := u64_cast a
  have ub2 := u64_cast b
  have la := u64_lt a
  have lb := u64_lt b
  have HW := Lib.hid (show weight (u64 a) (u64 b) = readB ((sha (numB (u64 a) 8 ++ numB (u64 b) 8)).take 8) from rfl)
  obtain ⟨x, hx⟩ : ∃ x, u64 a = x := ⟨_, rfl⟩
  obtain ⟨y, hy⟩ : ∃ x, u64 b = x := ⟨_, rfl⟩
  rw [hx] at ua ua2 la HW ⊢
  rw [hy] at ub ub2 lb HW ⊢
  have HT := Lib.hid hT
  clear hx hy hT
  go_enter Tryd.func15, Tryd.ntmps15
  go_wp2_with fail
  refine (withNumberC w.heap.size [] _ x w (Built.start _ _ _) (by simp) la (Nat.le_refl _)).mono ?_
  rintro _ w1 ⟨u1, rfl, hu1, hb1⟩
  rw [List.nil_append] at hu1
  go_wp2_with fail
  refine (withNumberC w.heap.size _ _ y w1 hu1 (by rw [numB_len]; omega) lb hb1.size).mono ?_
  rintro _ w2 ⟨u2, rfl, hu2, hb2⟩
  have HU2 := Lib.hid (show Bytes w2 u2 (numB x 8 ++ numB y 8) from hu2.slice)
  have HB2 := Lib.hid (hb1.trans hb2)
  clear hu1 hb1 hu2 hb2
  go_wp2_with fail
  refine (sumC (numB x 8 ++ numB y 8) _ w2 (HT.out.below HB2.out) HU2.out (by rw [List.length_append, numB_len, numB_len]; omega)).mono ?_
  rintro _ w4 ⟨u4, rfl, hu4, hb4⟩
  obtain ⟨A4, C4, rfl, hc4, hd4, _⟩ := hu4.shape
  have hlen := sha_len (numB x 8 ++ numB y 8)
  obtain ⟨D, hD⟩ : ∃ D, sha (numB x 8 ++ numB y 8) = D := ⟨_, rfl⟩
  rw [hD] at hlen hu4 hc4 HW ⊢
  rw [hlen] at hc4
  rw [hlen] at hu4 ⊢
  have HTK := Lib.hid (hu4.take (j := 8) (by rw [hlen]; omega))
  have HTL := Lib.hid (show (D.take 8).length = 8 by rw [List.length_take, hlen]; omega)
  have HB4 := Lib.hid (HB2.out.trans (hb4.mono HB2.out.size))
  have q1 : 8 ≤ C4 := by omega
  clear hlen hu4 hb4 hD
  obtain ⟨T, hTe⟩ : ∃ T, D.take 8 = T := ⟨_, rfl⟩
  rw [hTe] at HTK HTL HW
  clear hTe
  go_wp2_with fail
  go_loop [6, 19] (fun v c => ∃ k : Nat, k ≤ 8 ∧ c = .int .i64 k ∧ v = .int .u64 (readB (T.take k) : Nat)) (fun _ c => 8 - (intOf c).toNat)
  case atStart => exact ⟨0, Nat.zero_le _, rfl, rfl⟩
  case round =>
    obtain ⟨k, hk, rfl, rfl⟩ := hrel
    by_cases hlt : k < 8
    · obtain ⟨bk, o, rfl, hc, hx8⟩ := HTK.out.at (i := k) (by rw [HTL.out]; omega)
      have HS := Lib.hid (readB_snoc (l := T) (k := k) (by rw [HTL.out]; omega))
      have hvl := readB_lt T k
      obtain ⟨z, hz⟩ : ∃ z, T[k]'(by rw [HTL.out]; omega) = z := ⟨_, rfl⟩
      rw [hz] at hc hx8 HS
      obtain ⟨V, hV⟩ : ∃ V, readB (T.take k) = V := ⟨_, rfl⟩
      rw [hV] at hvl HS ⊢
      have HR := Lib.hid (read_raw hvl hx8)
      clear hz hV
      go_wp2
      go_round
      case rel => exact ⟨k + 1, by omega, by go_num, by rw [HS.out, ← HR.out]⟩
      case measure => simp [intOf]; omega
    · obtain rfl : k = 8 := by omega
      rw [List.take_of_length_le (by rw [HTL.out]; omega), ← HW.out]
      go_wp2_with fail
      go_ret
      exact ⟨rfl, HB4.out⟩
end Go.Proofs.YtcgjoidfmigpnaaDoor.Hash
