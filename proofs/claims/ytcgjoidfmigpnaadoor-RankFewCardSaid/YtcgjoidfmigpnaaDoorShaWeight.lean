/- The document's weight. -/
import Derived.Test.YtcgjoidfmigpnaaDoorShaDoc
namespace Go.Proofs.YtcgjoidfmigpnaaDoor.Hash
open Go.ChangeShapes Go.WideShapes Go.ChangeAt Go.RowKit
open Go.Mem Sha
/-- an int as a number of 64 bits -/
def u64 (a : Int) : Nat := (a % 18446744073709551616).toNat
theorem u64_cast (a : Int) : a % 18446744073709551616 = ((u64 a : Nat) : Int) := by unfold u64; omega
theorem u64_lt (a : Int) : u64 a < 18446744073709551616 := by unfold u64; omega
theorem u64_wrap (a : Int) : IntKind.u64.wrap a = ((u64 a : Nat) : Int) := by rw [IntKind.wrap_u64]; exact u64_cast a
set_option maxHeartbeats 1000000 in
theorem refWeightC (a b : Int) (w : World) :
    Calls Tryd.prog 14 #[.int .i64 a, .int .i64 b] w fun e w' => e = .returned (.int .u64 (weight (u64 a) (u64 b) : Nat)) ∧ Below w.heap.size w w' := by
  have ua := u64_wrap a
  have ub := u64_wrap b
  have ua2 := u64_cast a
  have ub2 := u64_cast b
  have la := u64_lt a
  have lb := u64_lt b
  have HW := Lib.hid (show weight (u64 a) (u64 b) = readB ((sha (numB (u64 a) 8 ++ numB (u64 b) 8)).take 8) from rfl)
  obtain ⟨x, hx⟩ : ∃ x, u64 a = x := ⟨_, rfl⟩
  obtain ⟨y, hy⟩ : ∃ x, u64 b = x := ⟨_, rfl⟩
  rw [hx] at ua ua2 la HW ⊢
  rw [hy] at ub ub2 lb HW ⊢
  clear hx hy
  go_enter Tryd.func14, Tryd.ntmps14
  go_wp2_with fail
  refine (numC x 8 (by omega) (by omega) _).mono ?_
  rintro _ w1 ⟨u1, rfl, hu1, hb1⟩
  have HU1 := Lib.hid hu1
  have HB1 := Lib.hid hb1
  obtain ⟨A1, C1, rfl, _, _⟩ := hu1.len
  rw [numB_len] at HU1 ⊢
  clear hu1 hb1
  go_wp2_with fail
  refine (numC y 8 (by omega) (by omega) _).mono ?_
  rintro _ w2 ⟨u2, rfl, hu2, hb2⟩
  obtain ⟨A2, C2, rfl, _, _⟩ := hu2.len
  rw [numB_len] at hu2 ⊢
  obtain ⟨v3, w3, hr3, hbu3, _, hb3⟩ := run_append_list (P := Tryd.prog) byteR_world byteR_one w2 w.heap.size 42 42 5 (.int .u8 0) 1 Tryd.underlying42 infoByte rfl _ _ (HU1.out.below hb2) A2 8 C2 _ hu2.slice (by rw [numB_len, numB_len]; omega) (Nat.le_trans HB1.out.size hb2.size)
  have HR3 := Lib.hid hr3
  have HS3 := Lib.hid (show Bytes w3 v3 (numB x 8 ++ numB y 8) from hbu3.slice)
  have HB3 := Lib.hid (HB1.out.trans ((hb2.mono HB1.out.size).trans hb3))
  clear hr3 hbu3 hb3 hu2 hb2
  go_wp2_with (at_builtin; refine Lib.wpList_append_run _ rfl (.tmp 7) (.tmp 10) _ _ rfl _ _ rfl rfl _ _ HR3.out ?_)
  refine (shaC (numB x 8 ++ numB y 8) _ w3 HS3.out (by rw [List.length_append, numB_len, numB_len]; omega)).mono ?_
  rintro _ w4 ⟨u4, rfl, hu4, hb4⟩
  obtain ⟨A4, C4, rfl, hc4, hd4, _⟩ := hu4.shape
  have hlen := sha_len (numB x 8 ++ numB y 8)
  rw [hlen] at hc4
  rw [hlen] at hu4 ⊢
  have HT := Lib.hid (hu4.take (j := 8) (by rw [hlen]; omega))
  have HB4 := Lib.hid (HB3.out.trans (hb4.mono HB3.out.size))
  have q1 : 8 ≤ C4 := by omega
  clear hlen hu4 hb4
  go_wp2_with fail
  refine (readC _ _ _ HT.out).mono ?_
  rintro _ w5 ⟨rfl, rfl⟩
  rw [← HW.out]
  go_wp2_with fail
  go_ret
  exact ⟨rfl, HB4.out⟩
end Go.Proofs.YtcgjoidfmigpnaaDoor.Hash
