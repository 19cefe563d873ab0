/- The laws of layer 6, but the one of whatever happens, as walks. -/
import Derived.Test.YthlonnbafekjbaaDrvI
import Derived.Lib.SlBytesConst
namespace Go.Proofs.Ythlonnbafekjbaa.Drive
set_option linter.unusedVariables false
open Go.ChangeShapes Go.WideShapes Go.ChangeAt Go.RowKit
open Go.Mem Drv Same
theorem a_str {w : World} {A : Option Addr} {n C : Nat} (h : Bytes w (.slice A n C) [97]) : (convert 28 9 (.slice A n C)).run Try.prog w = .ok (.string { data := #[97] }) w := by
  have h0 := h
  obtain ⟨A', n', C', e, e2, _, _, _, _⟩ := h0
  cases e
  obtain ⟨b, o, rfl, _, _⟩ := Bytes.at h (i := 0) (by decide)
  have := run_convert_bytes_arg (P := Try.prog) w 28 5 Try.underlying28 Try.underlying5 b o n C [(97 : Int)] (by rw [e2]; rfl)
    (fun i hi => by
      rw [e2] at hi
      have h1 := (Bytes.here h hi).1
      rw [h1]
      have hi' : i < 1 := hi
      obtain rfl : i = 0 := by omega
      rfl) 9 Try.underlying9
  exact this
def ans1 : St := (fresh 2).put 1 [97]
theorem ans_put : (fresh 2).putE 1 [97].length = 0 := by decide
theorem ans_read : ans1.check 1 = 0 ∧ ans1.get (1 : Int).toNat = [97] ∧ ans1.loose.length = 1 := by decide
theorem ans_crash : (ans1.crash 0).check 1 = 0 ∧ (ans1.crash 0).get (1 : Int).toNat = [] ∧ (ans1.crash 0).loose.length = 0 ∧ (ans1.crash 0).slots.length = 2 := by decide
variable {PD : Thing}
set_option maxHeartbeats 2000000 in
theorem answersC (I : Iface PD) (w : World) :
    Calls Try.prog 8 #[] w fun e w' => e = .returned (.bool true) ∧ Below w.heap.size w w' := by
  have kc := fun (w : World) (C : Array Value) (n c : Nat) => Lib.run_convert_bytes_const (P := Try.prog) w 28 5 C n c Try.underlying28 Try.underlying5
  go_enter Try.func8, Try.ntmps8
  go_wp2_with fail
  refine (Mine.new I 2 w (W := w) (Below.refl _ _) (by omega) (by omega)).mono ?_
  rintro _ w1 ⟨p, rfl, hm1⟩
  have HM1 := Lib.hid hm1
  clear hm1
  go_wp2_with fail
  have hb1 : Below w1.heap.size w1 (w1.alloc (.cells #[.int .u8 97] 5 (1, 2))) := (Below.refl _ _).alloc (Nat.le_refl _) _
  have ha : Bytes (w1.alloc (.cells #[.int .u8 97] 5 (1, 2))) (.slice (some ⟨w1.heap.size, 0, none⟩) 1 1) [97] := const_bytes w1 5 (1, 2) [97] (by simp) (by simp)
  refine (Mine.write I (HM1.out.below I hb1) 1 [97] _ (by omega) (by omega) ha (by simp) (by simp [fresh])).mono ?_
  rintro _ w2 ⟨rfl, hm2⟩
  rw [ans_put]
  have HM2 := Lib.hid (show Mine PD w w2 p ans1 from hm2)
  clear hm2 hb1 ha
  go_wp2_with fail
  obtain ⟨F2, hp2, hf2, hw2⟩ := HM2.out
  have HP2 := Lib.hid hp2
  have HF2 := Lib.hid hf2
  have HLT2 := Lib.hid (I.lt hp2)
  refine (I.read hp2 (by rw [ans_read.2.2]; omega) 1 (by omega) (by omega)).mono ?_
  rintro _ w3 ⟨u3, rfl, hu3, hb3⟩
  rw [if_pos ans_read.1, ans_read.2.1] at hu3
  rw [ans_read.1]
  have HW3 := Lib.hid (hw2.trans (hb3.mono hw2.size))
  have HP3 := Lib.hid (I.turned hp2 (Turned.of_below (fun _ => False) hb3) (fun _ q => q.elim))
  have HU3 := Lib.hid hu3
  obtain ⟨A3, C3, rfl, _, _, _⟩ := hu3.1.shape
  rw [show ([97] : List Nat).length = 1 from rfl] at HU3 ⊢
  clear hu3 hb3 hp2 hf2 hw2
  go_wp2_with fail
  refine (I.crash HP3.out (by rw [ans_read.2.2]; omega) 0 (by omega)).mono ?_
  rintro _ w4 ⟨rfl, hd4⟩
  have HM4 := Lib.hid (Mine.does HF2.out HW3.out hd4)
  have HU4 := Lib.hid (row_does HU3.out HLT2.out hd4)
  clear hd4
  go_wp2_with fail
  refine (Mine.read I HM4.out (by rw [ans_crash.2.2.1]; omega) 1 (by omega) (by omega)).mono ?_
  rintro _ w5 ⟨u5, rfl, hu5, hm5, hb5⟩
  rw [if_pos ans_crash.1, ans_crash.2.1] at hu5
  rw [ans_crash.1]
  have HM5 := Lib.hid hm5
  obtain ⟨A5, C5, rfl, _, _, _⟩ := hu5.1.shape
  have hcv := a_str (row_below HU4.out hb5).1
  rw [show ([] : List Nat).length = 0 from rfl]
  clear hm5 hu5 hb5
  go_wp2_with fail
  refine (Mine.cap I HM5.out).mono ?_
  rintro _ w6 ⟨rfl, rfl⟩
  rw [ans_crash.2.2.2]
  go_wp2_with fail
  go_ret
  exact ⟨rfl, HM5.out.bel⟩
set_option maxHeartbeats 2000000 in
theorem DriveNoneC (I : Iface PD) (N0 : NoDrive) (n : Int) (v : Value) (l : List Nat) (w : World) (hl : Bytes w v l) :
    Calls Try.prog 5 #[.int .i64 n, v] w fun e w' => e = .returned (.bool true) ∧ Below w.heap.size w w' := by
  go_enter Try.func5, Try.ntmps5
  go_wp2_with fail
  refine (N0.lose w).mono ?_
  rintro _ w1 ⟨rfl, hb1⟩
  have HB1 := Lib.hid hb1
  clear hb1
  go_wp2_with fail
  refine (N0.crash w1 1).mono ?_
  rintro _ w2 ⟨rfl, hb2⟩
  have HB2 := Lib.hid (HB1.out.trans (hb2.mono HB1.out.size))
  clear hb2
  go_wp2_with fail
  refine (N0.read w2 n).mono ?_
  rintro _ w3 ⟨u3, rfl, hu3, hb3⟩
  have HB3 := Lib.hid (HB2.out.trans (hb3.mono HB2.out.size))
  obtain ⟨A3, C3, rfl, _, _, _⟩ := hu3.shape
  rw [show ([] : List Nat).length = 0 from rfl]
  clear hb3 hu3
  go_wp2_with fail
  refine (N0.lasts w3 n).mono ?_
  rintro _ w4 ⟨u4, rfl, hu4, hb4⟩
  have HB4 := Lib.hid (HB3.out.trans (hb4.mono HB3.out.size))
  obtain ⟨A4, C4, rfl, _, _, _⟩ := hu4.shape
  rw [show ([] : List Nat).length = 0 from rfl]
  clear hb4 hu4
  go_wp2_with fail
  refine (answersC I w4).mono ?_
  rintro _ w5 ⟨rfl, hb5⟩
  have HB5 := Lib.hid (HB4.out.trans (hb5.mono HB4.out.size))
  clear hb5
  go_wp2_with fail
  refine (N0.write w5 n v).mono ?_
  rintro _ w6 ⟨rfl, hb6⟩
  have HB6 := Lib.hid (HB5.out.trans (hb6.mono HB5.out.size))
  clear hb6
  go_wp2_with fail
  refine (N0.flush w6).mono ?_
  rintro _ w7 ⟨rfl, hb7⟩
  have HB7 := Lib.hid (HB6.out.trans (hb7.mono HB6.out.size))
  clear hb7
  go_wp2_with fail
  refine (N0.cap w7).mono ?_
  rintro _ w8 ⟨rfl, rfl⟩
  go_wp2_with fail
  refine (N0.loose w7).mono ?_
  rintro _ w8 ⟨rfl, rfl⟩
  go_wp2_with fail
  refine (N0.lost w7).mono ?_
  rintro _ w8 ⟨rfl, rfl⟩
  go_wp2_with fail
  go_ret
  exact ⟨rfl, HB7.out⟩
theorem same_self (l : List Nat) : sameB l l = true := decide_eq_true rfl
def fl1 (a : List Nat) : St := ((fresh 3).put 0 a).put 1 a
def fl2 (a b : List Nat) : St := (fl1 a).flush.put 1 b
theorem fl_put0 {a : List Nat} (h : a.length ≤ 64) : (fresh 3).put 0 a = ⟨[[], [], []], [(0, a)], false⟩ := by
  unfold St.put St.putE St.check fresh
  simp [clamp, List.replicate, show ¬ 64 < a.length by omega]
theorem fl_put1 {a : List Nat} (h : a.length ≤ 64) : fl1 a = ⟨[[], [], []], [(0, a), (1, a)], false⟩ := by
  unfold fl1
  rw [fl_put0 h]
  unfold St.put St.putE St.check
  simp [show ¬ 64 < a.length by omega]
theorem fl_flush {a : List Nat} (h : a.length ≤ 64) : (fl1 a).flush = ⟨[a, a, []], [], false⟩ := by
  rw [fl_put1 h]
  rfl
theorem fl_put2 {a b : List Nat} (h : a.length ≤ 64) (hb : b.length ≤ 64) : fl2 a b = ⟨[a, a, []], [(1, b)], false⟩ := by
  unfold fl2
  rw [fl_flush h]
  unfold St.put St.putE St.check
  simp [show ¬ 64 < b.length by omega]
theorem fl_crash {a b : List Nat} (h : a.length ≤ 64) (hb : b.length ≤ 64) (keep : Nat) : (fl2 a b).crash keep = ⟨[a, if keep % 2 = 1 then b else a, []], [], false⟩ := by
  rw [fl_put2 h hb]
  unfold St.crash
  have hk : kept keep 0 = decide (keep % 2 = 1) := by unfold kept; simp
  simp only [List.length_cons, List.length_nil, St.crashN, hk]
  by_cases h1 : keep % 2 = 1 <;> simp [h1]
theorem fl_check0 (a x : List Nat) : (⟨[a, x, []], [], false⟩ : St).check 0 = 0 := rfl
theorem fl_check1 (a x : List Nat) : (⟨[a, x, []], [], false⟩ : St).check 1 = 0 := rfl
set_option maxHeartbeats 4000000 in
theorem DriveFlushC (I : Iface PD) (a b : List Nat) (va vb : Value) (keep : Int) (lk : 0 ≤ keep) (uk : keep ≤ 18446744073709551615) (w : World) (ha : Bytes w va a) (hb : Bytes w vb b) :
    Calls Try.prog 4 #[va, vb, .int .u64 keep] w fun e w' => e = .returned (.bool true) ∧ Below w.heap.size w w' := by
  obtain ⟨K, rfl⟩ := Int.eq_ofNat_of_zero_le lk
  obtain ⟨A, C, rfl, h1, h2, _⟩ := ha.shape
  obtain ⟨A', C', rfl, h1', h2', _⟩ := hb.shape
  obtain ⟨L, hL⟩ : ∃ L, a.length = L := ⟨_, rfl⟩
  obtain ⟨L', hL'⟩ : ∃ L, b.length = L := ⟨_, rfl⟩
  rw [hL] at h1 ha ⊢
  rw [hL'] at h1' hb ⊢
  have HL := Lib.hid hL
  have HL' := Lib.hid hL'
  have HA := Lib.hid ha
  have HB := Lib.hid hb
  clear hL hL' ha hb
  by_cases hlong : 64 < L ∨ 64 < L'
  · by_cases hla : 64 < L
    · have hd : decide ((64 : Int) < (L : Int)) = true := by simp; omega
      clear hlong
      go_enter Try.func4, Try.ntmps4
      go_wp2_with fail
      refine (answersC I w).mono ?_
      rintro _ w1 ⟨rfl, hb1⟩
      go_wp2_with fail
      go_ret
      exact ⟨rfl, hb1⟩
    · have hlb : 64 < L' := by omega
      have hd : decide ((64 : Int) < (L : Int)) = false := by simp; omega
      clear hlong
      go_enter Try.func4, Try.ntmps4
      go_wp2_with fail
      refine (answersC I w).mono ?_
      rintro _ w1 ⟨rfl, hb1⟩
      go_wp2_with fail
      go_ret
      exact ⟨rfl, hb1⟩
  · have hd : decide ((64 : Int) < (L : Int)) = false := by simp; omega
    have hla : a.length ≤ 64 := by rw [HL.out]; omega
    have hlb : b.length ≤ 64 := by rw [HL'.out]; omega
    have HLA := Lib.hid hla
    have HLB := Lib.hid hlb
    have e64 : L ≤ 64 := by omega
    have e64' : L' ≤ 64 := by omega
    clear hlong hla hlb
    go_enter Try.func4, Try.ntmps4
    go_wp2_with fail
    refine (Mine.new I 3 w (W := w) (Below.refl _ _) (by omega) (by omega)).mono ?_
    rintro _ w1 ⟨p, rfl, hm1⟩
    have HM1 := Lib.hid hm1
    clear hm1
    go_wp2_with fail
    refine (Mine.write I HM1.out 0 a _ (by omega) (by omega) (HA.out.below HM1.out.bel) (by have := HLA.out; omega) (by simp [fresh])).mono ?_
    rintro _ w2 ⟨rfl, hm2⟩
    have HM2 := Lib.hid hm2
    clear hm2
    go_wp2_with fail
    refine (Mine.write I HM2.out 1 a _ (by omega) (by omega) (HA.out.below HM2.out.bel) (by have := HLA.out; omega) (by rw [fl_put0 HLA.out]; simp)).mono ?_
    rintro _ w3 ⟨rfl, hm3⟩
    have HM3 := Lib.hid (show Mine PD w w3 p (fl1 a) from hm3)
    clear hm3
    go_wp2_with fail
    refine (Mine.flush I HM3.out (by rw [fl_put1 HLA.out]; simp)).mono ?_
    rintro _ w4 ⟨rfl, hm4⟩
    have HM4 := Lib.hid hm4
    clear hm4
    go_wp2_with fail
    refine (Mine.write I HM4.out 1 b _ (by omega) (by omega) (HB.out.below HM4.out.bel) (by have := HLB.out; omega) (by rw [fl_flush HLA.out]; simp)).mono ?_
    rintro _ w5 ⟨rfl, hm5⟩
    have HM5 := Lib.hid (show Mine PD w w5 p (fl2 a b) from hm5)
    clear hm5
    go_wp2_with fail
    refine (Mine.crash I HM5.out (by rw [fl_put2 HLA.out HLB.out]; simp) K (by omega)).mono ?_
    rintro _ w6 ⟨rfl, hm6⟩
    rw [fl_crash HLA.out HLB.out] at hm6
    obtain ⟨x, hx⟩ : ∃ x, (if K % 2 = 1 then b else a) = x := ⟨_, rfl⟩
    rw [hx] at hm6
    have HX := Lib.hid hx
    clear hx
    have HM6 := Lib.hid hm6
    clear hm6
    go_wp2_with fail
    refine (Mine.lasts I HM6.out 0 (by omega) (by omega)).mono ?_
    rintro _ w7 ⟨u7, rfl, hu7, hm7, hb7⟩
    rw [fl_check0]
    have HU7 := Lib.hid (show Bytes w7 u7 a from hu7.1)
    have HM7 := Lib.hid hm7
    obtain ⟨A7, n7, C7, rfl⟩ : ∃ A n C, u7 = .slice A n C := by
      obtain ⟨A, C, e, _⟩ := hu7.1.shape
      exact ⟨A, _, C, e⟩
    clear hu7 hm7 hb7
    go_wp2_with fail
    refine (Mine.lasts I HM7.out 1 (by omega) (by omega)).mono ?_
    rintro _ w8 ⟨u8, rfl, hu8, hm8, hb8⟩
    rw [fl_check1]
    have HU8 := Lib.hid (show Bytes w8 u8 (if K % 2 = 1 then b else a) from HX.out ▸ hu8.1)
    have HM8 := Lib.hid hm8
    have HU7' := Lib.hid (HU7.out.below hb8)
    obtain ⟨A8, n8, C8, rfl⟩ : ∃ A n C, u8 = .slice A n C := by
      obtain ⟨A, C, e, _⟩ := hu8.1.shape
      exact ⟨A, _, C, e⟩
    clear hu8 hm8 hb8
    by_cases hk : K % 2 = 1
    · rw [if_pos hk] at HU8
      have ht : ((K : Int) % 2 == 1) = true := by
        rw [beq_iff_eq]; omega
      clear hk
      go_wp2_with fail
      refine (answersC I w8).mono ?_
      rintro _ w9 ⟨rfl, hb9⟩
      have HB9 := Lib.hid (HM8.out.bel.trans (hb9.mono HM8.out.bel.size))
      have HU79 := Lib.hid (HU7'.out.below hb9)
      have HU89 := Lib.hid (HU8.out.below hb9)
      clear hb9
      go_wp2_with fail
      refine (sameC a a _ _ w9 HU79.out (HA.out.below HB9.out)).mono ?_
      rintro _ w10 ⟨rfl, n10, rfl⟩
      rw [same_self]
      go_wp2_with fail
      refine (sameC b b _ _ (w9.drewN n10) (HU89.out.drewN n10) ((HB.out.below HB9.out).drewN n10)).mono ?_
      rintro _ w11 ⟨rfl, n11, rfl⟩
      rw [same_self]
      go_wp2_with fail
      go_ret
      exact ⟨rfl, HB9.out.trans (below_drewN _ _ _)⟩
    · rw [if_neg hk] at HU8
      have ht : ((K : Int) % 2 == 1) = false := by
        rw [beq_eq_false_iff_ne]; omega
      clear hk
      go_wp2_with fail
      refine (answersC I w8).mono ?_
      rintro _ w9 ⟨rfl, hb9⟩
      have HB9 := Lib.hid (HM8.out.bel.trans (hb9.mono HM8.out.bel.size))
      have HU79 := Lib.hid (HU7'.out.below hb9)
      have HU89 := Lib.hid (HU8.out.below hb9)
      clear hb9
      go_wp2_with fail
      refine (sameC a a _ _ w9 HU79.out (HA.out.below HB9.out)).mono ?_
      rintro _ w10 ⟨rfl, n10, rfl⟩
      rw [same_self]
      go_wp2_with fail
      refine (sameC a a _ _ (w9.drewN n10) (HU89.out.drewN n10) ((HA.out.below HB9.out).drewN n10)).mono ?_
      rintro _ w11 ⟨rfl, n11, rfl⟩
      rw [same_self]
      go_wp2_with fail
      go_ret
      exact ⟨rfl, HB9.out.trans (below_drewN _ _ _)⟩
def lo1 (n : Nat) (b : List Nat) : St := (fresh n).put 0 b
theorem lo_put {n : Nat} {b : List Nat} (h0 : 1 ≤ n) (hn : n ≤ 20) (hb : b.length ≤ 60) : lo1 n b = ⟨List.replicate n [], [(0, b)], false⟩ := by
  have hc : clamp (n : Nat) = n := by unfold clamp; rw [if_neg (by omega), if_neg (by omega)]; omega
  unfold lo1 St.put St.putE St.check fresh
  rw [hc]
  simp [show ¬ 64 < b.length by omega, show ¬ n = 0 by omega]
theorem lo_lose (s : St) : (s.lose).crash 1 = ⟨[], [], true⟩ := rfl
theorem lost_check (i : Int) : (⟨[], [], true⟩ : St).check i = 8 := rfl
theorem lost_putE (i : Int) (n : Nat) : (⟨[], [], true⟩ : St).putE i n = 8 := rfl
theorem lost_put (i : Int) (l : List Nat) : (⟨[], [], true⟩ : St).put i l = ⟨[], [], true⟩ := rfl
theorem lost_flush : (⟨[], [], true⟩ : St).flush = ⟨[], [], true⟩ := rfl
set_option maxHeartbeats 4000000 in
theorem DriveLostC (I : Iface PD) (n i : Int) (ln : 0 ≤ n) (un : n ≤ 255) (li : -9223372036854775808 ≤ i) (ui : i ≤ 9223372036854775807) (b : List Nat) (vb : Value) (w : World) (hb : Bytes w vb b) :
    Calls Try.prog 7 #[.int .u8 n, .int .i64 i, vb] w fun e w' => e = .returned (.bool true) ∧ Below w.heap.size w w' := by
  obtain ⟨N, rfl⟩ := Int.eq_ofNat_of_zero_le ln
  obtain ⟨A, C, rfl, h1, h2, _⟩ := hb.shape
  obtain ⟨L, hL⟩ : ∃ L, b.length = L := ⟨_, rfl⟩
  rw [hL] at h1 hb ⊢
  have HL := Lib.hid hL
  have HB := Lib.hid hb
  clear hL hb
  by_cases hlong : 60 < L
  · have hd : (60 : Int) < (L : Int) := by omega
    go_enter Try.func7, Try.ntmps7
    go_wp2_with fail
    refine (answersC I w).mono ?_
    rintro _ w1 ⟨rfl, hb1⟩
    go_wp2_with fail
    go_ret
    exact ⟨rfl, hb1⟩
  · have hd : ¬ (60 : Int) < (L : Int) := by omega
    obtain ⟨M, hM⟩ : ∃ M, M = N % 20 + 1 := ⟨_, rfl⟩
    have m1 : 1 ≤ M := by omega
    have m2 : M ≤ 20 := by omega
    have e1 : (N : Int) % 20 + 1 = (M : Nat) := by omega
    have HPU := Lib.hid (lo_put m1 m2 (show b.length ≤ 60 by rw [HL.out]; omega))
    clear hM
    go_enter Try.func7, Try.ntmps7
    go_wp2_with fail
    refine (Mine.new I M w (W := w) (Below.refl _ _) (by omega) (by omega)).mono ?_
    rintro _ w1 ⟨p, rfl, hm1⟩
    have HM1 := Lib.hid hm1
    clear hm1 e1
    go_wp2_with fail
    refine (Mine.write I HM1.out 0 b _ (by omega) (by omega) (HB.out.below HM1.out.bel) (by rw [HL.out]; omega) (by simp [fresh])).mono ?_
    rintro _ w2 ⟨rfl, hm2⟩
    have HM2 := Lib.hid (show Mine PD w w2 p (lo1 M b) from hm2)
    clear hm2
    go_wp2_with fail
    refine (Mine.flush I HM2.out (by rw [HPU.out]; simp)).mono ?_
    rintro _ w3 ⟨rfl, hm3⟩
    have HM3 := Lib.hid hm3
    clear hm3
    go_wp2_with fail
    refine (Mine.lose I HM3.out).mono ?_
    rintro _ w4 ⟨rfl, hm4⟩
    have HM4 := Lib.hid hm4
    clear hm4
    go_wp2_with fail
    refine (Mine.crash I HM4.out (by simp [St.lose]) 1 (by omega)).mono ?_
    rintro _ w5 ⟨rfl, hm5⟩
    rw [lo_lose] at hm5
    have HM5 := Lib.hid hm5
    clear hm5
    go_wp2_with fail
    refine (Mine.read I HM5.out (by simp) i li ui).mono ?_
    rintro _ w6 ⟨u6, rfl, hu6, hm6, hb6⟩
    rw [lost_check]
    have HM6 := Lib.hid hm6
    obtain ⟨A6, n6, C6, rfl⟩ : ∃ A n C, u6 = .slice A n C := by
      obtain ⟨A, C, e, _⟩ := hu6.1.shape
      exact ⟨A, _, C, e⟩
    clear hu6 hm6 hb6
    go_wp2_with fail
    refine (Mine.lasts I HM6.out i li ui).mono ?_
    rintro _ w7 ⟨u7, rfl, hu7, hm7, hb7⟩
    rw [lost_check]
    have HM7 := Lib.hid hm7
    obtain ⟨A7, n7, C7, rfl⟩ : ∃ A n C, u7 = .slice A n C := by
      obtain ⟨A, C, e, _⟩ := hu7.1.shape
      exact ⟨A, _, C, e⟩
    clear hu7 hm7 hb7
    go_wp2_with fail
    refine (answersC I w7).mono ?_
    rintro _ w8 ⟨rfl, hb8⟩
    have HM8 := Lib.hid (HM7.out.below I hb8)
    clear hb8
    go_wp2_with fail
    refine (Mine.lost I HM8.out).mono ?_
    rintro _ w9 ⟨rfl, rfl⟩
    go_wp2_with fail
    refine (Mine.cap I HM8.out).mono ?_
    rintro _ w9 ⟨rfl, rfl⟩
    rw [show (([] : List (List Nat)).length : Int) = 0 from rfl]
    go_wp2_with fail
    refine (Mine.write I HM8.out i b _ li ui (HB.out.below HM8.out.bel) (by rw [HL.out]; omega) (by simp)).mono ?_
    rintro _ w9 ⟨rfl, hm9⟩
    rw [lost_putE]
    rw [lost_put] at hm9
    have HM9 := Lib.hid hm9
    clear hm9
    go_wp2_with fail
    refine (Mine.flush I HM9.out (by simp)).mono ?_
    rintro _ w10 ⟨rfl, hm10⟩
    rw [show (⟨[], [], true⟩ : St).flushE = 8 from rfl]
    rw [lost_flush] at hm10
    have HM10 := Lib.hid hm10
    clear hm10
    go_wp2_with fail
    refine (Mine.loose I HM10.out).mono ?_
    rintro _ w11 ⟨rfl, rfl⟩
    rw [show (([] : List (Nat × List Nat)).length : Int) = 0 from rfl]
    go_wp2_with fail
    go_ret
    exact ⟨rfl, HM10.out.bel⟩
end Go.Proofs.Ythlonnbafekjbaa.Drive
