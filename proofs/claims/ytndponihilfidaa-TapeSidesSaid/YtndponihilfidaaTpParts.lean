/- The law of layer 10 of an Append that the power goes in, as a walk. -/
import Derived.Test.YtndponihilfidaaTpLaws
namespace Go.Proofs.Ytndponihilfidaa.Tape
set_option linter.unusedVariables false
open Go.ChangeShapes Go.WideShapes Go.ChangeAt Go.RowKit
open Go.Mem Tp Same
variable {PD : Thing}
theorem take_neg {b : List Nat} {k : Int} (h : k < 0) : b.take k.toNat = b.take 0 := by rw [show k.toNat = 0 by omega]
theorem take_far {b : List Nat} {k : Int} (h : (b.length : Int) < k) : b.take k.toNat = b.take b.length := by rw [List.take_of_length_le (by omega), List.take_length]
set_option maxHeartbeats 4000000 in
theorem TapePartsC (I : Iface PD) (a b : List Nat) (va vb : Value) (keep : Int) (lk : -9223372036854775808 ≤ keep) (uk : keep ≤ 9223372036854775807) (w : World) (ha : Bytes w va a) (hb : Bytes w vb b) :
    Calls Try.prog 6 #[va, vb, .int .i64 keep] w fun e w' => e = .returned (.bool true) ∧ Below w.heap.size w w' := by
  obtain ⟨A, C, rfl, h1, h2, -⟩ := ha.shape
  obtain ⟨A', C', rfl, h1', h2', -⟩ := hb.shape
  obtain ⟨L, hL⟩ : ∃ L, a.length = L := ⟨_, rfl⟩
  obtain ⟨L', hL'⟩ : ∃ L', b.length = L' := ⟨_, rfl⟩
  rw [hL] at h1 ha ⊢
  rw [hL'] at h1' hb ⊢
  have HL := Lib.hid hL
  have HL' := Lib.hid hL'
  have HA := Lib.hid ha
  have HB := Lib.hid hb
  clear hL hL' ha hb
  by_cases hla : 200 < L
  · have hd : decide ((200 : Int) < (L : Int)) = true := by simp; omega
    go_enter Try.func6, Try.ntmps6
    go_wp2_with fail
    refine (answersC I w).mono ?_
    rintro _ w1 ⟨rfl, hb1⟩
    go_wp2
    go_ret
    exact ⟨rfl, hb1⟩
  have hd : decide ((200 : Int) < (L : Int)) = false := by simp; omega
  by_cases hlb : 200 < L'
  · have hd' : decide ((200 : Int) < (L' : Int)) = true := by simp; omega
    go_enter Try.func6, Try.ntmps6
    go_wp2_with fail
    refine (answersC I w).mono ?_
    rintro _ w1 ⟨rfl, hb1⟩
    go_wp2
    go_ret
    exact ⟨rfl, hb1⟩
  have hd' : decide ((200 : Int) < (L' : Int)) = false := by simp; omega
  have HU := Lib.hid (pt_upto (a := a) (b := b) (by rw [HL.out]; omega) (by rw [HL'.out]; omega) keep)
  have HE := Lib.hid (pt_e a b)
  have HR := Lib.hid (pt4_read a b keep)
  have hka : a.length ≤ 1000 := by rw [HL.out]; omega
  have hkb : b.length ≤ 1000 := by rw [HL'.out]; omega
  go_enter Try.func6, Try.ntmps6
  go_wp2_with fail
  refine (Mine.new I w (W := w) (Below.refl _ _)).mono ?_
  rintro _ w1 ⟨p, rfl, hm1⟩
  have HM1 := Lib.hid hm1
  clear hm1
  go_wp2_with fail
  refine (Mine.append I HM1.out (fresh_upto _) a _ HA.out hka).mono ?_
  rintro _ w2 ⟨rfl, hm2⟩
  rw [HE.out.1]
  have HM2 := Lib.hid (show Mine PD w w2 p (pt1 a) from hm2)
  clear hm2
  go_wp2_with fail
  refine (Mine.fuse I HM2.out 0 ⟨by omega, by omega⟩).mono ?_
  rintro _ w3 ⟨rfl, hm3⟩
  have HM3 := Lib.hid (show Mine PD w w3 p (pt2 a) from hm3)
  clear hm3
  go_wp2_with fail
  refine (Mine.append I HM3.out HU.out.2.1 b _ HB.out hkb).mono ?_
  rintro _ w4 ⟨rfl, hm4⟩
  rw [HE.out.2.1]
  have HM4 := Lib.hid (show Mine PD w w4 p (pt3 a b) from hm4)
  clear hm4
  go_wp2_with fail
  refine (Mine.append I HM4.out HU.out.2.2.1 b _ HB.out hkb).mono ?_
  rintro _ w5 ⟨rfl, hm5⟩
  rw [HE.out.2.2.1]
  rw [HE.out.2.2.2] at hm5
  have HM5 := Lib.hid hm5
  clear hm5
  go_wp2_with fail
  refine (Mine.crash I HM5.out HU.out.2.2.1 keep ⟨lk, uk⟩).mono ?_
  rintro _ w6 ⟨rfl, hm6⟩
  have HM6 := Lib.hid hm6
  clear hm6
  by_cases hn : keep < 0
  · have hdn : decide (keep < 0) = true := by simpa using hn
    have HK := Lib.hid (take_neg (b := b) hn)
    have q0 : (0 : Int) ≤ (C' : Int) := by omega
    have hq : decide ((L' : Int) < 0) = false := by simp
    clear hn
    go_wp2_with fail
    refine (Mine.read I HM6.out HU.out.2.2.2 0 ⟨by omega, by omega⟩).mono ?_
    rintro _ w7 ⟨u7, rfl, hu7, hm7, hb7⟩
    rw [HR.out.1]
    rw [HR.out.2.1, HK.out] at hu7
    have HM7 := Lib.hid hm7
    have HU7 := Lib.hid hu7.1
    obtain ⟨A7, C7, rfl, -, -, -⟩ := hu7.1.shape
    obtain ⟨L7, hL7⟩ : ∃ L7, (a ++ b.take 0).length = L7 := ⟨_, rfl⟩
    rw [hL7] at HU7 ⊢
    have HL7 := Lib.hid hL7
    clear hu7 hm7 hb7 hL7
    go_wp2_with fail
    go_region_held3 (fun _ => True) (exact trivial)
      (first
        | (go_at_call 7; refine (answersC I _).mono ?_; rintro _ w8 ⟨rfl, hb8⟩; have HM8 := Lib.hid ((HM7.out.below I (below_drewN _ w7 1)).below I hb8); have HU8 := Lib.hid ((HU7.out.below (below_drewN _ w7 1)).below hb8); have HE8 := Lib.hid (show Built ByteR (w8.alloc (.cells #[] 5)) w8.heap.size 5 (.slice (some ⟨w8.heap.size, 0, none⟩) 0 0) [] from built_none w8 (Nat.le_refl _)); have HX8 := Lib.hid (show Below w8.heap.size w8 (w8.alloc (.cells #[] 5)) from (Below.refl _ _).alloc (Nat.le_refl _) _); have HA8 := Lib.hid ((HA.out.below HM8.out.bel).below HX8.out); clear hb8)
        | (refine step_append_srcG _ rfl (.tmp 62) (.tmp 63) 27 27 rfl _ 5 Try.underlying27 infoByte _ _ rfl HE8.out _ _ rfl (BSrc.ofBytes Try.underlying27 HA8.out) (by rw [HL.out]; simp only [List.length_nil, Nat.zero_add]; omega) HX8.out.size ?_; intro v9 w9 hbu9 hg9 hb9 hat9; have HB9 := Lib.hid (HX8.out.trans hb9); have HT9 := Lib.hid ((HB.out.below (nx HM8.out.bel HB9.out)).take (j := 0) (by rw [HL'.out]; omega)); obtain ⟨A9, C9, e9, -, -⟩ := hbu9.len; obtain ⟨L9, hL9⟩ : ∃ L9, ([] ++ a).length = L9 := ⟨_, rfl⟩; rw [hL9] at e9; subst e9; have HBU9 := Lib.hid hbu9; clear hbu9 hg9 hb9 hat9 hL9)
        | (refine step_append_srcG _ rfl (.tmp 64) (.tmp 67) 27 27 rfl _ 5 Try.underlying27 infoByte _ _ rfl HBU9.out _ _ rfl (BSrc.ofBytes Try.underlying27 HT9.out) (by rw [List.nil_append, HL.out, List.length_take]; omega) HB9.out.size ?_; intro v10 w10 hbu10 hg10 hb10 hat10; have HB10 := Lib.hid (HB9.out.trans hb10); have HU10 := Lib.hid (HU8.out.below HB10.out); have HV10 := Lib.hid (show Bytes w10 v10 (a ++ b.take 0) from hbu10.slice); obtain ⟨A10, C10, e10, -, -⟩ := hbu10.len; obtain ⟨L10, hL10⟩ : ∃ L10, ([] ++ a ++ b.take 0).length = L10 := ⟨_, rfl⟩; rw [hL10] at e10; subst e10; clear hbu10 hg10 hb10 hat10 hL10)
        | (go_at_call 18; refine (sameC (a ++ b.take 0) (a ++ b.take 0) _ _ _ HU10.out HV10.out).mono ?_; rintro _ w11 ⟨rfl, n11, hw11⟩; rw [show sameB (a ++ b.take 0) (a ++ b.take 0) = true from decide_eq_true rfl]; have HM11 := Lib.hid (show Mine PD w w11 p ((pt3 a b).crash keep) from hw11 ▸ (HM8.out.below I HB10.out).below I (below_drewN _ w10 n11)); clear hw11)
        | (go_at_call 9; refine (Mine.append I HM11.out HU.out.2.2.2 [] _ (RowIn.nil (fun _ => True) _).1 (by decide)).mono ?_; rintro _ w12 ⟨rfl, hm12⟩; rw [HR.out.2.2]; have HM12 := Lib.hid hm12; clear hm12))
    all_goals
      go_wp2
      go_ret
      exact ⟨rfl, HM12.out.bel⟩
  have hdn : decide (keep < 0) = false := by simpa using hn
  by_cases hf : (L' : Int) < keep
  · have hdf : decide ((L' : Int) < keep) = true := by simpa using hf
    have HK := Lib.hid (show b.take keep.toNat = b.take L' by rw [← HL'.out]; exact take_far (by rw [HL'.out]; exact hf))
    have q0 : (L' : Int) ≤ (C' : Int) := by omega
    clear hn hf
    go_wp2_with fail
    refine (Mine.read I HM6.out HU.out.2.2.2 0 ⟨by omega, by omega⟩).mono ?_
    rintro _ w7 ⟨u7, rfl, hu7, hm7, hb7⟩
    rw [HR.out.1]
    rw [HR.out.2.1, HK.out] at hu7
    have HM7 := Lib.hid hm7
    have HU7 := Lib.hid hu7.1
    obtain ⟨A7, C7, rfl, -, -, -⟩ := hu7.1.shape
    obtain ⟨L7, hL7⟩ : ∃ L7, (a ++ b.take L').length = L7 := ⟨_, rfl⟩
    rw [hL7] at HU7 ⊢
    have HL7 := Lib.hid hL7
    clear hu7 hm7 hb7 hL7
    go_wp2_with fail
    go_region_held3 (fun _ => True) (exact trivial)
      (first
        | (go_at_call 7; refine (answersC I _).mono ?_; rintro _ w8 ⟨rfl, hb8⟩; have HM8 := Lib.hid ((HM7.out.below I (below_drewN _ w7 1)).below I hb8); have HU8 := Lib.hid ((HU7.out.below (below_drewN _ w7 1)).below hb8); have HE8 := Lib.hid (show Built ByteR (w8.alloc (.cells #[] 5)) w8.heap.size 5 (.slice (some ⟨w8.heap.size, 0, none⟩) 0 0) [] from built_none w8 (Nat.le_refl _)); have HX8 := Lib.hid (show Below w8.heap.size w8 (w8.alloc (.cells #[] 5)) from (Below.refl _ _).alloc (Nat.le_refl _) _); have HA8 := Lib.hid ((HA.out.below HM8.out.bel).below HX8.out); clear hb8)
        | (refine step_append_srcG _ rfl (.tmp 62) (.tmp 63) 27 27 rfl _ 5 Try.underlying27 infoByte _ _ rfl HE8.out _ _ rfl (BSrc.ofBytes Try.underlying27 HA8.out) (by rw [HL.out]; simp only [List.length_nil, Nat.zero_add]; omega) HX8.out.size ?_; intro v9 w9 hbu9 hg9 hb9 hat9; have HB9 := Lib.hid (HX8.out.trans hb9); have HT9 := Lib.hid ((HB.out.below (nx HM8.out.bel HB9.out)).take (j := L') (by rw [HL'.out]; omega)); obtain ⟨A9, C9, e9, -, -⟩ := hbu9.len; obtain ⟨L9, hL9⟩ : ∃ L9, ([] ++ a).length = L9 := ⟨_, rfl⟩; rw [hL9] at e9; subst e9; have HBU9 := Lib.hid hbu9; clear hbu9 hg9 hb9 hat9 hL9)
        | (refine step_append_srcG _ rfl (.tmp 64) (.tmp 67) 27 27 rfl _ 5 Try.underlying27 infoByte _ _ rfl HBU9.out _ _ rfl (BSrc.ofBytes Try.underlying27 HT9.out) (by rw [List.nil_append, HL.out, List.length_take]; omega) HB9.out.size ?_; intro v10 w10 hbu10 hg10 hb10 hat10; have HB10 := Lib.hid (HB9.out.trans hb10); have HU10 := Lib.hid (HU8.out.below HB10.out); have HV10 := Lib.hid (show Bytes w10 v10 (a ++ b.take L') from hbu10.slice); obtain ⟨A10, C10, e10, -, -⟩ := hbu10.len; obtain ⟨L10, hL10⟩ : ∃ L10, ([] ++ a ++ b.take L').length = L10 := ⟨_, rfl⟩; rw [hL10] at e10; subst e10; clear hbu10 hg10 hb10 hat10 hL10)
        | (go_at_call 18; refine (sameC (a ++ b.take L') (a ++ b.take L') _ _ _ HU10.out HV10.out).mono ?_; rintro _ w11 ⟨rfl, n11, hw11⟩; rw [show sameB (a ++ b.take L') (a ++ b.take L') = true from decide_eq_true rfl]; have HM11 := Lib.hid (show Mine PD w w11 p ((pt3 a b).crash keep) from hw11 ▸ (HM8.out.below I HB10.out).below I (below_drewN _ w10 n11)); clear hw11)
        | (go_at_call 9; refine (Mine.append I HM11.out HU.out.2.2.2 [] _ (RowIn.nil (fun _ => True) _).1 (by decide)).mono ?_; rintro _ w12 ⟨rfl, hm12⟩; rw [HR.out.2.2]; have HM12 := Lib.hid hm12; clear hm12))
    all_goals
      go_wp2
      go_ret
      exact ⟨rfl, HM12.out.bel⟩
  have hdf : decide ((L' : Int) < keep) = false := by simpa using hf
  obtain ⟨K, rfl⟩ := Int.eq_ofNat_of_zero_le (show 0 ≤ keep by omega)
  have HK := Lib.hid (show b.take (K : Int).toNat = b.take K by rw [Int.toNat_natCast])
  have q0 : (K : Int) ≤ (C' : Int) := by omega
  have q1 : K ≤ L' := by omega
  clear hn hf
  go_wp2_with fail
  refine (Mine.read I HM6.out HU.out.2.2.2 0 ⟨by omega, by omega⟩).mono ?_
  rintro _ w7 ⟨u7, rfl, hu7, hm7, hb7⟩
  rw [HR.out.1]
  rw [HR.out.2.1, HK.out] at hu7
  have HM7 := Lib.hid hm7
  have HU7 := Lib.hid hu7.1
  obtain ⟨A7, C7, rfl, -, -, -⟩ := hu7.1.shape
  obtain ⟨L7, hL7⟩ : ∃ L7, (a ++ b.take K).length = L7 := ⟨_, rfl⟩
  rw [hL7] at HU7 ⊢
  have HL7 := Lib.hid hL7
  clear hu7 hm7 hb7 hL7
  go_wp2_with fail
  go_region_held3 (fun _ => True) (exact trivial)
    (first
      | (go_at_call 7; refine (answersC I _).mono ?_; rintro _ w8 ⟨rfl, hb8⟩; have HM8 := Lib.hid ((HM7.out.below I (below_drewN _ w7 1)).below I hb8); have HU8 := Lib.hid ((HU7.out.below (below_drewN _ w7 1)).below hb8); have HE8 := Lib.hid (show Built ByteR (w8.alloc (.cells #[] 5)) w8.heap.size 5 (.slice (some ⟨w8.heap.size, 0, none⟩) 0 0) [] from built_none w8 (Nat.le_refl _)); have HX8 := Lib.hid (show Below w8.heap.size w8 (w8.alloc (.cells #[] 5)) from (Below.refl _ _).alloc (Nat.le_refl _) _); have HA8 := Lib.hid ((HA.out.below HM8.out.bel).below HX8.out); clear hb8)
      | (refine step_append_srcG _ rfl (.tmp 62) (.tmp 63) 27 27 rfl _ 5 Try.underlying27 infoByte _ _ rfl HE8.out _ _ rfl (BSrc.ofBytes Try.underlying27 HA8.out) (by rw [HL.out]; simp only [List.length_nil, Nat.zero_add]; omega) HX8.out.size ?_; intro v9 w9 hbu9 hg9 hb9 hat9; have HB9 := Lib.hid (HX8.out.trans hb9); have HT9 := Lib.hid ((HB.out.below (nx HM8.out.bel HB9.out)).take (j := K) (by rw [HL'.out]; omega)); obtain ⟨A9, C9, e9, -, -⟩ := hbu9.len; obtain ⟨L9, hL9⟩ : ∃ L9, ([] ++ a).length = L9 := ⟨_, rfl⟩; rw [hL9] at e9; subst e9; have HBU9 := Lib.hid hbu9; clear hbu9 hg9 hb9 hat9 hL9)
      | (refine step_append_srcG _ rfl (.tmp 64) (.tmp 67) 27 27 rfl _ 5 Try.underlying27 infoByte _ _ rfl HBU9.out _ _ rfl (BSrc.ofBytes Try.underlying27 HT9.out) (by rw [List.nil_append, HL.out, List.length_take]; omega) HB9.out.size ?_; intro v10 w10 hbu10 hg10 hb10 hat10; have HB10 := Lib.hid (HB9.out.trans hb10); have HU10 := Lib.hid (HU8.out.below HB10.out); have HV10 := Lib.hid (show Bytes w10 v10 (a ++ b.take K) from hbu10.slice); obtain ⟨A10, C10, e10, -, -⟩ := hbu10.len; obtain ⟨L10, hL10⟩ : ∃ L10, ([] ++ a ++ b.take K).length = L10 := ⟨_, rfl⟩; rw [hL10] at e10; subst e10; clear hbu10 hg10 hb10 hat10 hL10)
      | (go_at_call 18; refine (sameC (a ++ b.take K) (a ++ b.take K) _ _ _ HU10.out HV10.out).mono ?_; rintro _ w11 ⟨rfl, n11, hw11⟩; rw [show sameB (a ++ b.take K) (a ++ b.take K) = true from decide_eq_true rfl]; have HM11 := Lib.hid (show Mine PD w w11 p ((pt3 a b).crash (K : Int)) from hw11 ▸ (HM8.out.below I HB10.out).below I (below_drewN _ w10 n11)); clear hw11)
      | (go_at_call 9; refine (Mine.append I HM11.out HU.out.2.2.2 [] _ (RowIn.nil (fun _ => True) _).1 (by decide)).mono ?_; rintro _ w12 ⟨rfl, hm12⟩; rw [HR.out.2.2]; have HM12 := Lib.hid hm12; clear hm12))
  all_goals
    go_wp2
    go_ret
    exact ⟨rfl, HM12.out.bel⟩
end Go.Proofs.Ytndponihilfidaa.Tape
