/- The law of layer 10 of both sides wherever the power goes, as walks: one for each number of writes that are left, and for Append and Replace. -/
import Derived.Test.YtndponihilfidaaTpLaws
namespace Go.Proofs.Ytndponihilfidaa.Tape
set_option linter.unusedVariables false
open Go.ChangeShapes Go.WideShapes Go.ChangeAt Go.RowKit
open Go.Mem Tp Same
variable {PD : Thing}
def sd2 (a : List Nat) (F : Int) : St := (pt1 a).burn F
def sd3 (a b : List Nat) (F : Int) (sw : Bool) : St := (sd2 a F).write b sw
def wantL (a b : List Nat) (sw : Bool) : List Nat := if sw = true then b else a ++ b
theorem sd_upto {a b : List Nat} (ha : a.length ≤ 1000) (hb : b.length ≤ 1000) (F : Int) (sw : Bool) (keep : Int) : (pt1 a).upto 1000000 ∧ (sd2 a F).upto 1000000 ∧ (sd3 a b F sw).upto 1000000 ∧ ((sd3 a b F sw).crash keep).upto 1000000 := by
  have h1 : (pt1 a).upto 1000 := upto_mono (write_upto (fresh_upto 0) ha false) (by omega)
  have h2 : (sd2 a F).upto 1000 := h1
  have h3 : (sd3 a b F sw).upto 2000 := upto_mono (write_upto h2 hb sw) (by omega)
  refine ⟨upto_mono h1 (by omega), upto_mono h2 (by omega), upto_mono h3 (by omega), ⟨⟨?_, ?_⟩, ⟨?_, ?_⟩⟩⟩
  · have := all_len (sd3 a b F sw).s0 keep; have := h3.1; show ((sd3 a b F sw).s0.all keep).length ≤ _; obtain ⟨q1, q2⟩ := h3.1; omega
  · show ([] : List Nat).length ≤ _; simp
  · have := all_len (sd3 a b F sw).s1 keep; show ((sd3 a b F sw).s1.all keep).length ≤ _; obtain ⟨q1, q2⟩ := h3.2; omega
  · show ([] : List Nat).length ≤ _; simp
theorem sd_many (a b : List Nat) (F : Int) (hF : F = 2 ∨ F = 3) (sw : Bool) (keep : Int) : (sd2 a F).writeE = 0 ∧ ((sd3 a b F sw).crash keep).readE 0 = 0 ∧ ((sd3 a b F sw).crash keep).readE 1 = 0 ∧ ((sd3 a b F sw).crash keep).readB 0 = wantL a b sw ∧ ((sd3 a b F sw).crash keep).readB 1 = wantL a b sw := by
  rcases hF with rfl | rfl <;> cases sw <;> exact ⟨rfl, rfl, rfl, rfl, rfl⟩
theorem sd_one (a b : List Nat) (sw : Bool) (keep : Int) : (sd2 a 1).writeE = 9 ∧ ((sd3 a b 1 sw).crash keep).readE 0 = 0 ∧ ((sd3 a b 1 sw).crash keep).readE 1 = 0 ∧ ((sd3 a b 1 sw).crash keep).readB 0 = wantL a b sw := by
  cases sw <;> exact ⟨rfl, rfl, rfl, rfl⟩
theorem sd_none (a b : List Nat) (sw : Bool) (keep : Int) : (sd2 a 0).writeE = 9 ∧ ((sd3 a b 0 sw).crash keep).readE 0 = 0 ∧ ((sd3 a b 0 sw).crash keep).readE 1 = 0 ∧ ((sd3 a b 0 sw).crash keep).readB 1 = a := by
  cases sw <;> exact ⟨rfl, rfl, rfl, rfl⟩
set_option maxHeartbeats 4000000 in
theorem sides_many_false (I : Iface PD) (a b : List Nat) (va vb : Value) (f : Int) (lf : 0 ≤ f) (uf : f ≤ 255) (keep : Int) (lk : -9223372036854775808 ≤ keep) (uk : keep ≤ 9223372036854775807) (w : World) (ha : Bytes w va a) (hb : Bytes w vb b) (hla : a.length ≤ 300) (hlb : b.length ≤ 300) (hf : 2 ≤ f % 4) :
    Calls Try.prog 4 #[va, vb, .int .u8 f, .int .i64 keep, .bool false] w fun e w' => e = .returned (.bool true) ∧ Below w.heap.size w w' := by
  obtain ⟨A, C, rfl, h1, h2, -⟩ := ha.shape
  obtain ⟨A', C', rfl, h1', h2', -⟩ := hb.shape
  obtain ⟨L, hL⟩ : ∃ L, a.length = L := ⟨_, rfl⟩
  obtain ⟨L', hL'⟩ : ∃ L', b.length = L' := ⟨_, rfl⟩
  rw [hL] at h1 ha hla ⊢
  rw [hL'] at h1' hb hlb ⊢
  have HL := Lib.hid hL
  have HL' := Lib.hid hL'
  have HA := Lib.hid ha
  have HB := Lib.hid hb
  clear hL hL' ha hb
  obtain ⟨F, hFF⟩ : ∃ F, f % 4 = F := ⟨_, rfl⟩
  rw [hFF] at hf
  have hge : decide ((2 : Int) ≤ F) = true := by simpa using hf
  have hF0 : 0 ≤ F := by omega
  have hF3 : F ≤ 3 := by omega
  have HF := Lib.hid (show F = 2 ∨ F = 3 by omega)
  have HU := Lib.hid (sd_upto (a := a) (b := b) (by rw [HL.out]; omega) (by rw [HL'.out]; omega) F false keep)
  have HUS := Lib.hid (sd_upto (a := a) (b := b) (by rw [HL.out]; omega) (by rw [HL'.out]; omega) F false keep)
  have HR := Lib.hid (sd_many a b F HF.out false keep)
  have HR0 := Lib.hid (sd_many a b F HF.out false keep)
  have hka : a.length ≤ 1000 := by rw [HL.out]; omega
  have hkb : b.length ≤ 1000 := by rw [HL'.out]; omega
  have HKA := Lib.hid hka
  have HKB := Lib.hid hkb
  clear hka hkb hf
  go_enter Try.func4, Try.ntmps4
  go_wp2_with fail
  refine (Mine.new I w (W := w) (Below.refl _ _)).mono ?_
  rintro _ w1 ⟨p, rfl, hm1⟩
  have HM1 := Lib.hid hm1
  clear hm1
  go_wp2_with fail
  refine (Mine.append I HM1.out (fresh_upto _) a _ HA.out HKA.out).mono ?_
  rintro _ w2 ⟨rfl, hm2⟩
  rw [show fresh.writeE = 0 from rfl]
  have HM2 := Lib.hid (show Mine PD w w2 p (pt1 a) from hm2)
  clear hm2
  go_wp2_with fail
  refine (Mine.fuse I HM2.out F ⟨by omega, by omega⟩).mono ?_
  rintro _ w3 ⟨rfl, hm3⟩
  have HM3 := Lib.hid (show Mine PD w w3 p (sd2 a F) from hm3)
  have HE3 := Lib.hid (show Built ByteR (w3.alloc (.cells #[] 5)) w3.heap.size 5 (.slice (some ⟨w3.heap.size, 0, none⟩) 0 0) [] from built_none w3 (Nat.le_refl _))
  have HX3 := Lib.hid (show Below w3.heap.size w3 (w3.alloc (.cells #[] 5)) from (Below.refl _ _).alloc (Nat.le_refl _) _)
  have HA3 := Lib.hid ((HA.out.below HM3.out.bel).below HX3.out)
  clear hm3
  go_wp2_with (first
    | (at_builtin; refine wpList_append_src _ rfl (.tmp 36) (.tmp 37) 27 27 rfl _ 5 Try.underlying27 infoByte _ _ rfl HE3.out _ _ rfl (BSrc.ofBytes Try.underlying27 HA3.out) (by rw [HL.out]; simp only [List.length_nil, Nat.zero_add]; omega) HX3.out.size ?_; intro v4 w4 hbu4 hg4 hb4 hat4; have HX4 := Lib.hid (HX3.out.trans hb4); have HB4 := Lib.hid (HB.out.below (nx HM3.out.bel HX4.out)); obtain ⟨A4, C4, e4, -, -⟩ := hbu4.len; obtain ⟨L4, hL4⟩ : ∃ L4, ([] ++ a).length = L4 := ⟨_, rfl⟩; rw [hL4] at e4; subst e4; have HBU4 := Lib.hid hbu4; clear hbu4 hg4 hb4 hat4 hL4)
    | (at_builtin; refine wpList_append_src _ rfl (.tmp 38) (.tmp 39) 27 27 rfl _ 5 Try.underlying27 infoByte _ _ rfl HBU4.out _ _ rfl (BSrc.ofBytes Try.underlying27 HB4.out) (by rw [List.nil_append, HL.out, HL'.out]; omega) HX4.out.size ?_; intro v5 w5 hbu5 hg5 hb5 hat5; have HX5 := Lib.hid (HX4.out.trans hb5); have HM5 := Lib.hid (HM3.out.news I HX5.out (N := fun b => w3.heap.size ≤ b ∧ b < w5.heap.size) (fun b hb => hb)); have HV5 := Lib.hid (show RowIn (fun b => w3.heap.size ≤ b ∧ b < w5.heap.size) w5 v5 (a ++ b) from hbu5.rowIn (fun b hb => hbu5.own_lt b hb)); obtain ⟨A5, C5, e5, -, -⟩ := hbu5.len; obtain ⟨L5, hL5⟩ : ∃ L5, ([] ++ a ++ b).length = L5 := ⟨_, rfl⟩; rw [hL5] at e5; subst e5; clear hbu5 hg5 hb5 hat5 hL5))
  refine (HM5.out.append I HU.out.2.1 b _ HB.out HKB.out).mono ?_
  rintro _ w6 ⟨rfl, hm6, hs6⟩
  rw [HR0.out.1]
  have HV6 := Lib.hid (show RowIn (fun b => w3.heap.size ≤ b ∧ b < w5.heap.size) w6 (.slice A5 L5 C5) (a ++ b) from HV5.out.same hs6 (fun _ q => q))
  have HM6 := Lib.hid (show MineN PD w w6 p (sd3 a b F false) (fun b => w3.heap.size ≤ b ∧ b < w5.heap.size) from hm6)
  clear hm6 hs6
  go_wp2_with fail
  refine (HM6.out.crash I HUS.out.2.2.1 keep ⟨lk, uk⟩).mono ?_
  rintro _ w11 ⟨rfl, hm11, hs11⟩
  have HM11 := Lib.hid hm11.mine
  have HW11 := Lib.hid (show Bytes w11 (.slice A5 L5 C5) (wantL a b false) from (HV6.out.same hs11 (fun _ q => q)).1)
  clear hm11 hs11
  go_wp2_with fail
  refine (Mine.read I HM11.out HUS.out.2.2.2 0 ⟨by omega, by omega⟩).mono ?_
  rintro _ w12 ⟨u12, rfl, hu12, hm12, hb12⟩
  rw [HR.out.2.1]
  rw [HR.out.2.2.2.1] at hu12
  have HM12 := Lib.hid hm12
  have HW12 := Lib.hid (HW11.out.below hb12)
  have HU12 := Lib.hid hu12.1
  obtain ⟨A12, C12, rfl, -, -, -⟩ := hu12.1.shape
  obtain ⟨L12, hL12⟩ : ∃ L12, (wantL a b false).length = L12 := ⟨_, rfl⟩
  rw [hL12] at HU12 ⊢
  clear hu12 hm12 hb12 hL12
  go_wp2_with fail
  refine (Mine.read I HM12.out HUS.out.2.2.2 1 ⟨by omega, by omega⟩).mono ?_
  rintro _ w13 ⟨u13, rfl, hu13, hm13, hb13⟩
  rw [HR.out.2.2.1]
  rw [HR.out.2.2.2.2] at hu13
  have HM13 := Lib.hid hm13
  have HW13 := Lib.hid (HW12.out.below hb13)
  have HV13 := Lib.hid (HU12.out.below hb13)
  have HU13 := Lib.hid hu13.1
  obtain ⟨A13, C13, rfl, -, -, -⟩ := hu13.1.shape
  obtain ⟨L13, hL13⟩ : ∃ L13, (wantL a b false).length = L13 := ⟨_, rfl⟩
  rw [hL13] at HU13 ⊢
  clear hu13 hm13 hb13 hL13
  go_wp2_with fail
  refine (answersC I w13).mono ?_
  rintro _ w14 ⟨rfl, hb14⟩
  have HM14 := Lib.hid (HM13.out.below I hb14)
  have HW14 := Lib.hid (HW13.out.below hb14)
  have HV14 := Lib.hid (HV13.out.below hb14)
  have HU14 := Lib.hid (HU13.out.below hb14)
  clear hb14
  go_wp2_with fail
  refine (sameC (wantL a b false) (wantL a b false) _ _ _ HV14.out HW14.out).mono ?_
  rintro _ w15 ⟨rfl, n15, hw15⟩
  rw [show sameB (wantL a b false) (wantL a b false) = true from decide_eq_true rfl]
  have hb15 : Below w14.heap.size w14 w15 := hw15 ▸ below_drewN _ w14 n15
  have HM15 := Lib.hid (HM14.out.below I hb15)
  have HW15 := Lib.hid (HW14.out.below hb15)
  have HV15 := Lib.hid (HV14.out.below hb15)
  have HU15 := Lib.hid (HU14.out.below hb15)
  clear hw15 hb15
  go_wp2_with fail
  refine (sameC (wantL a b false) (wantL a b false) _ _ _ HU15.out HW15.out).mono ?_
  rintro _ w16 ⟨rfl, n16, hw16⟩
  rw [show sameB (wantL a b false) (wantL a b false) = true from decide_eq_true rfl]
  have hb16 : Below w15.heap.size w15 w16 := hw16 ▸ below_drewN _ w15 n16
  have HM16 := Lib.hid (HM15.out.below I hb16)
  have HW16 := Lib.hid (HW15.out.below hb16)
  have HV16 := Lib.hid (HV15.out.below hb16)
  have HU16 := Lib.hid (HU15.out.below hb16)
  clear hw16 hb16
  go_wp2
  go_ret
  exact ⟨rfl, HM16.out.bel⟩
set_option maxHeartbeats 4000000 in
theorem sides_many_true (I : Iface PD) (a b : List Nat) (va vb : Value) (f : Int) (lf : 0 ≤ f) (uf : f ≤ 255) (keep : Int) (lk : -9223372036854775808 ≤ keep) (uk : keep ≤ 9223372036854775807) (w : World) (ha : Bytes w va a) (hb : Bytes w vb b) (hla : a.length ≤ 300) (hlb : b.length ≤ 300) (hf : 2 ≤ f % 4) :
    Calls Try.prog 4 #[va, vb, .int .u8 f, .int .i64 keep, .bool true] w fun e w' => e = .returned (.bool true) ∧ Below w.heap.size w w' := by
  obtain ⟨A, C, rfl, h1, h2, -⟩ := ha.shape
  obtain ⟨A', C', rfl, h1', h2', -⟩ := hb.shape
  obtain ⟨L, hL⟩ : ∃ L, a.length = L := ⟨_, rfl⟩
  obtain ⟨L', hL'⟩ : ∃ L', b.length = L' := ⟨_, rfl⟩
  rw [hL] at h1 ha hla ⊢
  rw [hL'] at h1' hb hlb ⊢
  have HL := Lib.hid hL
  have HL' := Lib.hid hL'
  have HA := Lib.hid ha
  have HB := Lib.hid hb
  clear hL hL' ha hb
  obtain ⟨F, hFF⟩ : ∃ F, f % 4 = F := ⟨_, rfl⟩
  rw [hFF] at hf
  have hge : decide ((2 : Int) ≤ F) = true := by simpa using hf
  have hF0 : 0 ≤ F := by omega
  have hF3 : F ≤ 3 := by omega
  have HF := Lib.hid (show F = 2 ∨ F = 3 by omega)
  have HU := Lib.hid (sd_upto (a := a) (b := b) (by rw [HL.out]; omega) (by rw [HL'.out]; omega) F false keep)
  have HUS := Lib.hid (sd_upto (a := a) (b := b) (by rw [HL.out]; omega) (by rw [HL'.out]; omega) F true keep)
  have HR := Lib.hid (sd_many a b F HF.out true keep)
  have HR0 := Lib.hid (sd_many a b F HF.out false keep)
  have hka : a.length ≤ 1000 := by rw [HL.out]; omega
  have hkb : b.length ≤ 1000 := by rw [HL'.out]; omega
  have HKA := Lib.hid hka
  have HKB := Lib.hid hkb
  clear hka hkb hf
  go_enter Try.func4, Try.ntmps4
  go_wp2_with fail
  refine (Mine.new I w (W := w) (Below.refl _ _)).mono ?_
  rintro _ w1 ⟨p, rfl, hm1⟩
  have HM1 := Lib.hid hm1
  clear hm1
  go_wp2_with fail
  refine (Mine.append I HM1.out (fresh_upto _) a _ HA.out HKA.out).mono ?_
  rintro _ w2 ⟨rfl, hm2⟩
  rw [show fresh.writeE = 0 from rfl]
  have HM2 := Lib.hid (show Mine PD w w2 p (pt1 a) from hm2)
  clear hm2
  go_wp2_with fail
  refine (Mine.fuse I HM2.out F ⟨by omega, by omega⟩).mono ?_
  rintro _ w3 ⟨rfl, hm3⟩
  have HM3 := Lib.hid (show Mine PD w w3 p (sd2 a F) from hm3)
  have HE3 := Lib.hid (show Built ByteR (w3.alloc (.cells #[] 5)) w3.heap.size 5 (.slice (some ⟨w3.heap.size, 0, none⟩) 0 0) [] from built_none w3 (Nat.le_refl _))
  have HX3 := Lib.hid (show Below w3.heap.size w3 (w3.alloc (.cells #[] 5)) from (Below.refl _ _).alloc (Nat.le_refl _) _)
  have HA3 := Lib.hid ((HA.out.below HM3.out.bel).below HX3.out)
  clear hm3
  go_wp2_with (first
    | (at_builtin; refine wpList_append_src _ rfl (.tmp 36) (.tmp 37) 27 27 rfl _ 5 Try.underlying27 infoByte _ _ rfl HE3.out _ _ rfl (BSrc.ofBytes Try.underlying27 HA3.out) (by rw [HL.out]; simp only [List.length_nil, Nat.zero_add]; omega) HX3.out.size ?_; intro v4 w4 hbu4 hg4 hb4 hat4; have HX4 := Lib.hid (HX3.out.trans hb4); have HB4 := Lib.hid (HB.out.below (nx HM3.out.bel HX4.out)); obtain ⟨A4, C4, e4, -, -⟩ := hbu4.len; obtain ⟨L4, hL4⟩ : ∃ L4, ([] ++ a).length = L4 := ⟨_, rfl⟩; rw [hL4] at e4; subst e4; have HBU4 := Lib.hid hbu4; clear hbu4 hg4 hb4 hat4 hL4)
    | (at_builtin; refine wpList_append_src _ rfl (.tmp 38) (.tmp 39) 27 27 rfl _ 5 Try.underlying27 infoByte _ _ rfl HBU4.out _ _ rfl (BSrc.ofBytes Try.underlying27 HB4.out) (by rw [List.nil_append, HL.out, HL'.out]; omega) HX4.out.size ?_; intro v5 w5 hbu5 hg5 hb5 hat5; have HX5 := Lib.hid (HX4.out.trans hb5); have HM5 := Lib.hid (HM3.out.news I HX5.out (N := fun b => w3.heap.size ≤ b ∧ b < w5.heap.size) (fun b hb => hb)); have HV5 := Lib.hid (show RowIn (fun b => w3.heap.size ≤ b ∧ b < w5.heap.size) w5 v5 (a ++ b) from hbu5.rowIn (fun b hb => hbu5.own_lt b hb)); obtain ⟨A5, C5, e5, -, -⟩ := hbu5.len; obtain ⟨L5, hL5⟩ : ∃ L5, ([] ++ a ++ b).length = L5 := ⟨_, rfl⟩; rw [hL5] at e5; subst e5; clear hbu5 hg5 hb5 hat5 hL5))
  refine (HM5.out.append I HU.out.2.1 b _ HB.out HKB.out).mono ?_
  rintro _ w6 ⟨rfl, hm6, hs6⟩
  rw [HR0.out.1]
  have HV6 := Lib.hid (show RowIn (fun b => w3.heap.size ≤ b ∧ b < w5.heap.size) w6 (.slice A5 L5 C5) (a ++ b) from HV5.out.same hs6 (fun _ q => q))
  have HM6 := Lib.hid (show MineN PD w w6 p (sd3 a b F false) (fun b => w3.heap.size ≤ b ∧ b < w5.heap.size) from hm6)
  clear hm6 hs6
  go_wp2_with fail
  refine (Mine.new I w6 (W := w) HM6.out.bel).mono ?_
  rintro _ w7 ⟨p', rfl, hm7⟩
  have HM7 := Lib.hid hm7
  clear hm7
  go_wp2_with fail
  refine (Mine.append I HM7.out (fresh_upto _) a _ HA.out HKA.out).mono ?_
  rintro _ w8 ⟨rfl, hm8⟩
  rw [show fresh.writeE = 0 from rfl]
  have HM8 := Lib.hid (show Mine PD w w8 p' (pt1 a) from hm8)
  clear hm8
  go_wp2_with fail
  refine (Mine.fuse I HM8.out F ⟨by omega, by omega⟩).mono ?_
  rintro _ w9 ⟨rfl, hm9⟩
  have HM9 := Lib.hid (show Mine PD w w9 p' (sd2 a F) from hm9)
  clear hm9
  go_wp2_with fail
  refine (Mine.replace I HM9.out HUS.out.2.1 b _ HB.out HKB.out).mono ?_
  rintro _ w10 ⟨rfl, hm10⟩
  rw [HR.out.1]
  have HM10 := Lib.hid (show Mine PD w w10 p' (sd3 a b F true) from hm10)
  clear hm10
  go_wp2_with fail
  refine (Mine.crash I HM10.out HUS.out.2.2.1 keep ⟨lk, uk⟩).mono ?_
  rintro _ w11 ⟨rfl, hm11⟩
  have HM11 := Lib.hid hm11
  have HW11 := Lib.hid (show Bytes w11 (.slice A' L' C') (wantL a b true) from HB.out.below hm11.bel)
  clear hm11
  go_wp2_with fail
  refine (Mine.read I HM11.out HUS.out.2.2.2 0 ⟨by omega, by omega⟩).mono ?_
  rintro _ w12 ⟨u12, rfl, hu12, hm12, hb12⟩
  rw [HR.out.2.1]
  rw [HR.out.2.2.2.1] at hu12
  have HM12 := Lib.hid hm12
  have HW12 := Lib.hid (HW11.out.below hb12)
  have HU12 := Lib.hid hu12.1
  obtain ⟨A12, C12, rfl, -, -, -⟩ := hu12.1.shape
  obtain ⟨L12, hL12⟩ : ∃ L12, (wantL a b true).length = L12 := ⟨_, rfl⟩
  rw [hL12] at HU12 ⊢
  clear hu12 hm12 hb12 hL12
  go_wp2_with fail
  refine (Mine.read I HM12.out HUS.out.2.2.2 1 ⟨by omega, by omega⟩).mono ?_
  rintro _ w13 ⟨u13, rfl, hu13, hm13, hb13⟩
  rw [HR.out.2.2.1]
  rw [HR.out.2.2.2.2] at hu13
  have HM13 := Lib.hid hm13
  have HW13 := Lib.hid (HW12.out.below hb13)
  have HV13 := Lib.hid (HU12.out.below hb13)
  have HU13 := Lib.hid hu13.1
  obtain ⟨A13, C13, rfl, -, -, -⟩ := hu13.1.shape
  obtain ⟨L13, hL13⟩ : ∃ L13, (wantL a b true).length = L13 := ⟨_, rfl⟩
  rw [hL13] at HU13 ⊢
  clear hu13 hm13 hb13 hL13
  go_wp2_with fail
  refine (answersC I w13).mono ?_
  rintro _ w14 ⟨rfl, hb14⟩
  have HM14 := Lib.hid (HM13.out.below I hb14)
  have HW14 := Lib.hid (HW13.out.below hb14)
  have HV14 := Lib.hid (HV13.out.below hb14)
  have HU14 := Lib.hid (HU13.out.below hb14)
  clear hb14
  go_wp2_with fail
  refine (sameC (wantL a b true) (wantL a b true) _ _ _ HV14.out HW14.out).mono ?_
  rintro _ w15 ⟨rfl, n15, hw15⟩
  rw [show sameB (wantL a b true) (wantL a b true) = true from decide_eq_true rfl]
  have hb15 : Below w14.heap.size w14 w15 := hw15 ▸ below_drewN _ w14 n15
  have HM15 := Lib.hid (HM14.out.below I hb15)
  have HW15 := Lib.hid (HW14.out.below hb15)
  have HV15 := Lib.hid (HV14.out.below hb15)
  have HU15 := Lib.hid (HU14.out.below hb15)
  clear hw15 hb15
  go_wp2_with fail
  refine (sameC (wantL a b true) (wantL a b true) _ _ _ HU15.out HW15.out).mono ?_
  rintro _ w16 ⟨rfl, n16, hw16⟩
  rw [show sameB (wantL a b true) (wantL a b true) = true from decide_eq_true rfl]
  have hb16 : Below w15.heap.size w15 w16 := hw16 ▸ below_drewN _ w15 n16
  have HM16 := Lib.hid (HM15.out.below I hb16)
  have HW16 := Lib.hid (HW15.out.below hb16)
  have HV16 := Lib.hid (HV15.out.below hb16)
  have HU16 := Lib.hid (HU15.out.below hb16)
  clear hw16 hb16
  go_wp2
  go_ret
  exact ⟨rfl, HM16.out.bel⟩
set_option maxHeartbeats 4000000 in
theorem sides_one_false (I : Iface PD) (a b : List Nat) (va vb : Value) (f : Int) (lf : 0 ≤ f) (uf : f ≤ 255) (keep : Int) (lk : -9223372036854775808 ≤ keep) (uk : keep ≤ 9223372036854775807) (w : World) (ha : Bytes w va a) (hb : Bytes w vb b) (hla : a.length ≤ 300) (hlb : b.length ≤ 300) (hf : f % 4 = 1) :
    Calls Try.prog 4 #[va, vb, .int .u8 f, .int .i64 keep, .bool false] w fun e w' => e = .returned (.bool true) ∧ Below w.heap.size w w' := by
  obtain ⟨A, C, rfl, h1, h2, -⟩ := ha.shape
  obtain ⟨A', C', rfl, h1', h2', -⟩ := hb.shape
  obtain ⟨L, hL⟩ : ∃ L, a.length = L := ⟨_, rfl⟩
  obtain ⟨L', hL'⟩ : ∃ L', b.length = L' := ⟨_, rfl⟩
  rw [hL] at h1 ha hla ⊢
  rw [hL'] at h1' hb hlb ⊢
  have HL := Lib.hid hL
  have HL' := Lib.hid hL'
  have HA := Lib.hid ha
  have HB := Lib.hid hb
  clear hL hL' ha hb
  have hFF : f % 4 = 1 := hf
  have HU := Lib.hid (sd_upto (a := a) (b := b) (by rw [HL.out]; omega) (by rw [HL'.out]; omega) 1 false keep)
  have HUS := Lib.hid (sd_upto (a := a) (b := b) (by rw [HL.out]; omega) (by rw [HL'.out]; omega) 1 false keep)
  have HR := Lib.hid (sd_one a b false keep)
  have HR0 := Lib.hid (sd_one a b false keep)
  have hka : a.length ≤ 1000 := by rw [HL.out]; omega
  have hkb : b.length ≤ 1000 := by rw [HL'.out]; omega
  have HKA := Lib.hid hka
  have HKB := Lib.hid hkb
  clear hka hkb hf
  go_enter Try.func4, Try.ntmps4
  go_wp2_with fail
  refine (Mine.new I w (W := w) (Below.refl _ _)).mono ?_
  rintro _ w1 ⟨p, rfl, hm1⟩
  have HM1 := Lib.hid hm1
  clear hm1
  go_wp2_with fail
  refine (Mine.append I HM1.out (fresh_upto _) a _ HA.out HKA.out).mono ?_
  rintro _ w2 ⟨rfl, hm2⟩
  rw [show fresh.writeE = 0 from rfl]
  have HM2 := Lib.hid (show Mine PD w w2 p (pt1 a) from hm2)
  clear hm2
  go_wp2_with fail
  refine (Mine.fuse I HM2.out 1 ⟨by omega, by omega⟩).mono ?_
  rintro _ w3 ⟨rfl, hm3⟩
  have HM3 := Lib.hid (show Mine PD w w3 p (sd2 a 1) from hm3)
  have HE3 := Lib.hid (show Built ByteR (w3.alloc (.cells #[] 5)) w3.heap.size 5 (.slice (some ⟨w3.heap.size, 0, none⟩) 0 0) [] from built_none w3 (Nat.le_refl _))
  have HX3 := Lib.hid (show Below w3.heap.size w3 (w3.alloc (.cells #[] 5)) from (Below.refl _ _).alloc (Nat.le_refl _) _)
  have HA3 := Lib.hid ((HA.out.below HM3.out.bel).below HX3.out)
  clear hm3
  go_wp2_with (first
    | (at_builtin; refine wpList_append_src _ rfl (.tmp 36) (.tmp 37) 27 27 rfl _ 5 Try.underlying27 infoByte _ _ rfl HE3.out _ _ rfl (BSrc.ofBytes Try.underlying27 HA3.out) (by rw [HL.out]; simp only [List.length_nil, Nat.zero_add]; omega) HX3.out.size ?_; intro v4 w4 hbu4 hg4 hb4 hat4; have HX4 := Lib.hid (HX3.out.trans hb4); have HB4 := Lib.hid (HB.out.below (nx HM3.out.bel HX4.out)); obtain ⟨A4, C4, e4, -, -⟩ := hbu4.len; obtain ⟨L4, hL4⟩ : ∃ L4, ([] ++ a).length = L4 := ⟨_, rfl⟩; rw [hL4] at e4; subst e4; have HBU4 := Lib.hid hbu4; clear hbu4 hg4 hb4 hat4 hL4)
    | (at_builtin; refine wpList_append_src _ rfl (.tmp 38) (.tmp 39) 27 27 rfl _ 5 Try.underlying27 infoByte _ _ rfl HBU4.out _ _ rfl (BSrc.ofBytes Try.underlying27 HB4.out) (by rw [List.nil_append, HL.out, HL'.out]; omega) HX4.out.size ?_; intro v5 w5 hbu5 hg5 hb5 hat5; have HX5 := Lib.hid (HX4.out.trans hb5); have HM5 := Lib.hid (HM3.out.news I HX5.out (N := fun b => w3.heap.size ≤ b ∧ b < w5.heap.size) (fun b hb => hb)); have HV5 := Lib.hid (show RowIn (fun b => w3.heap.size ≤ b ∧ b < w5.heap.size) w5 v5 (a ++ b) from hbu5.rowIn (fun b hb => hbu5.own_lt b hb)); obtain ⟨A5, C5, e5, -, -⟩ := hbu5.len; obtain ⟨L5, hL5⟩ : ∃ L5, ([] ++ a ++ b).length = L5 := ⟨_, rfl⟩; rw [hL5] at e5; subst e5; clear hbu5 hg5 hb5 hat5 hL5))
  refine (HM5.out.append I HU.out.2.1 b _ HB.out HKB.out).mono ?_
  rintro _ w6 ⟨rfl, hm6, hs6⟩
  rw [HR0.out.1]
  have HV6 := Lib.hid (show RowIn (fun b => w3.heap.size ≤ b ∧ b < w5.heap.size) w6 (.slice A5 L5 C5) (a ++ b) from HV5.out.same hs6 (fun _ q => q))
  have HM6 := Lib.hid (show MineN PD w w6 p (sd3 a b 1 false) (fun b => w3.heap.size ≤ b ∧ b < w5.heap.size) from hm6)
  clear hm6 hs6
  go_wp2_with fail
  refine (HM6.out.crash I HUS.out.2.2.1 keep ⟨lk, uk⟩).mono ?_
  rintro _ w11 ⟨rfl, hm11, hs11⟩
  have HM11 := Lib.hid hm11.mine
  have HW11 := Lib.hid (show Bytes w11 (.slice A5 L5 C5) (wantL a b false) from (HV6.out.same hs11 (fun _ q => q)).1)
  clear hm11 hs11
  go_wp2_with fail
  refine (Mine.read I HM11.out HUS.out.2.2.2 0 ⟨by omega, by omega⟩).mono ?_
  rintro _ w12 ⟨u12, rfl, hu12, hm12, hb12⟩
  rw [HR.out.2.1]
  rw [HR.out.2.2.2] at hu12
  have HM12 := Lib.hid hm12
  have HW12 := Lib.hid (HW11.out.below hb12)
  have HU12 := Lib.hid hu12.1
  obtain ⟨A12, C12, rfl, -, -, -⟩ := hu12.1.shape
  obtain ⟨L12, hL12⟩ : ∃ L12, (wantL a b false).length = L12 := ⟨_, rfl⟩
  rw [hL12] at HU12 ⊢
  clear hu12 hm12 hb12 hL12
  go_wp2_with fail
  refine (Mine.read I HM12.out HUS.out.2.2.2 1 ⟨by omega, by omega⟩).mono ?_
  rintro _ w13 ⟨u13, rfl, hu13, hm13, hb13⟩
  rw [HR.out.2.2.1]
  have HM13 := Lib.hid hm13
  have HW13 := Lib.hid (HW12.out.below hb13)
  have HV13 := Lib.hid (HU12.out.below hb13)
  have HU13 := Lib.hid hu13.1
  obtain ⟨A13, C13, rfl, -, -, -⟩ := hu13.1.shape
  obtain ⟨L13, hL13⟩ : ∃ L13, (((sd3 a b 1 false).crash keep).readB 1).length = L13 := ⟨_, rfl⟩
  rw [hL13] at HU13 ⊢
  clear hu13 hm13 hb13 hL13
  go_wp2_with fail
  refine (answersC I w13).mono ?_
  rintro _ w14 ⟨rfl, hb14⟩
  have HM14 := Lib.hid (HM13.out.below I hb14)
  have HW14 := Lib.hid (HW13.out.below hb14)
  have HV14 := Lib.hid (HV13.out.below hb14)
  have HU14 := Lib.hid (HU13.out.below hb14)
  clear hb14
  go_wp2_with fail
  refine (sameC (wantL a b false) (wantL a b false) _ _ _ HV14.out HW14.out).mono ?_
  rintro _ w15 ⟨rfl, n15, hw15⟩
  rw [show sameB (wantL a b false) (wantL a b false) = true from decide_eq_true rfl]
  have hb15 : Below w14.heap.size w14 w15 := hw15 ▸ below_drewN _ w14 n15
  have HM15 := Lib.hid (HM14.out.below I hb15)
  have HW15 := Lib.hid (HW14.out.below hb15)
  have HV15 := Lib.hid (HV14.out.below hb15)
  have HU15 := Lib.hid (HU14.out.below hb15)
  clear hw15 hb15
  go_wp2
  go_ret
  exact ⟨rfl, HM15.out.bel⟩
set_option maxHeartbeats 4000000 in
theorem sides_one_true (I : Iface PD) (a b : List Nat) (va vb : Value) (f : Int) (lf : 0 ≤ f) (uf : f ≤ 255) (keep : Int) (lk : -9223372036854775808 ≤ keep) (uk : keep ≤ 9223372036854775807) (w : World) (ha : Bytes w va a) (hb : Bytes w vb b) (hla : a.length ≤ 300) (hlb : b.length ≤ 300) (hf : f % 4 = 1) :
    Calls Try.prog 4 #[va, vb, .int .u8 f, .int .i64 keep, .bool true] w fun e w' => e = .returned (.bool true) ∧ Below w.heap.size w w' := by
  obtain ⟨A, C, rfl, h1, h2, -⟩ := ha.shape
  obtain ⟨A', C', rfl, h1', h2', -⟩ := hb.shape
  obtain ⟨L, hL⟩ : ∃ L, a.length = L := ⟨_, rfl⟩
  obtain ⟨L', hL'⟩ : ∃ L', b.length = L' := ⟨_, rfl⟩
  rw [hL] at h1 ha hla ⊢
  rw [hL'] at h1' hb hlb ⊢
  have HL := Lib.hid hL
  have HL' := Lib.hid hL'
  have HA := Lib.hid ha
  have HB := Lib.hid hb
  clear hL hL' ha hb
  have hFF : f % 4 = 1 := hf
  have HU := Lib.hid (sd_upto (a := a) (b := b) (by rw [HL.out]; omega) (by rw [HL'.out]; omega) 1 false keep)
  have HUS := Lib.hid (sd_upto (a := a) (b := b) (by rw [HL.out]; omega) (by rw [HL'.out]; omega) 1 true keep)
  have HR := Lib.hid (sd_one a b true keep)
  have HR0 := Lib.hid (sd_one a b false keep)
  have hka : a.length ≤ 1000 := by rw [HL.out]; omega
  have hkb : b.length ≤ 1000 := by rw [HL'.out]; omega
  have HKA := Lib.hid hka
  have HKB := Lib.hid hkb
  clear hka hkb hf
  go_enter Try.func4, Try.ntmps4
  go_wp2_with fail
  refine (Mine.new I w (W := w) (Below.refl _ _)).mono ?_
  rintro _ w1 ⟨p, rfl, hm1⟩
  have HM1 := Lib.hid hm1
  clear hm1
  go_wp2_with fail
  refine (Mine.append I HM1.out (fresh_upto _) a _ HA.out HKA.out).mono ?_
  rintro _ w2 ⟨rfl, hm2⟩
  rw [show fresh.writeE = 0 from rfl]
  have HM2 := Lib.hid (show Mine PD w w2 p (pt1 a) from hm2)
  clear hm2
  go_wp2_with fail
  refine (Mine.fuse I HM2.out 1 ⟨by omega, by omega⟩).mono ?_
  rintro _ w3 ⟨rfl, hm3⟩
  have HM3 := Lib.hid (show Mine PD w w3 p (sd2 a 1) from hm3)
  have HE3 := Lib.hid (show Built ByteR (w3.alloc (.cells #[] 5)) w3.heap.size 5 (.slice (some ⟨w3.heap.size, 0, none⟩) 0 0) [] from built_none w3 (Nat.le_refl _))
  have HX3 := Lib.hid (show Below w3.heap.size w3 (w3.alloc (.cells #[] 5)) from (Below.refl _ _).alloc (Nat.le_refl _) _)
  have HA3 := Lib.hid ((HA.out.below HM3.out.bel).below HX3.out)
  clear hm3
  go_wp2_with (first
    | (at_builtin; refine wpList_append_src _ rfl (.tmp 36) (.tmp 37) 27 27 rfl _ 5 Try.underlying27 infoByte _ _ rfl HE3.out _ _ rfl (BSrc.ofBytes Try.underlying27 HA3.out) (by rw [HL.out]; simp only [List.length_nil, Nat.zero_add]; omega) HX3.out.size ?_; intro v4 w4 hbu4 hg4 hb4 hat4; have HX4 := Lib.hid (HX3.out.trans hb4); have HB4 := Lib.hid (HB.out.below (nx HM3.out.bel HX4.out)); obtain ⟨A4, C4, e4, -, -⟩ := hbu4.len; obtain ⟨L4, hL4⟩ : ∃ L4, ([] ++ a).length = L4 := ⟨_, rfl⟩; rw [hL4] at e4; subst e4; have HBU4 := Lib.hid hbu4; clear hbu4 hg4 hb4 hat4 hL4)
    | (at_builtin; refine wpList_append_src _ rfl (.tmp 38) (.tmp 39) 27 27 rfl _ 5 Try.underlying27 infoByte _ _ rfl HBU4.out _ _ rfl (BSrc.ofBytes Try.underlying27 HB4.out) (by rw [List.nil_append, HL.out, HL'.out]; omega) HX4.out.size ?_; intro v5 w5 hbu5 hg5 hb5 hat5; have HX5 := Lib.hid (HX4.out.trans hb5); have HM5 := Lib.hid (HM3.out.news I HX5.out (N := fun b => w3.heap.size ≤ b ∧ b < w5.heap.size) (fun b hb => hb)); have HV5 := Lib.hid (show RowIn (fun b => w3.heap.size ≤ b ∧ b < w5.heap.size) w5 v5 (a ++ b) from hbu5.rowIn (fun b hb => hbu5.own_lt b hb)); obtain ⟨A5, C5, e5, -, -⟩ := hbu5.len; obtain ⟨L5, hL5⟩ : ∃ L5, ([] ++ a ++ b).length = L5 := ⟨_, rfl⟩; rw [hL5] at e5; subst e5; clear hbu5 hg5 hb5 hat5 hL5))
  refine (HM5.out.append I HU.out.2.1 b _ HB.out HKB.out).mono ?_
  rintro _ w6 ⟨rfl, hm6, hs6⟩
  rw [HR0.out.1]
  have HV6 := Lib.hid (show RowIn (fun b => w3.heap.size ≤ b ∧ b < w5.heap.size) w6 (.slice A5 L5 C5) (a ++ b) from HV5.out.same hs6 (fun _ q => q))
  have HM6 := Lib.hid (show MineN PD w w6 p (sd3 a b 1 false) (fun b => w3.heap.size ≤ b ∧ b < w5.heap.size) from hm6)
  clear hm6 hs6
  go_wp2_with fail
  refine (Mine.new I w6 (W := w) HM6.out.bel).mono ?_
  rintro _ w7 ⟨p', rfl, hm7⟩
  have HM7 := Lib.hid hm7
  clear hm7
  go_wp2_with fail
  refine (Mine.append I HM7.out (fresh_upto _) a _ HA.out HKA.out).mono ?_
  rintro _ w8 ⟨rfl, hm8⟩
  rw [show fresh.writeE = 0 from rfl]
  have HM8 := Lib.hid (show Mine PD w w8 p' (pt1 a) from hm8)
  clear hm8
  go_wp2_with fail
  refine (Mine.fuse I HM8.out 1 ⟨by omega, by omega⟩).mono ?_
  rintro _ w9 ⟨rfl, hm9⟩
  have HM9 := Lib.hid (show Mine PD w w9 p' (sd2 a 1) from hm9)
  clear hm9
  go_wp2_with fail
  refine (Mine.replace I HM9.out HUS.out.2.1 b _ HB.out HKB.out).mono ?_
  rintro _ w10 ⟨rfl, hm10⟩
  rw [HR.out.1]
  have HM10 := Lib.hid (show Mine PD w w10 p' (sd3 a b 1 true) from hm10)
  clear hm10
  go_wp2_with fail
  refine (Mine.crash I HM10.out HUS.out.2.2.1 keep ⟨lk, uk⟩).mono ?_
  rintro _ w11 ⟨rfl, hm11⟩
  have HM11 := Lib.hid hm11
  have HW11 := Lib.hid (show Bytes w11 (.slice A' L' C') (wantL a b true) from HB.out.below hm11.bel)
  clear hm11
  go_wp2_with fail
  refine (Mine.read I HM11.out HUS.out.2.2.2 0 ⟨by omega, by omega⟩).mono ?_
  rintro _ w12 ⟨u12, rfl, hu12, hm12, hb12⟩
  rw [HR.out.2.1]
  rw [HR.out.2.2.2] at hu12
  have HM12 := Lib.hid hm12
  have HW12 := Lib.hid (HW11.out.below hb12)
  have HU12 := Lib.hid hu12.1
  obtain ⟨A12, C12, rfl, -, -, -⟩ := hu12.1.shape
  obtain ⟨L12, hL12⟩ : ∃ L12, (wantL a b true).length = L12 := ⟨_, rfl⟩
  rw [hL12] at HU12 ⊢
  clear hu12 hm12 hb12 hL12
  go_wp2_with fail
  refine (Mine.read I HM12.out HUS.out.2.2.2 1 ⟨by omega, by omega⟩).mono ?_
  rintro _ w13 ⟨u13, rfl, hu13, hm13, hb13⟩
  rw [HR.out.2.2.1]
  have HM13 := Lib.hid hm13
  have HW13 := Lib.hid (HW12.out.below hb13)
  have HV13 := Lib.hid (HU12.out.below hb13)
  have HU13 := Lib.hid hu13.1
  obtain ⟨A13, C13, rfl, -, -, -⟩ := hu13.1.shape
  obtain ⟨L13, hL13⟩ : ∃ L13, (((sd3 a b 1 true).crash keep).readB 1).length = L13 := ⟨_, rfl⟩
  rw [hL13] at HU13 ⊢
  clear hu13 hm13 hb13 hL13
  go_wp2_with fail
  refine (answersC I w13).mono ?_
  rintro _ w14 ⟨rfl, hb14⟩
  have HM14 := Lib.hid (HM13.out.below I hb14)
  have HW14 := Lib.hid (HW13.out.below hb14)
  have HV14 := Lib.hid (HV13.out.below hb14)
  have HU14 := Lib.hid (HU13.out.below hb14)
  clear hb14
  go_wp2_with fail
  refine (sameC (wantL a b true) (wantL a b true) _ _ _ HV14.out HW14.out).mono ?_
  rintro _ w15 ⟨rfl, n15, hw15⟩
  rw [show sameB (wantL a b true) (wantL a b true) = true from decide_eq_true rfl]
  have hb15 : Below w14.heap.size w14 w15 := hw15 ▸ below_drewN _ w14 n15
  have HM15 := Lib.hid (HM14.out.below I hb15)
  have HW15 := Lib.hid (HW14.out.below hb15)
  have HV15 := Lib.hid (HV14.out.below hb15)
  have HU15 := Lib.hid (HU14.out.below hb15)
  clear hw15 hb15
  go_wp2
  go_ret
  exact ⟨rfl, HM15.out.bel⟩
set_option maxHeartbeats 4000000 in
theorem sides_none_false (I : Iface PD) (a b : List Nat) (va vb : Value) (f : Int) (lf : 0 ≤ f) (uf : f ≤ 255) (keep : Int) (lk : -9223372036854775808 ≤ keep) (uk : keep ≤ 9223372036854775807) (w : World) (ha : Bytes w va a) (hb : Bytes w vb b) (hla : a.length ≤ 300) (hlb : b.length ≤ 300) (hf : f % 4 = 0) :
    Calls Try.prog 4 #[va, vb, .int .u8 f, .int .i64 keep, .bool false] w fun e w' => e = .returned (.bool true) ∧ Below w.heap.size w w' := by
  obtain ⟨A, C, rfl, h1, h2, -⟩ := ha.shape
  obtain ⟨A', C', rfl, h1', h2', -⟩ := hb.shape
  obtain ⟨L, hL⟩ : ∃ L, a.length = L := ⟨_, rfl⟩
  obtain ⟨L', hL'⟩ : ∃ L', b.length = L' := ⟨_, rfl⟩
  rw [hL] at h1 ha hla ⊢
  rw [hL'] at h1' hb hlb ⊢
  have HL := Lib.hid hL
  have HL' := Lib.hid hL'
  have HA := Lib.hid ha
  have HB := Lib.hid hb
  clear hL hL' ha hb
  have hFF : f % 4 = 0 := hf
  have HU := Lib.hid (sd_upto (a := a) (b := b) (by rw [HL.out]; omega) (by rw [HL'.out]; omega) 0 false keep)
  have HUS := Lib.hid (sd_upto (a := a) (b := b) (by rw [HL.out]; omega) (by rw [HL'.out]; omega) 0 false keep)
  have HR := Lib.hid (sd_none a b false keep)
  have HR0 := Lib.hid (sd_none a b false keep)
  have hka : a.length ≤ 1000 := by rw [HL.out]; omega
  have hkb : b.length ≤ 1000 := by rw [HL'.out]; omega
  have HKA := Lib.hid hka
  have HKB := Lib.hid hkb
  clear hka hkb hf
  go_enter Try.func4, Try.ntmps4
  go_wp2_with fail
  refine (Mine.new I w (W := w) (Below.refl _ _)).mono ?_
  rintro _ w1 ⟨p, rfl, hm1⟩
  have HM1 := Lib.hid hm1
  clear hm1
  go_wp2_with fail
  refine (Mine.append I HM1.out (fresh_upto _) a _ HA.out HKA.out).mono ?_
  rintro _ w2 ⟨rfl, hm2⟩
  rw [show fresh.writeE = 0 from rfl]
  have HM2 := Lib.hid (show Mine PD w w2 p (pt1 a) from hm2)
  clear hm2
  go_wp2_with fail
  refine (Mine.fuse I HM2.out 0 ⟨by omega, by omega⟩).mono ?_
  rintro _ w3 ⟨rfl, hm3⟩
  have HM3 := Lib.hid (show Mine PD w w3 p (sd2 a 0) from hm3)
  have HE3 := Lib.hid (show Built ByteR (w3.alloc (.cells #[] 5)) w3.heap.size 5 (.slice (some ⟨w3.heap.size, 0, none⟩) 0 0) [] from built_none w3 (Nat.le_refl _))
  have HX3 := Lib.hid (show Below w3.heap.size w3 (w3.alloc (.cells #[] 5)) from (Below.refl _ _).alloc (Nat.le_refl _) _)
  have HA3 := Lib.hid ((HA.out.below HM3.out.bel).below HX3.out)
  clear hm3
  go_wp2_with (first
    | (at_builtin; refine wpList_append_src _ rfl (.tmp 36) (.tmp 37) 27 27 rfl _ 5 Try.underlying27 infoByte _ _ rfl HE3.out _ _ rfl (BSrc.ofBytes Try.underlying27 HA3.out) (by rw [HL.out]; simp only [List.length_nil, Nat.zero_add]; omega) HX3.out.size ?_; intro v4 w4 hbu4 hg4 hb4 hat4; have HX4 := Lib.hid (HX3.out.trans hb4); have HB4 := Lib.hid (HB.out.below (nx HM3.out.bel HX4.out)); obtain ⟨A4, C4, e4, -, -⟩ := hbu4.len; obtain ⟨L4, hL4⟩ : ∃ L4, ([] ++ a).length = L4 := ⟨_, rfl⟩; rw [hL4] at e4; subst e4; have HBU4 := Lib.hid hbu4; clear hbu4 hg4 hb4 hat4 hL4)
    | (at_builtin; refine wpList_append_src _ rfl (.tmp 38) (.tmp 39) 27 27 rfl _ 5 Try.underlying27 infoByte _ _ rfl HBU4.out _ _ rfl (BSrc.ofBytes Try.underlying27 HB4.out) (by rw [List.nil_append, HL.out, HL'.out]; omega) HX4.out.size ?_; intro v5 w5 hbu5 hg5 hb5 hat5; have HX5 := Lib.hid (HX4.out.trans hb5); have HM5 := Lib.hid (HM3.out.news I HX5.out (N := fun b => w3.heap.size ≤ b ∧ b < w5.heap.size) (fun b hb => hb)); have HV5 := Lib.hid (show RowIn (fun b => w3.heap.size ≤ b ∧ b < w5.heap.size) w5 v5 (a ++ b) from hbu5.rowIn (fun b hb => hbu5.own_lt b hb)); obtain ⟨A5, C5, e5, -, -⟩ := hbu5.len; obtain ⟨L5, hL5⟩ : ∃ L5, ([] ++ a ++ b).length = L5 := ⟨_, rfl⟩; rw [hL5] at e5; subst e5; clear hbu5 hg5 hb5 hat5 hL5))
  refine (HM5.out.append I HU.out.2.1 b _ HB.out HKB.out).mono ?_
  rintro _ w6 ⟨rfl, hm6, hs6⟩
  rw [HR0.out.1]
  have HV6 := Lib.hid (show RowIn (fun b => w3.heap.size ≤ b ∧ b < w5.heap.size) w6 (.slice A5 L5 C5) (a ++ b) from HV5.out.same hs6 (fun _ q => q))
  have HM6 := Lib.hid (show MineN PD w w6 p (sd3 a b 0 false) (fun b => w3.heap.size ≤ b ∧ b < w5.heap.size) from hm6)
  clear hm6 hs6
  go_wp2_with fail
  refine (HM6.out.crash I HUS.out.2.2.1 keep ⟨lk, uk⟩).mono ?_
  rintro _ w11 ⟨rfl, hm11, hs11⟩
  have HM11 := Lib.hid hm11.mine
  have HW11 := Lib.hid (show Bytes w11 (.slice A5 L5 C5) (wantL a b false) from (HV6.out.same hs11 (fun _ q => q)).1)
  clear hm11 hs11
  go_wp2_with fail
  refine (Mine.read I HM11.out HUS.out.2.2.2 0 ⟨by omega, by omega⟩).mono ?_
  rintro _ w12 ⟨u12, rfl, hu12, hm12, hb12⟩
  rw [HR.out.2.1]
  have HM12 := Lib.hid hm12
  have HW12 := Lib.hid (HW11.out.below hb12)
  have HU12 := Lib.hid hu12.1
  obtain ⟨A12, C12, rfl, -, -, -⟩ := hu12.1.shape
  obtain ⟨L12, hL12⟩ : ∃ L12, (((sd3 a b 0 false).crash keep).readB 0).length = L12 := ⟨_, rfl⟩
  rw [hL12] at HU12 ⊢
  clear hu12 hm12 hb12 hL12
  go_wp2_with fail
  refine (Mine.read I HM12.out HUS.out.2.2.2 1 ⟨by omega, by omega⟩).mono ?_
  rintro _ w13 ⟨u13, rfl, hu13, hm13, hb13⟩
  rw [HR.out.2.2.1]
  rw [HR.out.2.2.2] at hu13
  have HM13 := Lib.hid hm13
  have HW13 := Lib.hid (HW12.out.below hb13)
  have HV13 := Lib.hid (HU12.out.below hb13)
  have HU13 := Lib.hid hu13.1
  obtain ⟨A13, C13, rfl, -, -, -⟩ := hu13.1.shape
  obtain ⟨L13, hL13⟩ : ∃ L13, (a).length = L13 := ⟨_, rfl⟩
  rw [hL13] at HU13 ⊢
  clear hu13 hm13 hb13 hL13
  go_wp2_with fail
  refine (answersC I w13).mono ?_
  rintro _ w14 ⟨rfl, hb14⟩
  have HM14 := Lib.hid (HM13.out.below I hb14)
  have HW14 := Lib.hid (HW13.out.below hb14)
  have HV14 := Lib.hid (HV13.out.below hb14)
  have HU14 := Lib.hid (HU13.out.below hb14)
  clear hb14
  go_wp2_with fail
  refine (sameC (a) (a) _ _ _ HU14.out (HA.out.below HM14.out.bel)).mono ?_
  rintro _ w15 ⟨rfl, n15, hw15⟩
  rw [show sameB (a) (a) = true from decide_eq_true rfl]
  have hb15 : Below w14.heap.size w14 w15 := hw15 ▸ below_drewN _ w14 n15
  have HM15 := Lib.hid (HM14.out.below I hb15)
  have HW15 := Lib.hid (HW14.out.below hb15)
  have HV15 := Lib.hid (HV14.out.below hb15)
  have HU15 := Lib.hid (HU14.out.below hb15)
  clear hw15 hb15
  go_wp2
  go_ret
  exact ⟨rfl, HM15.out.bel⟩
set_option maxHeartbeats 4000000 in
theorem sides_none_true (I : Iface PD) (a b : List Nat) (va vb : Value) (f : Int) (lf : 0 ≤ f) (uf : f ≤ 255) (keep : Int) (lk : -9223372036854775808 ≤ keep) (uk : keep ≤ 9223372036854775807) (w : World) (ha : Bytes w va a) (hb : Bytes w vb b) (hla : a.length ≤ 300) (hlb : b.length ≤ 300) (hf : f % 4 = 0) :
    Calls Try.prog 4 #[va, vb, .int .u8 f, .int .i64 keep, .bool true] w fun e w' => e = .returned (.bool true) ∧ Below w.heap.size w w' := by
  obtain ⟨A, C, rfl, h1, h2, -⟩ := ha.shape
  obtain ⟨A', C', rfl, h1', h2', -⟩ := hb.shape
  obtain ⟨L, hL⟩ : ∃ L, a.length = L := ⟨_, rfl⟩
  obtain ⟨L', hL'⟩ : ∃ L', b.length = L' := ⟨_, rfl⟩
  rw [hL] at h1 ha hla ⊢
  rw [hL'] at h1' hb hlb ⊢
  have HL := Lib.hid hL
  have HL' := Lib.hid hL'
  have HA := Lib.hid ha
  have HB := Lib.hid hb
  clear hL hL' ha hb
  have hFF : f % 4 = 0 := hf
  have HU := Lib.hid (sd_upto (a := a) (b := b) (by rw [HL.out]; omega) (by rw [HL'.out]; omega) 0 false keep)
  have HUS := Lib.hid (sd_upto (a := a) (b := b) (by rw [HL.out]; omega) (by rw [HL'.out]; omega) 0 true keep)
  have HR := Lib.hid (sd_none a b true keep)
  have HR0 := Lib.hid (sd_none a b false keep)
  have hka : a.length ≤ 1000 := by rw [HL.out]; omega
  have hkb : b.length ≤ 1000 := by rw [HL'.out]; omega
  have HKA := Lib.hid hka
  have HKB := Lib.hid hkb
  clear hka hkb hf
  go_enter Try.func4, Try.ntmps4
  go_wp2_with fail
  refine (Mine.new I w (W := w) (Below.refl _ _)).mono ?_
  rintro _ w1 ⟨p, rfl, hm1⟩
  have HM1 := Lib.hid hm1
  clear hm1
  go_wp2_with fail
  refine (Mine.append I HM1.out (fresh_upto _) a _ HA.out HKA.out).mono ?_
  rintro _ w2 ⟨rfl, hm2⟩
  rw [show fresh.writeE = 0 from rfl]
  have HM2 := Lib.hid (show Mine PD w w2 p (pt1 a) from hm2)
  clear hm2
  go_wp2_with fail
  refine (Mine.fuse I HM2.out 0 ⟨by omega, by omega⟩).mono ?_
  rintro _ w3 ⟨rfl, hm3⟩
  have HM3 := Lib.hid (show Mine PD w w3 p (sd2 a 0) from hm3)
  have HE3 := Lib.hid (show Built ByteR (w3.alloc (.cells #[] 5)) w3.heap.size 5 (.slice (some ⟨w3.heap.size, 0, none⟩) 0 0) [] from built_none w3 (Nat.le_refl _))
  have HX3 := Lib.hid (show Below w3.heap.size w3 (w3.alloc (.cells #[] 5)) from (Below.refl _ _).alloc (Nat.le_refl _) _)
  have HA3 := Lib.hid ((HA.out.below HM3.out.bel).below HX3.out)
  clear hm3
  go_wp2_with (first
    | (at_builtin; refine wpList_append_src _ rfl (.tmp 36) (.tmp 37) 27 27 rfl _ 5 Try.underlying27 infoByte _ _ rfl HE3.out _ _ rfl (BSrc.ofBytes Try.underlying27 HA3.out) (by rw [HL.out]; simp only [List.length_nil, Nat.zero_add]; omega) HX3.out.size ?_; intro v4 w4 hbu4 hg4 hb4 hat4; have HX4 := Lib.hid (HX3.out.trans hb4); have HB4 := Lib.hid (HB.out.below (nx HM3.out.bel HX4.out)); obtain ⟨A4, C4, e4, -, -⟩ := hbu4.len; obtain ⟨L4, hL4⟩ : ∃ L4, ([] ++ a).length = L4 := ⟨_, rfl⟩; rw [hL4] at e4; subst e4; have HBU4 := Lib.hid hbu4; clear hbu4 hg4 hb4 hat4 hL4)
    | (at_builtin; refine wpList_append_src _ rfl (.tmp 38) (.tmp 39) 27 27 rfl _ 5 Try.underlying27 infoByte _ _ rfl HBU4.out _ _ rfl (BSrc.ofBytes Try.underlying27 HB4.out) (by rw [List.nil_append, HL.out, HL'.out]; omega) HX4.out.size ?_; intro v5 w5 hbu5 hg5 hb5 hat5; have HX5 := Lib.hid (HX4.out.trans hb5); have HM5 := Lib.hid (HM3.out.news I HX5.out (N := fun b => w3.heap.size ≤ b ∧ b < w5.heap.size) (fun b hb => hb)); have HV5 := Lib.hid (show RowIn (fun b => w3.heap.size ≤ b ∧ b < w5.heap.size) w5 v5 (a ++ b) from hbu5.rowIn (fun b hb => hbu5.own_lt b hb)); obtain ⟨A5, C5, e5, -, -⟩ := hbu5.len; obtain ⟨L5, hL5⟩ : ∃ L5, ([] ++ a ++ b).length = L5 := ⟨_, rfl⟩; rw [hL5] at e5; subst e5; clear hbu5 hg5 hb5 hat5 hL5))
  refine (HM5.out.append I HU.out.2.1 b _ HB.out HKB.out).mono ?_
  rintro _ w6 ⟨rfl, hm6, hs6⟩
  rw [HR0.out.1]
  have HV6 := Lib.hid (show RowIn (fun b => w3.heap.size ≤ b ∧ b < w5.heap.size) w6 (.slice A5 L5 C5) (a ++ b) from HV5.out.same hs6 (fun _ q => q))
  have HM6 := Lib.hid (show MineN PD w w6 p (sd3 a b 0 false) (fun b => w3.heap.size ≤ b ∧ b < w5.heap.size) from hm6)
  clear hm6 hs6
  go_wp2_with fail
  refine (Mine.new I w6 (W := w) HM6.out.bel).mono ?_
  rintro _ w7 ⟨p', rfl, hm7⟩
  have HM7 := Lib.hid hm7
  clear hm7
  go_wp2_with fail
  refine (Mine.append I HM7.out (fresh_upto _) a _ HA.out HKA.out).mono ?_
  rintro _ w8 ⟨rfl, hm8⟩
  rw [show fresh.writeE = 0 from rfl]
  have HM8 := Lib.hid (show Mine PD w w8 p' (pt1 a) from hm8)
  clear hm8
  go_wp2_with fail
  refine (Mine.fuse I HM8.out 0 ⟨by omega, by omega⟩).mono ?_
  rintro _ w9 ⟨rfl, hm9⟩
  have HM9 := Lib.hid (show Mine PD w w9 p' (sd2 a 0) from hm9)
  clear hm9
  go_wp2_with fail
  refine (Mine.replace I HM9.out HUS.out.2.1 b _ HB.out HKB.out).mono ?_
  rintro _ w10 ⟨rfl, hm10⟩
  rw [HR.out.1]
  have HM10 := Lib.hid (show Mine PD w w10 p' (sd3 a b 0 true) from hm10)
  clear hm10
  go_wp2_with fail
  refine (Mine.crash I HM10.out HUS.out.2.2.1 keep ⟨lk, uk⟩).mono ?_
  rintro _ w11 ⟨rfl, hm11⟩
  have HM11 := Lib.hid hm11
  have HW11 := Lib.hid (show Bytes w11 (.slice A' L' C') (wantL a b true) from HB.out.below hm11.bel)
  clear hm11
  go_wp2_with fail
  refine (Mine.read I HM11.out HUS.out.2.2.2 0 ⟨by omega, by omega⟩).mono ?_
  rintro _ w12 ⟨u12, rfl, hu12, hm12, hb12⟩
  rw [HR.out.2.1]
  have HM12 := Lib.hid hm12
  have HW12 := Lib.hid (HW11.out.below hb12)
  have HU12 := Lib.hid hu12.1
  obtain ⟨A12, C12, rfl, -, -, -⟩ := hu12.1.shape
  obtain ⟨L12, hL12⟩ : ∃ L12, (((sd3 a b 0 true).crash keep).readB 0).length = L12 := ⟨_, rfl⟩
  rw [hL12] at HU12 ⊢
  clear hu12 hm12 hb12 hL12
  go_wp2_with fail
  refine (Mine.read I HM12.out HUS.out.2.2.2 1 ⟨by omega, by omega⟩).mono ?_
  rintro _ w13 ⟨u13, rfl, hu13, hm13, hb13⟩
  rw [HR.out.2.2.1]
  rw [HR.out.2.2.2] at hu13
  have HM13 := Lib.hid hm13
  have HW13 := Lib.hid (HW12.out.below hb13)
  have HV13 := Lib.hid (HU12.out.below hb13)
  have HU13 := Lib.hid hu13.1
  obtain ⟨A13, C13, rfl, -, -, -⟩ := hu13.1.shape
  obtain ⟨L13, hL13⟩ : ∃ L13, (a).length = L13 := ⟨_, rfl⟩
  rw [hL13] at HU13 ⊢
  clear hu13 hm13 hb13 hL13
  go_wp2_with fail
  refine (answersC I w13).mono ?_
  rintro _ w14 ⟨rfl, hb14⟩
  have HM14 := Lib.hid (HM13.out.below I hb14)
  have HW14 := Lib.hid (HW13.out.below hb14)
  have HV14 := Lib.hid (HV13.out.below hb14)
  have HU14 := Lib.hid (HU13.out.below hb14)
  clear hb14
  go_wp2_with fail
  refine (sameC (a) (a) _ _ _ HU14.out (HA.out.below HM14.out.bel)).mono ?_
  rintro _ w15 ⟨rfl, n15, hw15⟩
  rw [show sameB (a) (a) = true from decide_eq_true rfl]
  have hb15 : Below w14.heap.size w14 w15 := hw15 ▸ below_drewN _ w14 n15
  have HM15 := Lib.hid (HM14.out.below I hb15)
  have HW15 := Lib.hid (HW14.out.below hb15)
  have HV15 := Lib.hid (HV14.out.below hb15)
  have HU15 := Lib.hid (HU14.out.below hb15)
  clear hw15 hb15
  go_wp2
  go_ret
  exact ⟨rfl, HM15.out.bel⟩
theorem sides_far (I : Iface PD) (a b : List Nat) (va vb : Value) (f keep : Int) (sw : Bool) (w : World) (ha : Bytes w va a) (hb : Bytes w vb b) (hl : ¬ (a.length ≤ 300 ∧ b.length ≤ 300)) :
    Calls Try.prog 4 #[va, vb, .int .u8 f, .int .i64 keep, .bool sw] w fun e w' => e = .returned (.bool true) ∧ Below w.heap.size w w' := by
  obtain ⟨A, C, rfl, h1, h2, -⟩ := ha.shape
  obtain ⟨A', C', rfl, h1', h2', -⟩ := hb.shape
  obtain ⟨L, hL⟩ : ∃ L, a.length = L := ⟨_, rfl⟩
  obtain ⟨L', hL'⟩ : ∃ L', b.length = L' := ⟨_, rfl⟩
  rw [hL] at h1 hl ⊢
  rw [hL'] at h1' hl ⊢
  clear ha hb hL hL'
  by_cases hla : 300 < L
  · have hd : decide ((300 : Int) < (L : Int)) = true := by simp; omega
    go_enter Try.func4, Try.ntmps4
    go_wp2_with fail
    refine (answersC I w).mono ?_
    rintro _ w1 ⟨rfl, hb1⟩
    go_wp2
    go_ret
    exact ⟨rfl, hb1⟩
  have hd : decide ((300 : Int) < (L : Int)) = false := by simp; omega
  have hd' : decide ((300 : Int) < (L' : Int)) = true := by simp; omega
  go_enter Try.func4, Try.ntmps4
  go_wp2_with fail
  refine (answersC I w).mono ?_
  rintro _ w1 ⟨rfl, hb1⟩
  go_wp2
  go_ret
  exact ⟨rfl, hb1⟩
theorem TapeSidesC (I : Iface PD) (a b : List Nat) (va vb : Value) (f : Int) (lf : 0 ≤ f) (uf : f ≤ 255) (keep : Int) (lk : -9223372036854775808 ≤ keep) (uk : keep ≤ 9223372036854775807) (sw : Bool) (w : World) (ha : Bytes w va a) (hb : Bytes w vb b) :
    Calls Try.prog 4 #[va, vb, .int .u8 f, .int .i64 keep, .bool sw] w fun e w' => e = .returned (.bool true) ∧ Below w.heap.size w w' := by
  by_cases hl : a.length ≤ 300 ∧ b.length ≤ 300
  · rcases (by omega : f % 4 = 0 ∨ f % 4 = 1 ∨ 2 ≤ f % 4) with h | h | h <;> cases sw
    · exact sides_none_false I a b va vb f lf uf keep lk uk w ha hb hl.1 hl.2 h
    · exact sides_none_true I a b va vb f lf uf keep lk uk w ha hb hl.1 hl.2 h
    · exact sides_one_false I a b va vb f lf uf keep lk uk w ha hb hl.1 hl.2 h
    · exact sides_one_true I a b va vb f lf uf keep lk uk w ha hb hl.1 hl.2 h
    · exact sides_many_false I a b va vb f lf uf keep lk uk w ha hb hl.1 hl.2 h
    · exact sides_many_true I a b va vb f lf uf keep lk uk w ha hb hl.1 hl.2 h
  · exact sides_far I a b va vb f keep sw w ha hb hl
end Go.Proofs.Ytndponihilfidaa.Tape
