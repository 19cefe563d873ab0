/- Law MatInvert as a walk: the inverse of any table, or why there is none. -/
import Derived.Test.YtnognnbelaflgaaUnitLaw
import Derived.Test.YtnognnbelaflgaaDet
import Derived.Test.YtnognnbelaflgaaInvert2
namespace Go.Proofs.Ytnognnbelaflgaa.Mat
open Go.ChangeShapes Go.WideShapes Go.ChangeAt Go.RowKit
open Go.Mem
open GfPlain Gf GfLin
theorem small_row {a : List (List Nat)} (h : smallB a = true) {i : Nat} (hi : i < a.length) : a[i].length ≤ 12 := by
  unfold smallB at h
  rw [Bool.and_eq_true, List.all_eq_true] at h
  simpa using h.2 a[i] (List.getElem_mem hi)
theorem take_tab {w : World} {base t : Nat} {u : Value} {a : List (List Nat)} (h : Built Bytes w base t u (a.take a.length)) : Tab w u a := by
  have h9 := h.slice
  rw [List.take_of_length_le (Nat.le_refl _)] at h9
  exact h9
theorem take_next {a : List (List Nat)} {i : Nat} (h : i < a.length) : a.take (i + 1) = a.take i ++ [[] ++ a[i]] := by
  rw [List.nil_append, List.take_succ_eq_append_getElem h]
theorem sqr_of {a : List (List Nat)} (hf : fitB a = true) (hw : width a = a.length) : (∀ r, r < a.length → (a.getD r []).length = a.length) ∧ Sqr a a.length := by
  obtain ⟨_, wa⟩ := fitB_iff.1 hf
  refine ⟨fun r hr => ?_, rfl, fun r hr => ?_⟩
  · rw [show a.getD r [] = a[r] by simp [hr], wa r hr hr, hw]
  · obtain ⟨i, hi, rfl⟩ := List.mem_iff_getElem.1 hr
    rw [wa i hi hi, hw]
theorem det_test {a : List (List Nat)} (hb : Byt a) (hs : Sqr a a.length) : (detN a.length a = 0 ↔ detM a = g0) := by
  have h := detN_det hb hs
  unfold detM
  constructor
  · intro e; rw [← h, e]; rfl
  · intro e; exact tg_zero (detN_lt hb) (by rw [h, e])
set_option maxHeartbeats 4000000 in
theorem inv_s (a : List (List Nat)) (va : Value) (w : World) (ha : Tab w va a) (sa : smallB a = false) :
    Calls Try.prog 4 #[va] w fun e w' => e = .returned (.bool true) ∧ Below w.heap.size w w' := by
  obtain ⟨A, C, rfl, h1, h2, _⟩ := ha.shape
  go_enter Try.func4, Try.ntmps4
  go_wp2_with fail
  refine (smallC a _ _ ha).mono ?_; rintro e w' ⟨rfl, rfl⟩
  go_wp2_with fail
  refine (answersC _).mono ?_; rintro e w3 ⟨rfl, hb3⟩
  go_wp2
  go_ret
  exact ⟨rfl, hb3⟩
set_option maxHeartbeats 4000000 in
theorem inv_f (a : List (List Nat)) (va : Value) (w : World) (ha : Tab w va a) (sa : smallB a = true) (fa : fitB a = false) :
    Calls Try.prog 4 #[va] w fun e w' => e = .returned (.bool true) ∧ Below w.heap.size w w' := by
  obtain ⟨A, C, rfl, h1, h2, _⟩ := ha.shape
  have SM := Lib.hid sa
  have hla := (small_len sa).1
  have NI := Lib.hid (show NoInv a from .inr (.inl fa))
  go_enter Try.func4, Try.ntmps4
  go_wp2_with fail
  refine (smallC a _ _ ha).mono ?_; rintro e w' ⟨rfl, rfl⟩
  go_wp2_with fail
  go_loopw [3, 4] (fun u c wr => ∃ i : Nat, i ≤ a.length ∧ c = .int .i64 (i : Nat) ∧ Built Bytes wr w.heap.size 28 u (a.take i) ∧ Below w.heap.size w wr) (fun _ c _ => a.length - (intOf c).toNat)
  case atStart => exact ⟨0, Nat.zero_le _, rfl, Built.start _ _ _, Below.refl _ _⟩
  case round =>
    obtain ⟨i, hi, rfl, hbu, hbr⟩ := hrel
    by_cases hlt : i < a.length
    · obtain ⟨b, o, Ai, Ci, eA, hci0, hmi, hbi⟩ := ha.at hlt
      cases eA
      have HL1 := Lib.hid (show (([] : List Nat) ++ a[i]).length = a[i].length from rfl)
      have hci := below_cell hbr _ _ hci0
      have hri := small_row SM.out hlt
      have hal : Below wr.heap.size wr (wr.alloc (.cells #[] 5)) := (Below.refl _ _).alloc (Nat.le_refl _) _
      have HB0 := Lib.hid (built_made (w := wr) (t := 5) (base := wr.heap.size) (cur := #[]) (cap := 0) (Nat.le_refl _) (Nat.zero_le _) rfl)
      have HT := Lib.hid (hbi.below (hbr.trans (hal.mono hbr.size)))
      have HL3 := Lib.hid (show (a.take i).length = i by simp; omega)
      obtain ⟨A5, C5, e5, hl5, hl5'⟩ := hbu.len
      rw [HL3.out] at e5 hl5
      have HOWN := Lib.hid hbu.own_lt
      have HBU := Lib.hid hbu
      subst e5
      have HAL := Lib.hid hal
      have HBR := Lib.hid hbr
      have HTK := Lib.hid (take_next hlt)
      have hci1 := below_cell hal _ _ hci
      clear hbu hal hbr
      go_wp2_with (first
        | (at_builtin; refine wpList_append_list byteR_world byteR_one _ rfl (.tmp 18) (.tmp 22) 28 rfl wr.heap.size 5 (.int .u8 0) 1 Try.underlying28 infoByte rfl _ _ rfl HB0.out _ _ _ _ rfl HT.out (by simp; omega) HAL.out.size ?_; intro v1 w1 hbu1 hg1 hb1; obtain ⟨A1, C1, e1, hl1, _⟩ := hbu1.len; rw [HL1.out] at e1 hl1; subst e1)
        | (at_builtin; refine wpList_append_built (R := Bytes) _ rfl (.tmp 17) (.tmp 24) 22 rfl w.heap.size 28 (.slice none 0 0) 24 Try.underlying22 infoRow rfl _ _ rfl (HBU.out.below (HAL.out.trans hb1)) _ _ _ rfl rfl rfl (hbu1.stays (r := (Value.slice A5 i C5).ownBlock) (fun g hg => (HOWN.out g hg).2)) (by rw [HL3.out]; omega) (Nat.le_trans HBR.out.size (HAL.out.trans hb1).size) ?_; intro v3 w3 hbu3 hg3 hb3))
      have HRN := Lib.hid (show Built Bytes w3 w.heap.size 28 v3 (a.take (i + 1)) by rw [HTK.out]; exact hbu3)
      have HBN := Lib.hid ((HBR.out.trans ((HAL.out.trans hb1).mono HBR.out.size)).trans hb3)
      clear hbu1 hbu3 hg1 hg3 hb1 hb3
      go_roundw
      case rel => exact ⟨i + 1, by omega, by go_num, HRN.out, HBN.out⟩
      case measure => simp [intOf]; omega
    · obtain rfl : i = a.length := by omega
      have hin := take_tab hbu
      have hsame : rowsB a a = true := decide_eq_true rfl
      clear hbu
      go_wp2_with fail
      refine (invertNo a _ _ (ha.below hbr) NI.out).mono ?_; rintro e w2 ⟨rfl, hb2⟩
      have hbr2 := hbr.trans (hb2.mono hbr.size)
      go_wp2_with fail
      refine (rowsC a a _ _ _ (ha.below hbr2) (hin.below hb2)).mono ?_; rintro e w' ⟨rfl, n1, rfl⟩
      go_wp2_with fail
      refine (fitC a _ _ ((ha.below hbr2).drewN n1)).mono ?_; rintro e w' ⟨rfl, n2, rfl⟩
      have hbr3 : Below w.heap.size w (w2.drewN (n1 + n2)) := hbr2.trans (below_drewN _ _ _)
      go_wp2_with fail
      refine (answersC _).mono ?_; rintro e w4 ⟨rfl, hb4⟩
      have hbr5 := hbr3.trans (hb4.mono hbr3.size)
      go_wp2
      go_ret
      exact ⟨rfl, hbr5⟩
set_option maxHeartbeats 4000000 in
theorem inv_w (a : List (List Nat)) (va : Value) (w : World) (ha : Tab w va a) (sa : smallB a = true) (fa : fitB a = true) (hw : ¬ width a = a.length) :
    Calls Try.prog 4 #[va] w fun e w' => e = .returned (.bool true) ∧ Below w.heap.size w w' := by
  obtain ⟨A, C, rfl, h1, h2, _⟩ := ha.shape
  have SM := Lib.hid sa
  have hla := (small_len sa).1
  have NI := Lib.hid (show NoInv a from .inr (.inr hw))
  have q1 : ((width a : Int) != (a.length : Int)) = true := by rw [bne_iff_ne]; omega
  clear hw
  have pa := (fitB_iff.1 fa).1
  have hpa : (0 : Int) < a.length := by omega
  obtain ⟨ba, oa, Aa, Ca, rfl, hcaw, hma, _⟩ := ha.at pa
  rw [← width_get pa, Nat.add_zero] at hcaw
  rw [← width_get pa] at hma
  go_enter Try.func4, Try.ntmps4
  go_wp2_with fail
  refine (smallC a _ _ ha).mono ?_; rintro e w' ⟨rfl, rfl⟩
  go_wp2_with fail
  go_loopw [3, 4] (fun u c wr => ∃ i : Nat, i ≤ a.length ∧ c = .int .i64 (i : Nat) ∧ Built Bytes wr w.heap.size 28 u (a.take i) ∧ Below w.heap.size w wr) (fun _ c _ => a.length - (intOf c).toNat)
  case atStart => exact ⟨0, Nat.zero_le _, rfl, Built.start _ _ _, Below.refl _ _⟩
  case round =>
    obtain ⟨i, hi, rfl, hbu, hbr⟩ := hrel
    by_cases hlt : i < a.length
    · obtain ⟨b, o, Ai, Ci, eA, hci0, hmi, hbi⟩ := ha.at hlt
      cases eA
      have HL1 := Lib.hid (show (([] : List Nat) ++ a[i]).length = a[i].length from rfl)
      have hci := below_cell hbr _ _ hci0
      have hri := small_row SM.out hlt
      have hal : Below wr.heap.size wr (wr.alloc (.cells #[] 5)) := (Below.refl _ _).alloc (Nat.le_refl _) _
      have HB0 := Lib.hid (built_made (w := wr) (t := 5) (base := wr.heap.size) (cur := #[]) (cap := 0) (Nat.le_refl _) (Nat.zero_le _) rfl)
      have HT := Lib.hid (hbi.below (hbr.trans (hal.mono hbr.size)))
      have HL3 := Lib.hid (show (a.take i).length = i by simp; omega)
      obtain ⟨A5, C5, e5, hl5, hl5'⟩ := hbu.len
      rw [HL3.out] at e5 hl5
      have HOWN := Lib.hid hbu.own_lt
      have HBU := Lib.hid hbu
      subst e5
      have HAL := Lib.hid hal
      have HBR := Lib.hid hbr
      have HTK := Lib.hid (take_next hlt)
      have hci1 := below_cell hal _ _ hci
      clear hbu hal hbr
      go_wp2_with (first
        | (at_builtin; refine wpList_append_list byteR_world byteR_one _ rfl (.tmp 18) (.tmp 22) 28 rfl wr.heap.size 5 (.int .u8 0) 1 Try.underlying28 infoByte rfl _ _ rfl HB0.out _ _ _ _ rfl HT.out (by simp; omega) HAL.out.size ?_; intro v1 w1 hbu1 hg1 hb1; obtain ⟨A1, C1, e1, hl1, _⟩ := hbu1.len; rw [HL1.out] at e1 hl1; subst e1)
        | (at_builtin; refine wpList_append_built (R := Bytes) _ rfl (.tmp 17) (.tmp 24) 22 rfl w.heap.size 28 (.slice none 0 0) 24 Try.underlying22 infoRow rfl _ _ rfl (HBU.out.below (HAL.out.trans hb1)) _ _ _ rfl rfl rfl (hbu1.stays (r := (Value.slice A5 i C5).ownBlock) (fun g hg => (HOWN.out g hg).2)) (by rw [HL3.out]; omega) (Nat.le_trans HBR.out.size (HAL.out.trans hb1).size) ?_; intro v3 w3 hbu3 hg3 hb3))
      have HRN := Lib.hid (show Built Bytes w3 w.heap.size 28 v3 (a.take (i + 1)) by rw [HTK.out]; exact hbu3)
      have HBN := Lib.hid ((HBR.out.trans ((HAL.out.trans hb1).mono HBR.out.size)).trans hb3)
      clear hbu1 hbu3 hg1 hg3 hb1 hb3
      go_roundw
      case rel => exact ⟨i + 1, by omega, by go_num, HRN.out, HBN.out⟩
      case measure => simp [intOf]; omega
    · obtain rfl : i = a.length := by omega
      have hin := take_tab hbu
      have hsame : rowsB a a = true := decide_eq_true rfl
      clear hbu
      go_wp2_with fail
      refine (invertNo a _ _ (ha.below hbr) NI.out).mono ?_; rintro e w2 ⟨rfl, hb2⟩
      have hbr2 := hbr.trans (hb2.mono hbr.size)
      go_wp2_with fail
      refine (rowsC a a _ _ _ (ha.below hbr2) (hin.below hb2)).mono ?_; rintro e w' ⟨rfl, n1, rfl⟩
      go_wp2_with fail
      refine (fitC a _ _ ((ha.below hbr2).drewN n1)).mono ?_; rintro e w' ⟨rfl, n2, rfl⟩
      have hbr3 : Below w.heap.size w (w2.drewN (n1 + n2)) := hbr2.trans (below_drewN _ _ _)
      have hca := below_cell hbr2 _ _ hcaw
      go_wp2_with fail
      refine (answersC _).mono ?_; rintro e w4 ⟨rfl, hb4⟩
      have hbr5 := hbr3.trans (hb4.mono hbr3.size)
      go_wp2
      go_ret
      exact ⟨rfl, hbr5⟩
set_option maxHeartbeats 4000000 in
theorem inv_l (a : List (List Nat)) (va : Value) (w : World) (ha : Tab w va a) (sa : smallB a = true) (fa : fitB a = true) (hw : width a = a.length) (h7 : 7 < a.length) :
    Calls Try.prog 4 #[va] w fun e w' => e = .returned (.bool true) ∧ Below w.heap.size w w' := by
  obtain ⟨A, C, rfl, h1, h2, _⟩ := ha.shape
  have SM := Lib.hid sa
  have hla := (small_len sa).1
  have NI := Lib.hid (show NoInv a from .inl h7)
  have q1 : ((width a : Int) != (a.length : Int)) = false := by rw [hw]; simp
  clear hw
  have pa := (fitB_iff.1 fa).1
  have hpa : (0 : Int) < a.length := by omega
  obtain ⟨ba, oa, Aa, Ca, rfl, hcaw, hma, _⟩ := ha.at pa
  rw [← width_get pa, Nat.add_zero] at hcaw
  rw [← width_get pa] at hma
  go_enter Try.func4, Try.ntmps4
  go_wp2_with fail
  refine (smallC a _ _ ha).mono ?_; rintro e w' ⟨rfl, rfl⟩
  go_wp2_with fail
  go_loopw [3, 4] (fun u c wr => ∃ i : Nat, i ≤ a.length ∧ c = .int .i64 (i : Nat) ∧ Built Bytes wr w.heap.size 28 u (a.take i) ∧ Below w.heap.size w wr) (fun _ c _ => a.length - (intOf c).toNat)
  case atStart => exact ⟨0, Nat.zero_le _, rfl, Built.start _ _ _, Below.refl _ _⟩
  case round =>
    obtain ⟨i, hi, rfl, hbu, hbr⟩ := hrel
    by_cases hlt : i < a.length
    · obtain ⟨b, o, Ai, Ci, eA, hci0, hmi, hbi⟩ := ha.at hlt
      cases eA
      have HL1 := Lib.hid (show (([] : List Nat) ++ a[i]).length = a[i].length from rfl)
      have hci := below_cell hbr _ _ hci0
      have hri := small_row SM.out hlt
      have hal : Below wr.heap.size wr (wr.alloc (.cells #[] 5)) := (Below.refl _ _).alloc (Nat.le_refl _) _
      have HB0 := Lib.hid (built_made (w := wr) (t := 5) (base := wr.heap.size) (cur := #[]) (cap := 0) (Nat.le_refl _) (Nat.zero_le _) rfl)
      have HT := Lib.hid (hbi.below (hbr.trans (hal.mono hbr.size)))
      have HL3 := Lib.hid (show (a.take i).length = i by simp; omega)
      obtain ⟨A5, C5, e5, hl5, hl5'⟩ := hbu.len
      rw [HL3.out] at e5 hl5
      have HOWN := Lib.hid hbu.own_lt
      have HBU := Lib.hid hbu
      subst e5
      have HAL := Lib.hid hal
      have HBR := Lib.hid hbr
      have HTK := Lib.hid (take_next hlt)
      have hci1 := below_cell hal _ _ hci
      clear hbu hal hbr
      go_wp2_with (first
        | (at_builtin; refine wpList_append_list byteR_world byteR_one _ rfl (.tmp 18) (.tmp 22) 28 rfl wr.heap.size 5 (.int .u8 0) 1 Try.underlying28 infoByte rfl _ _ rfl HB0.out _ _ _ _ rfl HT.out (by simp; omega) HAL.out.size ?_; intro v1 w1 hbu1 hg1 hb1; obtain ⟨A1, C1, e1, hl1, _⟩ := hbu1.len; rw [HL1.out] at e1 hl1; subst e1)
        | (at_builtin; refine wpList_append_built (R := Bytes) _ rfl (.tmp 17) (.tmp 24) 22 rfl w.heap.size 28 (.slice none 0 0) 24 Try.underlying22 infoRow rfl _ _ rfl (HBU.out.below (HAL.out.trans hb1)) _ _ _ rfl rfl rfl (hbu1.stays (r := (Value.slice A5 i C5).ownBlock) (fun g hg => (HOWN.out g hg).2)) (by rw [HL3.out]; omega) (Nat.le_trans HBR.out.size (HAL.out.trans hb1).size) ?_; intro v3 w3 hbu3 hg3 hb3))
      have HRN := Lib.hid (show Built Bytes w3 w.heap.size 28 v3 (a.take (i + 1)) by rw [HTK.out]; exact hbu3)
      have HBN := Lib.hid ((HBR.out.trans ((HAL.out.trans hb1).mono HBR.out.size)).trans hb3)
      clear hbu1 hbu3 hg1 hg3 hb1 hb3
      go_roundw
      case rel => exact ⟨i + 1, by omega, by go_num, HRN.out, HBN.out⟩
      case measure => simp [intOf]; omega
    · obtain rfl : i = a.length := by omega
      have hin := take_tab hbu
      have hsame : rowsB a a = true := decide_eq_true rfl
      clear hbu
      go_wp2_with fail
      refine (invertNo a _ _ (ha.below hbr) NI.out).mono ?_; rintro e w2 ⟨rfl, hb2⟩
      have hbr2 := hbr.trans (hb2.mono hbr.size)
      go_wp2_with fail
      refine (rowsC a a _ _ _ (ha.below hbr2) (hin.below hb2)).mono ?_; rintro e w' ⟨rfl, n1, rfl⟩
      go_wp2_with fail
      refine (fitC a _ _ ((ha.below hbr2).drewN n1)).mono ?_; rintro e w' ⟨rfl, n2, rfl⟩
      have hbr3 : Below w.heap.size w (w2.drewN (n1 + n2)) := hbr2.trans (below_drewN _ _ _)
      have hca := below_cell hbr2 _ _ hcaw
      go_wp2_with fail
      refine (answersC _).mono ?_; rintro e w4 ⟨rfl, hb4⟩
      have hbr5 := hbr3.trans (hb4.mono hbr3.size)
      go_wp2
      go_ret
      exact ⟨rfl, hbr5⟩
set_option maxHeartbeats 4000000 in
theorem inv_all (a : List (List Nat)) (va : Value) (w : World) (ha : Tab w va a) (sa : smallB a = true) (fa : fitB a = true) (hw : width a = a.length) (h7 : a.length ≤ 7) :
    Calls Try.prog 4 #[va] w fun e w' => e = .returned (.bool true) ∧ Below w.heap.size w w' := by
  obtain ⟨A, C, rfl, h1, h2, _⟩ := ha.shape
  have SM := Lib.hid sa
  have hla := (small_len sa).1
  have FA := Lib.hid fa
  have HW := Lib.hid hw
  have HBY := Lib.hid (Tab_bd ha)
  have HSQ := Lib.hid (sqr_of fa hw)
  have q1 : ((width a : Int) != (a.length : Int)) = false := by rw [hw]; simp
  clear hw
  have pa := (fitB_iff.1 fa).1
  have hpa : (0 : Int) < a.length := by omega
  obtain ⟨ba, oa, Aa, Ca, rfl, hcaw, hma, _⟩ := ha.at pa
  rw [← width_get pa, Nat.add_zero] at hcaw
  rw [← width_get pa] at hma
  go_enter Try.func4, Try.ntmps4
  go_wp2_with fail
  refine (smallC a _ _ ha).mono ?_; rintro e w' ⟨rfl, rfl⟩
  go_wp2_with fail
  go_loopw [3, 4] (fun u c wr => ∃ i : Nat, i ≤ a.length ∧ c = .int .i64 (i : Nat) ∧ Built Bytes wr w.heap.size 28 u (a.take i) ∧ Below w.heap.size w wr) (fun _ c _ => a.length - (intOf c).toNat)
  case atStart => exact ⟨0, Nat.zero_le _, rfl, Built.start _ _ _, Below.refl _ _⟩
  case round =>
    obtain ⟨i, hi, rfl, hbu, hbr⟩ := hrel
    by_cases hlt : i < a.length
    · obtain ⟨b, o, Ai, Ci, eA, hci0, hmi, hbi⟩ := ha.at hlt
      cases eA
      have HL1 := Lib.hid (show (([] : List Nat) ++ a[i]).length = a[i].length from rfl)
      have hci := below_cell hbr _ _ hci0
      have hri := small_row SM.out hlt
      have hal : Below wr.heap.size wr (wr.alloc (.cells #[] 5)) := (Below.refl _ _).alloc (Nat.le_refl _) _
      have HB0 := Lib.hid (built_made (w := wr) (t := 5) (base := wr.heap.size) (cur := #[]) (cap := 0) (Nat.le_refl _) (Nat.zero_le _) rfl)
      have HT := Lib.hid (hbi.below (hbr.trans (hal.mono hbr.size)))
      have HL3 := Lib.hid (show (a.take i).length = i by simp; omega)
      obtain ⟨A5, C5, e5, hl5, hl5'⟩ := hbu.len
      rw [HL3.out] at e5 hl5
      have HOWN := Lib.hid hbu.own_lt
      have HBU := Lib.hid hbu
      subst e5
      have HAL := Lib.hid hal
      have HBR := Lib.hid hbr
      have HTK := Lib.hid (take_next hlt)
      have hci1 := below_cell hal _ _ hci
      clear hbu hal hbr
      go_wp2_with (first
        | (at_builtin; refine wpList_append_list byteR_world byteR_one _ rfl (.tmp 18) (.tmp 22) 28 rfl wr.heap.size 5 (.int .u8 0) 1 Try.underlying28 infoByte rfl _ _ rfl HB0.out _ _ _ _ rfl HT.out (by simp; omega) HAL.out.size ?_; intro v1 w1 hbu1 hg1 hb1; obtain ⟨A1, C1, e1, hl1, _⟩ := hbu1.len; rw [HL1.out] at e1 hl1; subst e1)
        | (at_builtin; refine wpList_append_built (R := Bytes) _ rfl (.tmp 17) (.tmp 24) 22 rfl w.heap.size 28 (.slice none 0 0) 24 Try.underlying22 infoRow rfl _ _ rfl (HBU.out.below (HAL.out.trans hb1)) _ _ _ rfl rfl rfl (hbu1.stays (r := (Value.slice A5 i C5).ownBlock) (fun g hg => (HOWN.out g hg).2)) (by rw [HL3.out]; omega) (Nat.le_trans HBR.out.size (HAL.out.trans hb1).size) ?_; intro v3 w3 hbu3 hg3 hb3))
      have HRN := Lib.hid (show Built Bytes w3 w.heap.size 28 v3 (a.take (i + 1)) by rw [HTK.out]; exact hbu3)
      have HBN := Lib.hid ((HBR.out.trans ((HAL.out.trans hb1).mono HBR.out.size)).trans hb3)
      clear hbu1 hbu3 hg1 hg3 hb1 hb3
      go_roundw
      case rel => exact ⟨i + 1, by omega, by go_num, HRN.out, HBN.out⟩
      case measure => simp [intOf]; omega
    · obtain rfl : i = a.length := by omega
      have hin := take_tab hbu
      have hsame : rowsB a a = true := decide_eq_true rfl
      clear hbu
      go_wp2_with fail
      refine (invertGo a _ _ (ha.below hbr) FA.out HW.out h7).mono ?_
      rintro e w2 ⟨hb2, hp2⟩
      have hbr2 := hbr.trans (hb2.mono hbr.size)
      have hca := below_cell hbr2 _ _ hcaw
      rcases hp2 with ⟨rfl, q, F, hq, hRe, hz⟩ | ⟨v2, F, rfl, hRe, ht2⟩
      · have hd0 : ((detN a.length a : Int) == 0) = true := by rw [(det_test HBY.out HSQ.out.2).2 (inv_stuck HBY.out HSQ.out.1 hq hRe hz)]; rfl
        clear hRe hz
        go_wp2_with fail
        refine (rowsC a a _ _ _ (ha.below hbr2) (hin.below hb2)).mono ?_; rintro e w' ⟨rfl, n1, rfl⟩
        go_wp2_with fail
        refine (fitC a _ _ ((ha.below hbr2).drewN n1)).mono ?_; rintro e w' ⟨rfl, n2, rfl⟩
        have hbr3 : Below w.heap.size w (w2.drewN (n1 + n2)) := hbr2.trans (below_drewN _ _ _)
        go_wp2_with fail
        refine (det_all a.length (by omega) a _ _ HSQ.out.2 ((ha.below hbr2).drewN (n1 + n2))).mono ?_; rintro e w3 ⟨rfl, hb3⟩
        have hbr4 := hbr3.trans (hb3.mono hbr3.size)
        go_wp2_with fail
        refine (answersC _).mono ?_; rintro e w4 ⟨rfl, hb4⟩
        have hbr5 := hbr4.trans (hb4.mono hbr4.size)
        go_wp2
        go_ret
        exact ⟨rfl, hbr5⟩
      · obtain ⟨hdet, hbF, hleft, hright⟩ := inv_done HBY.out HSQ.out.1 hRe
        have hd0 : ((detN a.length a : Int) == 0) = false := by
          rw [beq_eq_false_iff_ne]
          intro e
          exact hdet ((det_test HBY.out HSQ.out.2).1 (by omega))
        have hpa' : 0 < a.length := by omega
        have hbB : Byt (tabOf a.length a.length (fun j i => F j (a.length + i))) := byt_tab fun r _ c _ => hbF _ _
        have X1 := Lib.hid (can_intro FA.out (fit_tab (F := fun j i => F j (a.length + i)) (m := a.length) hpa') (HW.out.trans (tabOf_len _ _ _).symm))
        have X2 := Lib.hid (can_intro (fit_tab (F := fun j i => F j (a.length + i)) (m := a.length) hpa') FA.out (width_tab hpa'))
        have R1 : rowsB (times a (tabOf a.length a.length (fun j i => F j (a.length + i)))) (unitT a.length) = true := decide_eq_true (times_unit HBY.out hbB rfl (width_tab hpa') (tabOf_len _ _ _) (fun r hr c hc => by
          rw [← hright r hr c hc]; exact S_congr fun k hk => by rw [entry_tab hk hc]))
        have R2 : rowsB (times (tabOf a.length a.length (fun j i => F j (a.length + i))) a) (unitT a.length) = true := decide_eq_true (times_unit hbB HBY.out (tabOf_len _ _ _) HW.out rfl (fun r hr c hc => by
          rw [← hleft r hr c hc]; exact S_congr fun k hk => by rw [entry_tab hr hk]))
        have Y1 := Lib.hid (show width (tabOf a.length a.length (fun j i => F j (a.length + i))) ≤ 4294967296 by rw [width_tab hpa']; omega)
        have Y2 := Lib.hid (show (tabOf a.length a.length (fun j i => F j (a.length + i))).length ≤ 4294967296 by rw [tabOf_len]; omega)
        have Y3 := Lib.hid (show width a ≤ 4294967296 by rw [HW.out]; omega)
        clear hRe hleft hright hbF hdet hbB
        generalize tabOf a.length a.length (fun j i => F j (a.length + i)) = B at *
        go_wp2_with fail
        refine (rowsC a a _ _ _ (ha.below hbr2) (hin.below hb2)).mono ?_; rintro e w' ⟨rfl, n1, rfl⟩
        go_wp2_with fail
        refine (fitC a _ _ ((ha.below hbr2).drewN n1)).mono ?_; rintro e w' ⟨rfl, n2, rfl⟩
        have hbr3 : Below w.heap.size w (w2.drewN (n1 + n2)) := hbr2.trans (below_drewN _ _ _)
        go_wp2_with fail
        refine (det_all a.length (by omega) a _ _ HSQ.out.2 ((ha.below hbr2).drewN (n1 + n2))).mono ?_; rintro e w3 ⟨rfl, hb3⟩
        have hbr4 := hbr3.trans (hb3.mono hbr3.size)
        have ht3 := (ht2.drewN (n1 + n2)).below hb3
        go_wp2_with fail
        refine (answersC _).mono ?_; rintro e w4 ⟨rfl, hb4⟩
        have hbr5 := hbr4.trans (hb4.mono hbr4.size)
        have ht4 := ht3.below hb4
        go_wp2_with fail
        refine (refTimes a B _ _ _ (ha.below hbr5) ht4 X1.out (by omega) Y1.out).mono ?_; rintro e w5 ⟨v5, rfl, ht5, hb5⟩
        have hbr6 := hbr5.trans (hb5.mono hbr5.size)
        go_wp2_with fail
        refine (refUnit a.length _ (by omega)).mono ?_; rintro e w6 ⟨v6, rfl, ht6, hb6⟩
        have hbr7 := hbr6.trans (hb6.mono hbr6.size)
        have ht7 := (ht4.below hb5).below hb6
        go_wp2_with fail
        refine (rowsC _ _ _ _ _ (ht5.below hb6) ht6.slice).mono ?_; rintro e w' ⟨rfl, n3, rfl⟩
        have hbr8 : Below w.heap.size w (w6.drewN n3) := hbr7.trans (below_drewN _ _ _)
        go_wp2_with fail
        refine (refTimes B a _ _ _ (ht7.drewN n3) (ha.below hbr8) X2.out Y2.out Y3.out).mono ?_; rintro e w7 ⟨v7, rfl, ht8, hb7⟩
        have hbr9 := hbr8.trans (hb7.mono hbr8.size)
        go_wp2_with fail
        refine (refUnit a.length _ (by omega)).mono ?_; rintro e w8 ⟨v8, rfl, ht9, hb8⟩
        have hbr10 := hbr9.trans (hb8.mono hbr9.size)
        go_wp2_with fail
        refine (rowsC _ _ _ _ _ (ht8.below hb8) ht9.slice).mono ?_; rintro e w' ⟨rfl, n4, rfl⟩
        have hbr11 : Below w.heap.size w (w8.drewN n4) := hbr10.trans (below_drewN _ _ _)
        go_wp2
        go_ret
        exact ⟨rfl, hbr11⟩
theorem MatInvertC (a : List (List Nat)) (va : Value) (w : World) (ha : Tab w va a) :
    Calls Try.prog 4 #[va] w fun e w' => e = .returned (.bool true) ∧ Below w.heap.size w w' := by
  cases sa : smallB a
  · exact inv_s a va w ha sa
  cases fa : fitB a
  · exact inv_f a va w ha sa fa
  by_cases hw : width a = a.length
  · by_cases h7 : 7 < a.length
    · exact inv_l a va w ha sa fa hw h7
    · exact inv_all a va w ha sa fa hw (by omega)
  · exact inv_w a va w ha sa fa hw
end Go.Proofs.Ytnognnbelaflgaa.Mat
