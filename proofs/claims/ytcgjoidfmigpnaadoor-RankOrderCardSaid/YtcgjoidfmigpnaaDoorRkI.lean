/- What the laws of layer 12 want of the program's own functions, and the first laws, as walks. -/
import Derived.Test.YtcgjoidfmigpnaaDoorRkTgt
import Derived.Test.YtcgjoidfmigpnaaDoorRecSame
namespace Go.Proofs.YtcgjoidfmigpnaaDoor.Rk
set_option linter.unusedVariables false
open Go.ChangeShapes Go.WideShapes Go.ChangeAt Go.RowKit
open Go.Mem Sha Hash Rec
/-- T: what the program's functions ask of the world (its own tables) -/
structure RankI (T : World → Prop) : Prop where
  keep : ∀ w w', T w → Below w.heap.size w w' → T w'
  order : ∀ (W : World) (s : Int) (v : Value) (l : List Int), T W → Ints W v l → I64 s → l.length ≤ 100 → Calls Tryd.prog 9 #[.int .i64 s, v] W (Ordered W s l)
  targets : ∀ (W : World) (s : Int) (v : Value) (l : List Int) (n : Int), T W → Ints W v l → I64 s → I64 n → l.length ≤ 100 → Calls Tryd.prog 12 #[.int .i64 s, v, .int .i64 n] W (Tgted W s l n)
theorem two_ints (w : World) (x y : Int) (hx : I64 x) (hy : I64 y) : Ints (w.alloc (.cells #[.int .i64 x, .int .i64 y] 3)) (.slice (some ⟨w.heap.size, 0, none⟩) 2 2) [x, y] := by
  have h := World.rowIs_alloc w #[.int .i64 x, .int .i64 y] 3 (fun i => if i = 0 then .int .i64 x else .int .i64 y) (fun i hi => by
    have : i < 2 := hi
    rcases (by omega : i = 0 ∨ i = 1) with rfl | rfl <;> rfl)
  refine ⟨_, 2, 2, rfl, rfl, Nat.le_refl _, by decide, (fun e => by cases e), fun i hi => ?_⟩
  have hi' : i < 2 := hi
  rcases (by omega : i = 0 ∨ i = 1) with rfl | rfl
  · exact ⟨_, 0, _, rfl, h.cell (i := 0) (by omega), rfl, hx⟩
  · exact ⟨_, 0, _, rfl, h.cell (i := 1) (by omega), rfl, hy⟩
theorem ans_tgt : tgt 5 [0, 1] 1 = [1] ∧ tgtOk [0, 1] 1 = true := by
  have h : insOf [0, 1] = [1] := by decide
  have hok : tgtOk [0, 1] 1 = true := by unfold tgtOk; rw [h]; decide
  refine ⟨?_, hok⟩
  rw [tgt_yes hok, h]
  rfl
set_option maxHeartbeats 2000000 in
theorem answersC {T : World → Prop} (I : RankI T) (w : World) (hT : T w) :
    Calls Tryd.prog 8 #[] w fun e w' => e = .returned (.bool true) ∧ Below w.heap.size w w' := by
  have hal : Below w.heap.size w (w.alloc (.cells #[.int .i64 0, .int .i64 1] 3)) := (Below.refl _ _).alloc (Nat.le_refl _) _
  have HT := Lib.hid hT
  have HAL := Lib.hid hal
  clear hT hal
  go_enter Tryd.func8, Tryd.ntmps8
  go_wp2_with fail
  refine (I.targets _ 5 _ [0, 1] 1 (I.keep _ _ HT.out HAL.out) (two_ints w 0 1 ⟨by omega, by omega⟩ ⟨by omega, by omega⟩) ⟨by omega, by omega⟩ ⟨by omega, by omega⟩ (by simp)).mono ?_
  rintro _ w1 ⟨u, rfl, hu, hb⟩
  rw [ans_tgt.1] at hu
  rw [ans_tgt.2]
  obtain ⟨A, C, rfl, -⟩ := hu.shape
  obtain ⟨b, o, rfl, hc, -⟩ := hu.at (i := 0) (by simp)
  have HB := Lib.hid (below_nxt HAL.out hb (Nat.le_refl _))
  have hal2 : Below w1.heap.size w1 (w1.alloc (.cells #[.int .i64 4, .int .i64 4] 3)) := (Below.refl _ _).alloc (Nat.le_refl _) _
  have HB2 := Lib.hid (below_nxt HB.out hal2 (Nat.le_refl _))
  simp only [List.getElem_cons_zero, Nat.add_zero, List.length_cons, List.length_nil, Nat.zero_add] at hc ⊢
  clear hu hb hal2
  go_wp2_with fail
  refine (I.order _ 1 _ [4, 4] (I.keep _ _ HT.out HB2.out) (two_ints w1 4 4 ⟨by omega, by omega⟩ ⟨by omega, by omega⟩) ⟨by omega, by omega⟩ (by simp)).mono ?_
  rintro _ w2 ⟨u2, rfl, hu2, hb2⟩
  obtain ⟨A2, C2, rfl, -⟩ := hu2.shape
  have HL := Lib.hid (show (ord 1 [4, 4]).length = 2 by rw [ord_len]; rfl)
  rw [HL.out]
  have HB3 := Lib.hid (below_nxt HB2.out hb2 (Nat.le_refl _))
  clear hu2 hb2
  go_wp2
  go_ret
  exact ⟨rfl, HB3.out⟩
theorem copy_ints (W : World) (A : Option Addr) (C : Nat) (l : List Int) (hI : Ints W (.slice A l.length C) l) (hl : l.length ≤ 100) :
    ∃ v1 w1, (Builtin.append_ #[22, 22] 22 #[.slice (some ⟨W.heap.size, 0, none⟩) 0 0, .slice A l.length C]).run Tryd.prog (W.alloc (.cells #[] 3)) = .ok v1 w1 ∧ Built IntR w1 W.heap.size 3 v1 l ∧ Below W.heap.size W w1 := by
  have hal : Below W.heap.size W (W.alloc (.cells #[] 3)) := (Below.refl _ _).alloc (Nat.le_refl _) _
  obtain ⟨v1, w1, hrun, hbu, _, hb1⟩ := run_append_list (P := Tryd.prog) intR_world intR_one (W.alloc (.cells #[] 3)) W.heap.size 22 22 3 (.int .i64 0) 8 Tryd.underlying22 infoInt rfl _ [] (built_none W (Nat.le_refl _)) _ _ _ l (hI.below hal) (by simp; omega) (by simp)
  exact ⟨v1, w1, hrun, hbu, hal.trans hb1⟩
set_option maxHeartbeats 4000000 in
theorem RankOrderC {T : World → Prop} (I : RankI T) (s : Int) (hs0 : -9223372036854775808 ≤ s) (hs1 : s ≤ 9223372036854775807) (l : List Int) (v : Value) (W : World) (hT : T W) (h : Ints W v l) :
    Calls Tryd.prog 3 #[.int .i64 s, v] W fun e w' => e = .returned (.bool true) ∧ Below W.heap.size W w' := by
  obtain ⟨A, C, rfl, g1, g2, -⟩ := h.shape
  have HT := Lib.hid hT
  by_cases hbig : 40 < l.length
  · have hd : decide (40 < l.length) = true := by simpa using hbig
    clear h hT
    obtain ⟨L, hL⟩ : ∃ L, l.length = L := ⟨_, rfl⟩
    rw [hL] at g1 hd hbig ⊢
    clear hL
    go_enter Tryd.func3, Tryd.ntmps3
    go_wp2_with fail
    refine (answersC I _ HT.out).mono ?_
    rintro _ w1 ⟨rfl, hb⟩
    have HB := Lib.hid hb
    clear hb
    go_wp2
    go_ret
    exact ⟨rfl, HB.out⟩
  · have hd : decide (40 < l.length) = false := by simpa using hbig
    have hl : l.length ≤ 40 := by omega
    obtain ⟨v1, w1, hrun, hbu, hb1⟩ := copy_ints W A C l h (by omega)
    have HI := Lib.hid h
    have HI1 := Lib.hid (show Ints w1 v1 l from hbu.slice)
    have HB1 := Lib.hid hb1
    have HLN := Lib.hid hl
    obtain ⟨A1, C1, e1, k1, k2⟩ := hbu.len
    subst e1
    obtain ⟨L, hL⟩ : ∃ L, l.length = L := ⟨_, rfl⟩
    rw [hL] at g1 hd hl hrun HI HI1 k1 ⊢
    clear h hT hbig hbu hb1 hL
    go_enter Tryd.func3, Tryd.ntmps3
    go_wp2_with (refine Lib.wpList_append_run _ rfl (.tmp 11) (.tmp 12) 22 22 rfl _ _ rfl rfl _ _ hrun ?_; clear hrun)
    refine (I.order _ s _ l (I.keep _ _ HT.out HB1.out) (HI.out.below HB1.out) ⟨hs0, hs1⟩ (by have := HLN.out; omega)).mono ?_
    rintro _ w2 ⟨u, rfl, hu, hb2⟩
    have HB2 := Lib.hid (below_nxt HB1.out hb2 (Nat.le_refl _))
    have HU := Lib.hid hu
    have HI2 := Lib.hid (HI1.out.below hb2)
    clear hu hb2
    go_wp2_with fail
    refine (answersC I _ (I.keep _ _ HT.out HB2.out)).mono ?_
    rintro _ w3 ⟨rfl, hb3⟩
    have HB3 := Lib.hid (below_nxt HB2.out hb3 (Nat.le_refl _))
    have HU3 := Lib.hid (HU.out.below hb3)
    have HI3 := Lib.hid (HI2.out.below hb3)
    clear hb3
    go_wp2_with fail
    refine (refOrder _ s _ l (HI.out.below HB3.out) ⟨hs0, hs1⟩ (by have := HLN.out; omega)).mono ?_
    rintro _ w4 ⟨u4, rfl, hu4, hb4⟩
    have HB4 := Lib.hid (below_nxt HB3.out hb4 (Nat.le_refl _))
    have HU4 := Lib.hid hu4
    have HU34 := Lib.hid (HU3.out.below hb4)
    have HI4 := Lib.hid (HI3.out.below hb4)
    clear hu4 hb4
    go_wp2_with fail
    refine (intsC _ _ _ _ _ HU34.out HU4.out).mono ?_
    rintro _ _ ⟨rfl, n5, rfl⟩
    rw [eqB_yes rfl]
    have HB5 := Lib.hid (below_nxt HB4.out (below_drewN _ w4 n5) (Nat.le_refl _))
    have HI5 := Lib.hid (HI4.out.drewN n5)
    go_wp2_with fail
    refine (intsC _ _ _ _ _ (HI.out.below HB5.out) HI5.out).mono ?_
    rintro _ _ ⟨rfl, n6, rfl⟩
    rw [eqB_yes rfl]
    have HB6 := Lib.hid (below_nxt HB5.out (below_drewN _ _ n6) (Nat.le_refl _))
    go_wp2
    go_ret
    exact ⟨rfl, by rw [← World.drewN_drewN]; exact HB6.out⟩
set_option maxHeartbeats 4000000 in
theorem RankTargetsC {T : World → Prop} (I : RankI T) (s n : Int) (hs0 : -9223372036854775808 ≤ s) (hs1 : s ≤ 9223372036854775807) (hn0 : -9223372036854775808 ≤ n) (hn1 : n ≤ 9223372036854775807) (l : List Int) (v : Value) (W : World) (hT : T W) (h : Ints W v l) :
    Calls Tryd.prog 4 #[.int .i64 s, v, .int .i64 n] W fun e w' => e = .returned (.bool true) ∧ Below W.heap.size W w' := by
  obtain ⟨A, C, rfl, g1, g2, -⟩ := h.shape
  have HT := Lib.hid hT
  by_cases hbig : 40 < l.length
  · have hd : decide (40 < l.length) = true := by simpa using hbig
    clear h hT
    obtain ⟨L, hL⟩ : ∃ L, l.length = L := ⟨_, rfl⟩
    rw [hL] at g1 hd hbig ⊢
    clear hL
    go_enter Tryd.func4, Tryd.ntmps4
    go_wp2_with fail
    refine (answersC I _ HT.out).mono ?_
    rintro _ w1 ⟨rfl, hb⟩
    have HB := Lib.hid hb
    clear hb
    go_wp2
    go_ret
    exact ⟨rfl, HB.out⟩
  · have hd : decide (40 < l.length) = false := by simpa using hbig
    have hl : l.length ≤ 40 := by omega
    have HI := Lib.hid h
    have HLN := Lib.hid hl
    obtain ⟨L, hL⟩ : ∃ L, l.length = L := ⟨_, rfl⟩
    rw [hL] at g1 hd hl HI ⊢
    obtain ⟨ok, hok⟩ : ∃ ok, tgtOk l n = ok := ⟨_, rfl⟩
    have HOK := Lib.hid hok
    clear h hT hbig hL hok
    go_enter Tryd.func4, Tryd.ntmps4
    go_wp2_with fail
    refine (I.targets _ s _ l n HT.out HI.out ⟨hs0, hs1⟩ ⟨hn0, hn1⟩ (by have := HLN.out; omega)).mono ?_
    rintro _ w2 ⟨u, rfl, hu, hb2⟩
    rw [HOK.out]
    have HB2 := Lib.hid hb2
    have HU := Lib.hid hu
    clear hu hb2
    go_wp2_with fail
    refine (refTargets _ s _ l n (HI.out.below HB2.out) ⟨hs0, hs1⟩ ⟨hn0, hn1⟩ (by have := HLN.out; omega)).mono ?_
    rintro _ w3 ⟨u3, rfl, hu3, hb3⟩
    rw [HOK.out]
    have HB3 := Lib.hid (below_nxt HB2.out hb3 (Nat.le_refl _))
    have HU3 := Lib.hid hu3
    have HU23 := Lib.hid (HU.out.below hb3)
    clear hu3 hb3
    go_wp2_with fail
    refine (answersC I _ (I.keep _ _ HT.out HB3.out)).mono ?_
    rintro _ w4 ⟨rfl, hb4⟩
    have HB4 := Lib.hid (below_nxt HB3.out hb4 (Nat.le_refl _))
    have HU24 := Lib.hid (HU23.out.below hb4)
    have HU34 := Lib.hid (HU3.out.below hb4)
    have hq : (ok == ok) = true := by simp
    clear hb4
    go_wp2_with fail
    refine (intsC _ _ _ _ _ HU24.out HU34.out).mono ?_
    rintro _ _ ⟨rfl, n5, rfl⟩
    rw [eqB_yes rfl]
    have HB5 := Lib.hid (below_nxt HB4.out (below_drewN _ w4 n5) (Nat.le_refl _))
    go_wp2
    go_ret
    exact ⟨rfl, HB5.out⟩
end Go.Proofs.YtcgjoidfmigpnaaDoor.Rk
