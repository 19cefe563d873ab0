/- One more, or one less, that is in: the law, as a walk. -/
import Derived.Test.YtcgjoidfmigpnaaDoorRkSpr
namespace Go.Proofs.YtcgjoidfmigpnaaDoor.Rk
set_option linter.unusedVariables false
open Go.ChangeShapes Go.WideShapes Go.ChangeAt Go.RowKit
open Go.Mem Sha Hash Rec
/-- how many were odd, ahead of i: none, or k alone -/
def OddAt (A : List Int) (k : Int) (i : Nat) (o : Int) : Prop := o = 0 ∨ (o = 1 ∧ ∃ j, ∃ h : j < A.length, j < i ∧ A[j] = k)
theorem OddAt.same {A : List Int} {k o : Int} {i : Nat} (h : OddAt A k i o) : OddAt A k (i + 1) o := by
  rcases h with h | ⟨h, j, hj, h1, h2⟩
  · exact .inl h
  · exact .inr ⟨h, j, hj, by omega, h2⟩
theorem OddAt.more {A : List Int} {k o : Int} {i : Nat} (h : OddAt A k i o) (hn : A.Nodup) (hi : i < A.length) (hk : A[i] = k) : o = 0 ∧ OddAt A k (i + 1) 1 := by
  have ho : o = 0 := by
    rcases h with h | ⟨_, j, hj, h1, h2⟩
    · exact h
    · have := List.pairwise_iff_getElem.1 hn j i hj hi h1
      exact absurd (h2.trans hk.symm) this
  exact ⟨ho, .inr ⟨rfl, i, hi, by omega, hk⟩⟩
theorem OddAt.le {A : List Int} {k o : Int} {i : Nat} (h : OddAt A k i o) : 0 ≤ o ∧ o ≤ 1 := by
  rcases h with h | ⟨h, _⟩ <;> omega
theorem mem_take_next {B : List Int} {j : Nat} {x : Int} (hj : j < B.length) : x ∈ B.take (j + 1) ↔ x ∈ B.take j ∨ x = B[j] := by
  rw [List.take_succ_eq_append_getElem hj, List.mem_append, List.mem_singleton]
set_option maxHeartbeats 8000000 in
set_option maxRecDepth 100000 in
theorem RankFewC {T : World → Prop} (I : RankI T) (s : Int) (hs0 : -9223372036854775808 ≤ s) (hs1 : s ≤ 9223372036854775807) (l : List Int) (v : Value) (a2 a3 : Int) (ha0 : 0 ≤ a2) (ha1 : a2 ≤ 255) (hb0 : 0 ≤ a3) (hb1 : a3 ≤ 255) (W : World) (hT : T W) (h : Ints W v l) :
    Calls Tryd.prog 5 #[.int .i64 s, v, .int .u8 a2, .int .u8 a3] W fun e w' => e = .returned (.bool true) ∧ Below W.heap.size W w' := by
  obtain ⟨A, C, rfl, g1, g2, -⟩ := h.shape
  have HT := Lib.hid hT
  by_cases hbig : l.length = 0 ∨ 20 < l.length
  · obtain ⟨L, hL⟩ : ∃ L, l.length = L := ⟨_, rfl⟩
    rw [hL] at g1 hbig ⊢
    clear h hT hL
    rcases hbig with hbig | hbig
    · subst hbig
      go_enter Tryd.func5, Tryd.ntmps5
      go_wp2_with fail
      refine (answersC I _ HT.out).mono ?_
      rintro _ w1 ⟨rfl, hb⟩
      have HB := Lib.hid hb
      clear hb
      go_wp2
      go_ret
      exact ⟨rfl, HB.out⟩
    · have hd : decide (20 < L) = true := by simpa using hbig
      have hq : ((L : Int) == 0) = false := by simp; omega
      go_enter Tryd.func5, Tryd.ntmps5
      go_wp2_with fail
      refine (answersC I _ HT.out).mono ?_
      rintro _ w1 ⟨rfl, hb⟩
      have HB := Lib.hid hb
      clear hb
      go_wp2
      go_ret
      exact ⟨rfl, HB.out⟩
  · have hl0 : 0 < l.length := by omega
    have hl : l.length ≤ 20 := by omega
    have h64 := ints_i64 h
    obtain ⟨v1, w1, hrun, hbu, hb1'⟩ := copy_ints W A C l h (by omega)
    obtain ⟨G1, C1, rfl, k1, k2, hG1, hr1⟩ := built_rowZ hbu hl0
    obtain ⟨v2, w2, hrun2, hbu2, hb2'⟩ := copy_ints w1 A C l (h.below hb1') (by omega)
    obtain ⟨G2, C2, rfl, k3, k4, hG2, hr2⟩ := built_rowZ hbu2 hl0
    have hr12 := hr1.below hl0 hb2'
    have hlt1 := hr1.lt hl0
    have hne : ¬ G1 = G2 := by omega
    obtain ⟨k, hk⟩ : ∃ k : Nat, a2 % (l.length : Int) = (k : Int) := ⟨(a2 % (l.length : Int)).toNat, by have := Int.emod_nonneg a2 (show (l.length : Int) ≠ 0 by omega); omega⟩
    have hkl : k < l.length := by have := Int.emod_lt_of_pos a2 (show (0 : Int) < (l.length : Int) by omega); omega
    obtain ⟨N, hN⟩ : ∃ N : Nat, a3 % 8 = (N : Int) := ⟨(a3 % 8).toNat, by omega⟩
    have hN8 : N < 8 := by omega
    have fa := hr12.free k hkl
    have fb := hr2.free k hkl
    have ca := hr12.cell k hkl
    have cb := hr2.cell k hkl
    have hw2 : Below W.heap.size W w2 := hb1'.trans (hb2'.mono hb1'.size)
    have HWZ := Lib.hid (show ∃ wz, (w2.setCell ⟨G1, k, none⟩ (.int .i64 1)).setCell ⟨G2, k, none⟩ (.int .i64 2) = wz ∧ RowZ wz G1 (l.set k 1) ∧ RowZ wz G2 (l.set k 2) ∧ Below W.heap.size W wz from
      ⟨_, rfl, (hr12.set k 1).keep (Below.heap_setCell _ _ _ _ (fun q => by have h9 : G1 = G2 := q; omega)), (hr2.keep (Below.heap_setCell _ _ _ _ (fun q => by have h9 : G2 = G1 := q; omega))).set k 2, (hw2.setCell hG1 _).setCell (show W.heap.size ≤ G2 by have := hb1'.size; omega) _⟩)
    have H64 := Lib.hid h64
    have HKL := Lib.hid hkl
    have HL20 := Lib.hid hl
    have HTW := Lib.hid (I.keep W w1 HT.out hb1')
    obtain ⟨L, hL⟩ : ∃ L, l.length = L := ⟨_, rfl⟩
    have HL := Lib.hid hL
    rw [hL] at g1 hl hl0 hrun hrun2 k1 k3 hk hkl ⊢
    have q1 : (0 : Int) ≤ (k : Int) := by omega
    have q2 : (k : Int) < (L : Int) := by omega
    have hd : decide (20 < L) = false := by simpa using hl
    have hq : ((L : Int) == 0) = false := by simp; omega
    clear h hT hbig hbu hbu2 hb1' hb2' hr1 hr2 hr12 hlt1 h64 hw2 hL hG1 hG2
    go_enter Tryd.func5, Tryd.ntmps5
    go_wp2_with (first | (refine Lib.wpList_append_run _ rfl (.tmp 34) (.tmp 35) 22 22 rfl _ _ rfl rfl _ _ hrun ?_; clear hrun) | (refine Lib.wpList_append_run _ rfl (.tmp 37) (.tmp 38) 22 22 rfl _ _ rfl rfl _ _ hrun2 ?_; clear hrun2))
    obtain ⟨wz, hwz, hz1, hz2, hzb⟩ := HWZ.out
    rw [hwz]
    have hs1l : (l.set k 1).length = L := by rw [List.length_set]; exact HL.out
    have hs2l : (l.set k 2).length = L := by rw [List.length_set]; exact HL.out
    have hi1 := hz1.ints (C := C1) (fun x hx => (List.mem_or_eq_of_mem_set hx).elim (H64.out x) (fun e => by subst e; exact ⟨by omega, by omega⟩)) (by omega) k2
    have hi2 := hz2.ints (C := C2) (fun x hx => (List.mem_or_eq_of_mem_set hx).elim (H64.out x) (fun e => by subst e; exact ⟨by omega, by omega⟩)) (by omega) k4
    rw [hs1l] at hi1
    rw [hs2l] at hi2
    have HI1 := Lib.hid hi1
    have HI2 := Lib.hid hi2
    have HS1 := Lib.hid hs1l
    have HS2 := Lib.hid hs2l
    have HBZ := Lib.hid hzb
    clear hwz hz1 hz2 hzb hs1l hs2l hi1 hi2 HWZ fa fb ca cb hne
    refine (I.targets _ s _ _ N (I.keep _ _ HT.out HBZ.out) HI1.out ⟨hs0, hs1⟩ ⟨by omega, by omega⟩ (by rw [HS1.out]; omega)).mono ?_
    rintro _ w3 ⟨ua, rfl, hua, hb3⟩
    have HB3 := Lib.hid (below_nxt HBZ.out hb3 (Nat.le_refl _))
    have HUA := Lib.hid hua
    have HI23 := Lib.hid (HI2.out.below hb3)
    clear hua hb3
    obtain ⟨ok1, hok1⟩ : ∃ ok1, tgtOk (l.set k 1) N = ok1 := ⟨_, rfl⟩
    obtain ⟨ok2, hok2⟩ : ∃ ok2, tgtOk (l.set k 2) N = ok2 := ⟨_, rfl⟩
    have HO1 := Lib.hid hok1
    have HO2 := Lib.hid hok2
    rw [hok1]
    obtain ⟨A1, D1, rfl, m1, m2, -⟩ := HUA.out.shape
    clear hok1 hok2
    go_wp2_with fail
    refine (I.targets _ s _ _ N (I.keep _ _ HT.out HB3.out) HI23.out ⟨hs0, hs1⟩ ⟨by omega, by omega⟩ (by rw [HS2.out]; omega)).mono ?_
    rintro _ w4 ⟨ub, rfl, hub, hb4⟩
    have HB4 := Lib.hid (below_nxt HB3.out hb4 (Nat.le_refl _))
    have HUB := Lib.hid hub
    have HUA4 := Lib.hid (HUA.out.below hb4)
    rw [HO2.out]
    obtain ⟨B1, E1, rfl, m3, m4, -⟩ := hub.shape
    clear hub hb4
    cases ok2 with
    | false =>
      go_wp2_with fail
      refine (answersC I _ (I.keep _ _ HT.out HB4.out)).mono ?_
      rintro _ w5 ⟨rfl, hb5⟩
      have HB5 := Lib.hid (below_nxt HB4.out hb5 (Nat.le_refl _))
      clear hb5
      go_wp2
      go_ret
      exact ⟨rfl, HB5.out⟩
    | true =>
      obtain ⟨f1, f2, f3⟩ := few (s := s) HKL.out HO2.out
      obtain rfl : ok1 = true := by rw [← HO1.out]; exact f1
      obtain ⟨X, hX⟩ : ∃ X, tgt s (l.set k 1) N = X := ⟨_, rfl⟩
      obtain ⟨Y, hY⟩ : ∃ Y, tgt s (l.set k 2) N = Y := ⟨_, rfl⟩
      have hxle : X.length ≤ L := by rw [← hX]; exact Nat.le_trans (tgt_le _ _ _) (Nat.le_of_eq HS1.out)
      have hyle : Y.length ≤ L := by rw [← hY]; exact Nat.le_trans (tgt_le _ _ _) (Nat.le_of_eq HS2.out)
      rw [hX] at HUA4 f2 f3 m1 ⊢
      rw [hY] at HUB f3 m3 ⊢
      have HND := Lib.hid f2
      have HMEM := Lib.hid f3
      obtain ⟨NX, hNX⟩ : ∃ NX, X.length = NX := ⟨_, rfl⟩
      obtain ⟨NY, hNY⟩ : ∃ NY, Y.length = NY := ⟨_, rfl⟩
      have HNX := Lib.hid hNX
      have HNY := Lib.hid hNY
      rw [hNX] at HUA4 m1 hxle ⊢
      rw [hNY] at HUB m3 hyle ⊢
      clear f1 f2 f3 hX hY hNX hNY HUA HI23 HI1 HI2 m2 m4
      have HST := Lib.hid (show Ints w4 (.slice A1 NX D1) X ∧ Ints w4 (.slice B1 NY E1) Y ∧ Below W.heap.size W w4 from ⟨HUA4.out, HUB.out, HB4.out⟩)
      go_wp2
      go_loopw [16, 17] (fun ov c wr => ∃ i : Nat, i ≤ NX ∧ c = .int .i64 i ∧ (∃ o : Int, ov = .int .i64 o ∧ OddAt X k i o) ∧ Ints wr (.slice A1 NX D1) X ∧ Ints wr (.slice B1 NY E1) Y ∧ Below W.heap.size W wr) (fun _ c _ => NX - (intOf c).toNat)
      case atStart => exact ⟨0, Nat.zero_le _, rfl, ⟨0, rfl, .inl rfl⟩, HST.out⟩
      case round =>
        obtain ⟨i, hi, rfl, ⟨o, rfl, hodd⟩, hx, hy, hbl⟩ := hrel
        have HODD := Lib.hid hodd
        obtain ⟨o0, o1⟩ := hodd.le
        have HBR := Lib.hid hbl
        by_cases hlt : i < NX
        · have HST2 := Lib.hid (show Ints wr (.slice A1 NX D1) X ∧ Ints wr (.slice B1 NY E1) Y ∧ Below W.heap.size W wr from ⟨hx, hy, hbl⟩)
          have r1 : (i : Int) < (NX : Int) := by omega
          have r2 : (0 : Int) ≤ (i : Int) := by omega
          have hil : i < X.length := by rw [HNX.out]; exact hlt
          have HIL := Lib.hid hil
          obtain ⟨x, hxe⟩ : ∃ x, X[i] = x := ⟨_, rfl⟩
          have HXE := Lib.hid hxe
          clear hodd hx hy hbl hxe hil
          obtain ⟨w0, hw0⟩ : ∃ w0 : World, w0 = wr := ⟨_, rfl⟩
          subst hw0
          go_wp2
          go_loopw [18, 19] (fun hv c wr => ∃ j : Nat, j ≤ NY ∧ c = .int .i64 j ∧ (∃ b : Bool, hv = .bool b ∧ (b = true ↔ x ∈ Y.take j)) ∧ Ints wr (.slice A1 NX D1) X ∧ Ints wr (.slice B1 NY E1) Y ∧ Below W.heap.size W wr) (fun _ c _ => NY - (intOf c).toNat)
          case atStart => exact ⟨0, Nat.zero_le _, rfl, ⟨false, rfl, by simp⟩, HST2.out⟩
          case round =>
            obtain ⟨j, hj, rfl, ⟨b, rfl, hmem⟩, hx, hy, hbl⟩ := hrel
            have HBJ := Lib.hid hbl
            have HX := Lib.hid hx
            have HY := Lib.hid hy
            by_cases hjl : j < NY
            · have hjY : j < Y.length := by rw [HNY.out]; exact hjl
              have r3 : (j : Int) < (NY : Int) := by omega
              have r4 : (0 : Int) ≤ (j : Int) := by omega
              have HD := Lib.hid (fun n => (show Ints (wr.drewN n) (.slice A1 NX D1) X ∧ Ints (wr.drewN n) (.slice B1 NY E1) Y ∧ Below W.heap.size W (wr.drewN n) from ⟨hx.drewN n, hy.drewN n, below_nxt hbl (below_drewN _ _ n) (Nat.le_refl _)⟩))
              cases b with
              | true =>
                have HM := Lib.hid (show (true = true ↔ x ∈ Y.take (j + 1)) from ⟨fun _ => (mem_take_next hjY).2 (.inl (hmem.1 rfl)), fun _ => rfl⟩)
                clear hmem hx hy hbl hjY
                go_wp2
                go_quiet (fail)
                go_wp2
                go_roundw
                case rel => exact ⟨j + 1, by omega, by go_num, ⟨true, rfl, by simpa using HM.out⟩, HD.out _⟩
                case measure => simp [intOf]; omega
              | false =>
                obtain ⟨bb, oo, rfl, hc2, -⟩ := hy.at hjY
                have hxi : i < X.length := HIL.out
                have hek : X[i] = x := HXE.out
                obtain ⟨ba, oa, rfl, hc1, -⟩ := hx.at hxi
                rw [hek] at hc1
                obtain ⟨y, hye⟩ : ∃ y, Y[j] = y := ⟨_, rfl⟩
                rw [hye] at hc2
                have hm0 : ¬ x ∈ Y.take j := fun hq => by have := hmem.2 hq; cases this
                by_cases hxy : x = y
                · have hbq : (x == y) = true := by rw [hxy]; simp
                  have HM := Lib.hid (show (true = true ↔ x ∈ Y.take (j + 1)) from ⟨fun _ => (mem_take_next hjY).2 (.inr (by rw [hye]; exact hxy)), fun _ => rfl⟩)
                  clear hmem hx hy hbl hjY hm0 hxy hye hxi hek
                  go_wp2
                  go_quiet (fail)
                  go_wp2
                  go_roundw
                  case rel => exact ⟨j + 1, by omega, by go_num, ⟨true, rfl, by simpa using HM.out⟩, HD.out _⟩
                  case measure => simp [intOf]; omega
                · have hbq : (x == y) = false := by simpa using hxy
                  have HM := Lib.hid (show (false = true ↔ x ∈ Y.take (j + 1)) from ⟨(fun q => by cases q), fun q => ((mem_take_next hjY).1 q).elim (fun z => absurd z hm0) (fun z => absurd (by rw [hye] at z; exact z) hxy)⟩)
                  clear hmem hx hy hbl hjY hm0 hxy hye hxi hek
                  go_wp2
                  go_quiet (fail)
                  go_wp2
                  go_roundw
                  case rel => exact ⟨j + 1, by omega, by go_num, ⟨false, rfl, by simpa using HM.out⟩, HD.out _⟩
                  case measure => simp [intOf]; omega
            · obtain rfl : j = NY := by omega
              rw [List.take_of_length_le (Nat.le_of_eq HNY.out)] at hmem
              have r3 : ¬ (j : Int) < (j : Int) := by omega
              cases b with
              | true =>
                have HOD := Lib.hid HODD.out.same
                clear hmem hx hy hbl
                go_wp2
                go_roundw
                case rel => exact ⟨i + 1, by omega, by go_num, ⟨o, rfl, HOD.out⟩, HX.out, HY.out, HBJ.out⟩
                case measure => simp [intOf]; omega
              | false =>
                have hxk : x = (k : Int) := by
                  rcases HMEM.out x (by rw [← HXE.out]; exact List.getElem_mem HIL.out) with q | q
                  · exact q
                  · have := hmem.2 q; cases this
                obtain ⟨hoz, hom⟩ := HODD.out.more HND.out HIL.out (HXE.out.trans hxk)
                have HOM := Lib.hid hom
                have hxi : i < X.length := HIL.out
                have hek : X[i] = (k : Int) := HXE.out.trans hxk
                obtain ⟨ba, oa, rfl, hc1, -⟩ := hx.at hxi
                rw [hek] at hc1
                have hbq : ((k : Int) != (k : Int)) = false := by simp
                subst hoz
                clear hmem hx hy hbl hom hxk hxi hek
                go_wp2
                go_roundw
                case rel => exact ⟨i + 1, by omega, by go_num, ⟨1, rfl, HOM.out⟩, HX.out, HY.out, HBJ.out⟩
                case measure => simp [intOf]; omega
        · obtain rfl : i = NX := by omega
          have r1 : ¬ (i : Int) < (i : Int) := by omega
          have hod : decide (o ≤ 1) = true := by simpa using o1
          clear hodd hx hy hbl
          go_wp2_with fail
          refine (answersC I _ (I.keep _ _ HT.out HBR.out)).mono ?_
          rintro _ w5 ⟨rfl, hb5⟩
          have HB5 := Lib.hid (below_nxt HBR.out hb5 (Nat.le_refl _))
          clear hb5
          go_wp2
          go_ret
          exact ⟨rfl, HB5.out⟩
end Go.Proofs.YtcgjoidfmigpnaaDoor.Rk
