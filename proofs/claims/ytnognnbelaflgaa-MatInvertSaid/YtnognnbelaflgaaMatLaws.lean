/- The laws of layer 2, as walks. -/
import Derived.Test.YtnognnbelaflgaaInvert
import Derived.Test.YtnognnbelaflgaaTrod
namespace Go.Proofs.Ytnognnbelaflgaa.Mat
open Go.ChangeShapes Go.WideShapes Go.ChangeAt Go.RowKit
open Go.Mem
open GfPlain Gf
theorem Tab_one {w : World} {v1 : Value} {l1 : List Nat} (t : Nat) (h1 : Bytes w v1 l1) : Tab (w.alloc (.cells #[v1] t)) (.slice (some ⟨w.heap.size, 0, none⟩) 1 1) [l1] := by
  have hal : Below w.heap.size w (w.alloc (.cells #[v1] t)) := (Below.refl _ _).alloc (Nat.le_refl _) _
  refine ⟨some ⟨w.heap.size, 0, none⟩, 1, 1, rfl, rfl, Nat.le_refl _, by unfold maxLen; omega, (fun e => by cases e), fun i hi => ?_⟩
  match i, hi with
  | 0, _ => exact ⟨w.heap.size, 0, v1, rfl, by simp, h1.below hal⟩
theorem Bytes_one (w : World) (t x : Nat) (hx : x < 256) : Bytes (w.alloc (.cells #[.int .u8 (x : Nat)] t)) (.slice (some ⟨w.heap.size, 0, none⟩) 1 1) [x] := by
  refine ⟨some ⟨w.heap.size, 0, none⟩, 1, 1, rfl, rfl, Nat.le_refl _, by unfold maxLen; omega, (fun e => by cases e), fun i hi => ?_⟩
  match i, hi with
  | 0, _ => exact ⟨w.heap.size, 0, _, rfl, by simp, rfl, hx⟩
/-- a table of one byte, as a literal lays it -/
theorem Tab_byte (w : World) (t t' x : Nat) (hx : x < 256) : Tab ((w.alloc (.cells #[.int .u8 (x : Nat)] t)).alloc (.cells #[.slice (some ⟨w.heap.size, 0, none⟩) 1 1] t')) (.slice (some ⟨w.heap.size + 1, 0, none⟩) 1 1) [[x]] := by
  have := Tab_one t' (Bytes_one w t x hx)
  simpa using this
theorem answer_code : (codeT 1 1).length = 2 := by decide +kernel
theorem answer_times : times [[2]] [[128]] = [[29]] := by decide +kernel
theorem answer_invert {e : Ending} {w : World} (h : InvPost [[1]] e w) : ∃ v M, e = .returned (.tuple #[v, .int .i64 0]) ∧ Tab w v M ∧ M.length = 1 := by
  rcases h with ⟨_, q, F, hq, hR, hz⟩ | ⟨v, F, he, _, ht⟩
  · exfalso
    have hq0 : q = 0 := by simp at hq; omega
    subst hq0
    cases hR
    have := hz 0 (Nat.le_refl _) (by simp)
    revert this
    decide +kernel
  · exact ⟨v, _, he, ht, by rw [tabOf_len]; rfl⟩
set_option maxHeartbeats 2000000 in
theorem answersC (w : World) :
    Calls Try.prog 9 #[] w fun e w' => e = .returned (.bool true) ∧ Below w.heap.size w w' := by
  go_enter Try.func9, Try.ntmps9
  go_wp2_with fail
  have t1 := Tab_byte w 5 28 2 (by omega)
  have b1 : Below w.heap.size w ((w.alloc (.cells #[.int .u8 (2 : Nat)] 5)).alloc (.cells #[.slice (some ⟨w.heap.size, 0, none⟩) 1 1] 28)) := ((Below.refl _ _).alloc (Nat.le_refl _) _).alloc (by simp) _
  have hs1 : ((w.alloc (.cells #[.int .u8 (2 : Nat)] 5)).alloc (.cells #[.slice (some ⟨w.heap.size, 0, none⟩) 1 1] 28)).heap.size = w.heap.size + 1 + 1 := by simp
  rw [show (((2 : Nat) : Int)) = 2 from rfl] at t1 b1 hs1
  generalize (w.alloc (.cells #[.int .u8 2] 5)).alloc (.cells #[.slice (some ⟨w.heap.size, 0, none⟩) 1 1] 28) = wa at *
  have t2 := Tab_byte wa 5 28 128 (by omega)
  have b2 : Below wa.heap.size wa ((wa.alloc (.cells #[.int .u8 (128 : Nat)] 5)).alloc (.cells #[.slice (some ⟨wa.heap.size, 0, none⟩) 1 1] 28)) := ((Below.refl _ _).alloc (Nat.le_refl _) _).alloc (by simp) _
  rw [hs1, show (((128 : Nat) : Int)) = 128 from rfl] at t2 b2
  have t1' := t1.below (by rw [hs1]; exact b2)
  have b12 := b1.trans (b2.mono (show w.heap.size ≤ w.heap.size + 1 + 1 by omega))
  clear t1 b1 b2 hs1
  generalize (wa.alloc (.cells #[.int .u8 128] 5)).alloc (.cells #[.slice (some ⟨w.heap.size + 1 + 1, 0, none⟩) 1 1] 28) = wb at *
  refine (timesOk [[2]] [[128]] _ _ _ t1' t2 (by decide +kernel) (by decide) (by decide)).mono ?_
  rintro e w5 ⟨v5, rfl, ht5, hb5⟩
  rw [answer_times] at ht5
  obtain ⟨A5, C5, rfl, _, hC5, _⟩ := ht5.shape
  obtain ⟨bq, oq, A6, C6, rfl, hc5, _, hb6⟩ := ht5.at (i := 0) (by decide)
  obtain ⟨br, or', rfl, hc6, _⟩ := hb6.at (i := 0) (by decide)
  rw [Nat.add_zero] at hc5 hc6
  have b125 := b12.trans (hb5.mono b12.size)
  clear t1' t2 b12 hb5 ht5 hb6
  go_wp2_with fail
  have t3 := Tab_byte w5 5 28 1 (by omega)
  have b3 : Below w5.heap.size w5 ((w5.alloc (.cells #[.int .u8 (1 : Nat)] 5)).alloc (.cells #[.slice (some ⟨w5.heap.size, 0, none⟩) 1 1] 28)) := ((Below.refl _ _).alloc (Nat.le_refl _) _).alloc (by simp) _
  rw [show (((1 : Nat) : Int)) = 1 from rfl] at t3 b3
  have hc5 := below_cell b3 _ _ hc5
  have hc6 := below_cell b3 _ _ hc6
  have b6 := b125.trans (b3.mono b125.size)
  clear b3 b125
  generalize (w5.alloc (.cells #[.int .u8 1] 5)).alloc (.cells #[.slice (some ⟨w5.heap.size, 0, none⟩) 1 1] 28) = wc at *
  refine (invertGo [[1]] _ _ t3 (by decide) (by decide) (by decide)).mono ?_
  rintro e w7 ⟨hb7, hp7⟩
  obtain ⟨v7, M7, rfl, ht7, hM⟩ := answer_invert hp7
  have hc5 := below_cell hb7 _ _ hc5
  have hc6 := below_cell hb7 _ _ hc6
  have b7 := b6.trans (hb7.mono b6.size)
  obtain ⟨A7, C7, rfl, _, hC7, _⟩ := ht7.shape
  rw [hM]
  have HM := Lib.hid hM
  clear hM hb7 hp7 b6 t3 ht7
  go_wp2_with fail
  refine (codeC 1 1 _ (by omega) (by omega) (by omega)).mono ?_
  rintro e w8 ⟨v8, rfl, ht8, hb8⟩
  obtain ⟨A8, C8, rfl, _, hC8, _⟩ := ht8.shape
  rw [answer_code]
  have b8 := b7.trans (hb8.mono b7.size)
  clear ht8 hb8 b7
  go_wp2
  go_ret
  exact ⟨rfl, b8⟩
def okT (a b : List (List Nat)) : Bool := smallB a && smallB b
theorem small_len {M : List (List Nat)} (h : smallB M = true) : M.length ≤ 12 ∧ width M ≤ 12 := by
  unfold smallB at h
  rw [Bool.and_eq_true, decide_eq_true_eq, List.all_eq_true] at h
  refine ⟨h.1, ?_⟩
  by_cases h0 : 0 < M.length
  · rw [width_get h0]
    have := h.2 M[0] (List.getElem_mem h0)
    simpa using this
  · have : M = [] := List.length_eq_zero_iff.1 (by omega)
    subst this; simp [width]
set_option maxHeartbeats 2000000 in
theorem MatTimesC (a b : List (List Nat)) (va vb : Value) (w : World) (ha : Tab w va a) (hb : Tab w vb b) :
    Calls Try.prog 3 #[va, vb] w fun e w' => e = .returned (.bool true) ∧ Below w.heap.size w w' := by
  obtain ⟨A, C, rfl, h1, h2, _⟩ := ha.shape
  obtain ⟨Ab, Cb, rfl, g1, g2, _⟩ := hb.shape
  by_cases sa : smallB a = true
  · by_cases sb : smallB b = true
    · have la := small_len sa
      have lb := small_len sb
      by_cases ok : canTimes a b = true
      · have ok' := ok
        unfold canTimes at ok'
        rw [Bool.and_eq_true, Bool.and_eq_true, beq_iff_eq] at ok'
        obtain ⟨⟨fa, fb⟩, hw⟩ := ok'
        have hq : ((width a : Int) != (b.length : Int)) = false := by rw [hw]; simp
        have HO := Lib.hid ok
        clear hw ok
        have hpa : (0 : Int) < a.length := by have := (fitB_iff.1 fa).1; omega
        obtain ⟨ba, oa, Aa, Ca, rfl, hcaw, hma, _⟩ := ha.at (show 0 < a.length by omega)
        rw [← width_get (by omega), Nat.add_zero] at hcaw
        rw [← width_get (by omega)] at hma
        go_enter Try.func3, Try.ntmps3
        go_wp2_with fail
        refine (smallC a _ _ ha).mono ?_; rintro e w' ⟨rfl, rfl⟩
        go_wp2_with fail
        refine (smallC b _ _ hb).mono ?_; rintro e w' ⟨rfl, rfl⟩
        go_wp2_with fail
        refine (timesOk a b _ _ _ ha hb HO.out (by omega) (by omega)).mono ?_; rintro e w1 ⟨v1, rfl, ht1, hb1⟩
        go_wp2_with fail
        refine (fitC a _ _ (ha.below hb1)).mono ?_; rintro e w' ⟨rfl, n1, rfl⟩
        go_wp2_with fail
        refine (fitC b _ _ ((hb.below hb1).drewN _)).mono ?_; rintro e w' ⟨rfl, n2, rfl⟩
        have hca := below_cell hb1 _ _ hcaw
        have hb2 : Below w.heap.size w (w1.drewN (n1 + n2)) := hb1.trans (below_drewN _ _ _)
        have ht2 := ht1.drewN (n1 + n2)
        go_wp2_with fail
        refine (answersC _).mono ?_; rintro e w3 ⟨rfl, hb3⟩
        have hb23 := hb2.trans (hb3.mono hb2.size)
        have ht3 := ht2.below hb3
        go_wp2_with fail
        refine (refTimes a b _ _ _ (ha.below hb23) (hb.below hb23) HO.out (by omega) (by omega)).mono ?_; rintro e w4 ⟨v4, rfl, ht4, hb4⟩
        have hb24 := hb23.trans (hb4.mono hb23.size)
        have hsame : rowsB (times a b) (times a b) = true := decide_eq_true rfl
        go_wp2_with fail
        refine (rowsC (times a b) (times a b) _ _ _ (ht3.below hb4) ht4).mono ?_; rintro e w' ⟨rfl, n3, rfl⟩
        have hb25 : Below w.heap.size w (w4.drewN n3) := hb24.trans (below_drewN _ _ _)
        go_wp2
        go_ret
        exact ⟨rfl, hb25⟩
      · have no : canTimes a b = false := by simpa using ok
        clear ok
        by_cases fa : fitB a = true
        · by_cases fb : fitB b = true
          · have hw : ¬ width a = b.length := fun e => by
              unfold canTimes at no; rw [fa, fb, e] at no; simp at no
            have hq : ((width a : Int) != (b.length : Int)) = true := by rw [bne_iff_ne]; omega
            have HO := Lib.hid no
            clear hw no
            have hpa : (0 : Int) < a.length := by have := (fitB_iff.1 fa).1; omega
            obtain ⟨ba, oa, Aa, Ca, rfl, hcaw, hma, _⟩ := ha.at (show 0 < a.length by omega)
            rw [← width_get (by omega), Nat.add_zero] at hcaw
            rw [← width_get (by omega)] at hma
            go_enter Try.func3, Try.ntmps3
            go_wp2_with fail
            refine (smallC a _ _ ha).mono ?_; rintro e w' ⟨rfl, rfl⟩
            go_wp2_with fail
            refine (smallC b _ _ hb).mono ?_; rintro e w' ⟨rfl, rfl⟩
            go_wp2_with fail
            refine (timesNo a b _ _ _ ha hb HO.out).mono ?_; rintro e w1 ⟨rfl, hb1⟩
            go_wp2_with fail
            refine (fitC a _ _ (ha.below hb1)).mono ?_; rintro e w' ⟨rfl, n1, rfl⟩
            go_wp2_with fail
            refine (fitC b _ _ ((hb.below hb1).drewN _)).mono ?_; rintro e w' ⟨rfl, n2, rfl⟩
            have hca := below_cell hb1 _ _ hcaw
            have hb2 : Below w.heap.size w (w1.drewN (n1 + n2)) := hb1.trans (below_drewN _ _ _)
            go_wp2_with fail
            refine (answersC _).mono ?_; rintro e w3 ⟨rfl, hb3⟩
            have hb23 := hb2.trans (hb3.mono hb2.size)
            go_wp2
            go_ret
            exact ⟨rfl, hb23⟩
          · have fb' : fitB b = false := by simpa using fb
            have HO := Lib.hid no
            clear fb no
            go_enter Try.func3, Try.ntmps3
            go_wp2_with fail
            refine (smallC a _ _ ha).mono ?_; rintro e w' ⟨rfl, rfl⟩
            go_wp2_with fail
            refine (smallC b _ _ hb).mono ?_; rintro e w' ⟨rfl, rfl⟩
            go_wp2_with fail
            refine (timesNo a b _ _ _ ha hb HO.out).mono ?_; rintro e w1 ⟨rfl, hb1⟩
            go_wp2_with fail
            refine (fitC a _ _ (ha.below hb1)).mono ?_; rintro e w' ⟨rfl, n1, rfl⟩
            go_wp2_with fail
            refine (fitC b _ _ ((hb.below hb1).drewN _)).mono ?_; rintro e w' ⟨rfl, n2, rfl⟩
            have hb2 : Below w.heap.size w (w1.drewN (n1 + n2)) := hb1.trans (below_drewN _ _ _)
            go_wp2_with fail
            refine (answersC _).mono ?_; rintro e w3 ⟨rfl, hb3⟩
            have hb23 := hb2.trans (hb3.mono hb2.size)
            go_wp2
            go_ret
            exact ⟨rfl, hb23⟩
        · have fa' : fitB a = false := by simpa using fa
          have HO := Lib.hid no
          clear fa no
          go_enter Try.func3, Try.ntmps3
          go_wp2_with fail
          refine (smallC a _ _ ha).mono ?_; rintro e w' ⟨rfl, rfl⟩
          go_wp2_with fail
          refine (smallC b _ _ hb).mono ?_; rintro e w' ⟨rfl, rfl⟩
          go_wp2_with fail
          refine (timesNo a b _ _ _ ha hb HO.out).mono ?_; rintro e w1 ⟨rfl, hb1⟩
          go_wp2_with fail
          refine (fitC a _ _ (ha.below hb1)).mono ?_; rintro e w' ⟨rfl, n1, rfl⟩
          have hb2 : Below w.heap.size w (w1.drewN n1) := hb1.trans (below_drewN _ _ _)
          go_wp2_with fail
          refine (answersC _).mono ?_; rintro e w3 ⟨rfl, hb3⟩
          have hb23 := hb2.trans (hb3.mono hb2.size)
          go_wp2
          go_ret
          exact ⟨rfl, hb23⟩
    · have sb' : smallB b = false := by simpa using sb
      clear sb
      go_enter Try.func3, Try.ntmps3
      go_wp2_with fail
      refine (smallC a _ _ ha).mono ?_; rintro e w' ⟨rfl, rfl⟩
      go_wp2_with fail
      refine (smallC b _ _ hb).mono ?_; rintro e w' ⟨rfl, rfl⟩
      go_wp2_with fail
      refine (answersC _).mono ?_; rintro e w3 ⟨rfl, hb3⟩
      go_wp2
      go_ret
      exact ⟨rfl, hb3⟩
  · have sa' : smallB a = false := by simpa using sa
    clear sa
    go_enter Try.func3, Try.ntmps3
    go_wp2_with fail
    refine (smallC a _ _ ha).mono ?_; rintro e w' ⟨rfl, rfl⟩
    go_wp2_with fail
    refine (answersC _).mono ?_; rintro e w3 ⟨rfl, hb3⟩
    go_wp2
    go_ret
    exact ⟨rfl, hb3⟩
set_option maxHeartbeats 2000000 in
theorem MatCodeC (k m : Int) (lk : -9223372036854775808 ≤ k) (uk : k ≤ 9223372036854775807) (lm : -9223372036854775808 ≤ m) (um : m ≤ 9223372036854775807) (w : World) :
    Calls Try.prog 5 #[.int .i64 k, .int .i64 m] w fun e w' => e = .returned (.bool true) ∧ Below w.heap.size w w' := by
  by_cases h : NoCode k m
  · have HN := Lib.hid h
    clear h
    have hsame : rowsB [] [] = true := rfl
    go_enter Try.func5, Try.ntmps5
    go_wp2_with fail
    refine (answersC _).mono ?_; rintro e w1 ⟨rfl, hb1⟩
    go_wp2_with fail
    refine (codeNo k m _ HN.out).mono ?_; rintro e w' ⟨rfl, rfl⟩
    go_wp2_with fail
    refine (refCodeNo k m _ HN.out).mono ?_; rintro e w' ⟨rfl, rfl⟩
    go_wp2_with fail
    refine (rowsC [] [] _ _ _ (Built.start (R := Bytes) w1 0 0).slice (Built.start (R := Bytes) w1 0 0).slice).mono ?_; rintro e w' ⟨rfl, n3, rfl⟩
    have hb2 : Below w.heap.size w (w1.drewN n3) := hb1.trans (below_drewN _ _ _)
    go_wp2
    go_ret
    exact ⟨rfl, hb2⟩
  · have h' : 1 ≤ k ∧ k ≤ 4 ∧ 0 ≤ m ∧ m ≤ 3 := by unfold NoCode at h; omega
    obtain ⟨k1, k2, m1, m2⟩ := h'
    obtain ⟨K, rfl⟩ := Int.eq_ofNat_of_zero_le (show 0 ≤ k by omega)
    obtain ⟨M, rfl⟩ := Int.eq_ofNat_of_zero_le (show 0 ≤ m by omega)
    clear h
    have hsame : rowsB (codeT K M) (codeT K M) = true := decide_eq_true rfl
    go_enter Try.func5, Try.ntmps5
    go_wp2_with fail
    refine (answersC _).mono ?_; rintro e w1 ⟨rfl, hb1⟩
    go_wp2_with fail
    refine (codeC K M _ (by omega) (by omega) (by omega)).mono ?_; rintro e w2 ⟨v2, rfl, ht2, hb2⟩
    have hb12 := hb1.trans (hb2.mono hb1.size)
    go_wp2_with fail
    refine (refCode K M _ (by omega) (by omega) (by omega)).mono ?_; rintro e w3 ⟨v3, rfl, ht3, hb3⟩
    have hb13 := hb12.trans (hb3.mono hb12.size)
    go_wp2_with fail
    refine (rowsC (codeT K M) (codeT K M) _ _ _ (ht2.below hb3) ht3).mono ?_; rintro e w' ⟨rfl, n3, rfl⟩
    have hb4 : Below w.heap.size w (w3.drewN n3) := hb13.trans (below_drewN _ _ _)
    go_wp2
    go_ret
    exact ⟨rfl, hb4⟩
end Go.Proofs.Ytnognnbelaflgaa.Mat
