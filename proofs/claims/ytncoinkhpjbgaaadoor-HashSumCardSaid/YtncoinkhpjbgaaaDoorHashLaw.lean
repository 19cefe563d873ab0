/- The laws of layer 5 as walks. -/
import Derived.Test.YtncoinkhpjbgaaaDoorHashWei
import Derived.Test.YtncoinkhpjbgaaaDoorSame
namespace Go.Proofs.YtncoinkhpjbgaaaDoor.Hash
open Go.ChangeShapes Go.WideShapes Go.ChangeAt Go.RowKit
open Go.Mem Sha Same
theorem no_bytes (w : World) : Bytes w (.slice none 0 0) [] := ⟨none, 0, 0, rfl, rfl, Nat.le_refl _, Nat.zero_le _, fun _ => rfl, fun i hi => absurd hi (by simp)⟩
theorem sha_nil_at {i : Nat} (hi : i < 4) (h : i < (sha []).length) : (sha [])[i] = ([227, 176, 196, 66] : List Nat).getD i 0 := by
  have h1 : ((sha []).take 4)[i]? = ([227, 176, 196, 66] : List Nat)[i]? := by rw [sha_nil]
  rw [List.getElem?_take, if_pos hi, List.getElem?_eq_getElem h] at h1
  rw [List.getD_eq_getElem?_getD, ← h1]; rfl
set_option maxHeartbeats 1000000 in
theorem answersC (w : World) (ht : Tabs w) :
    Calls Tryd.prog 6 #[] w fun e w' => e = .returned (.bool true) ∧ Below w.heap.size w w' := by
  have hn := no_bytes w
  have HN := Lib.hid hn
  clear hn
  go_enter Tryd.func6, Tryd.ntmps6
  go_wp2_with fail
  refine (sumC [] _ w ht HN.out (by simp)).mono ?_
  rintro _ w1 ⟨u1, rfl, hu1, hb1⟩
  have hlen := sha_len []
  obtain ⟨b, o, hA, hc0, _⟩ : ∃ b o, (∃ C, u1 = .slice (some ⟨b, o, none⟩) 32 C) ∧ w1.cell? ⟨b, o + 0, none⟩ = some (.int .u8 227) ∧ w1.cell? ⟨b, o + 1, none⟩ = some (.int .u8 176) ∧ w1.cell? ⟨b, o + 2, none⟩ = some (.int .u8 196) ∧ w1.cell? ⟨b, o + 3, none⟩ = some (.int .u8 66) := by
    obtain ⟨A, C, rfl, _, _, _⟩ := hu1.shape
    obtain ⟨b, o, rfl, h0, _⟩ := hu1.at (i := 0) (by rw [hlen]; omega)
    have h1 := (hu1.here (i := 1) (by rw [hlen]; omega)).1
    have h2 := (hu1.here (i := 2) (by rw [hlen]; omega)).1
    have h3 := (hu1.here (i := 3) (by rw [hlen]; omega)).1
    rw [sha_nil_at (by omega)] at h0 h1 h2 h3
    exact ⟨b, o, ⟨C, by rw [hlen]⟩, h0, h1, h2, h3⟩
  rename_i hcs
  obtain ⟨hc1, hc2, hc3⟩ := hcs
  obtain ⟨C, rfl⟩ := hA
  rw [Nat.add_zero] at hc0
  have HB := Lib.hid hb1
  clear hu1 hb1 hlen
  go_wp2_with fail
  go_ret
  exact ⟨rfl, HB.out⟩
theorem same_self (l : List Nat) : sameB l l = true := decide_eq_true rfl
set_option maxHeartbeats 1000000 in
theorem hashSum_no (l : List Nat) (v : Value) (w : World) (ht : Tabs w) (hl : Bytes w v l) (h : 2000 < l.length) :
    Calls Tryd.prog 3 #[v] w fun e w' => e = .returned (.bool true) ∧ Below w.heap.size w w' := by
  obtain ⟨A, C, rfl, h1, h2, _⟩ := hl.shape
  obtain ⟨L, hL⟩ : ∃ L, l.length = L := ⟨_, rfl⟩
  rw [hL] at h h1 ⊢
  clear hL
  have e0 : (2000 : Int) < (L : Int) := by omega
  go_enter Tryd.func3, Tryd.ntmps3
  go_wp2_with fail
  refine (answersC _ ht).mono ?_
  rintro _ w1 ⟨rfl, hB1⟩
  go_wp2_with fail
  go_ret
  exact ⟨rfl, hB1⟩
set_option maxHeartbeats 1000000 in
theorem hashSum_yes (l : List Nat) (v : Value) (w : World) (ht : Tabs w) (hl : Bytes w v l) (h : ¬ 2000 < l.length) :
    Calls Tryd.prog 3 #[v] w fun e w' => e = .returned (.bool true) ∧ Below w.heap.size w w' := by
  obtain ⟨A, C, rfl, h1, h2, _⟩ := hl.shape
  have hn : l.length ≤ 100000 := by omega
  have HN := Lib.hid hn
  obtain ⟨L, hL⟩ : ∃ L, l.length = L := ⟨_, rfl⟩
  rw [hL] at h h1 hl ⊢
  clear hL hn
  have e0 : ¬ (2000 : Int) < (L : Int) := by omega
  go_enter Tryd.func3, Tryd.ntmps3
  go_wp2_with fail
  refine (answersC _ ht).mono ?_
  rintro _ w1 ⟨rfl, hB1⟩
  have ht1 := ht.below hB1
  have hl1 := hl.below hB1
  go_wp2_with fail
  refine (sumC l _ w1 ht1 hl1 HN.out).mono ?_
  rintro _ w2 ⟨u2, rfl, hu2, hB2⟩
  have hl2 := hl1.below hB2
  have HU2 := Lib.hid hu2
  obtain ⟨A2, C2, rfl, _, _, _⟩ := hu2.shape
  rw [sha_len] at HU2 ⊢
  clear hu2
  go_wp2_with fail
  refine (shaC l _ w2 hl2 HN.out).mono ?_
  rintro _ w3 ⟨u3, rfl, hu3, hB3⟩
  have HU3 := Lib.hid hu3
  obtain ⟨A3, C3, rfl, _, _, _⟩ := hu3.shape
  rw [sha_len] at HU3 ⊢
  clear hu3
  have HB := Lib.hid ((hB1.trans (hB2.mono hB1.size)).trans (hB3.mono (Nat.le_trans hB1.size hB2.size)))
  have HU2' := Lib.hid (HU2.out.below hB3)
  clear hB1 hB2 hB3 hl1 hl2
  go_wp2_with fail
  refine (sameC _ _ _ _ w3 HU2'.out HU3.out).mono ?_
  rintro _ w4 ⟨rfl, n4, rfl⟩
  rw [same_self]
  go_wp2_with fail
  go_ret
  exact ⟨rfl, HB.out.trans (below_drewN _ _ _)⟩
theorem HashSumC (l : List Nat) (v : Value) (w : World) (ht : Tabs w) (hl : Bytes w v l) :
    Calls Tryd.prog 3 #[v] w fun e w' => e = .returned (.bool true) ∧ Below w.heap.size w w' := by
  by_cases h : 2000 < l.length
  · exact hashSum_no l v w ht hl h
  · exact hashSum_yes l v w ht hl h
set_option maxHeartbeats 1000000 in
theorem HashWeightC (a b : Int) (w : World) (ht : Tabs w) :
    Calls Tryd.prog 4 #[.int .i64 a, .int .i64 b] w fun e w' => e = .returned (.bool true) ∧ Below w.heap.size w w' := by
  go_enter Tryd.func4, Tryd.ntmps4
  go_wp2_with fail
  refine (answersC _ ht).mono ?_
  rintro _ w1 ⟨rfl, hB1⟩
  have ht1 := ht.below hB1
  go_wp2_with fail
  refine (weightC a b w1 ht1).mono ?_
  rintro _ w2 ⟨rfl, hB2⟩
  go_wp2_with fail
  refine (refWeightC a b w2).mono ?_
  rintro _ w3 ⟨rfl, hB3⟩
  have HB := Lib.hid ((hB1.trans (hB2.mono hB1.size)).trans (hB3.mono (Nat.le_trans hB1.size hB2.size)))
  clear hB1 hB2 hB3
  go_wp2_with fail
  go_ret
  exact ⟨rfl, HB.out⟩
set_option maxHeartbeats 1000000 in
theorem HashPadsC (n c : Int) (ln : 0 ≤ n) (un : n ≤ 255) (lc : 0 ≤ c) (uc : c ≤ 255) (w : World) (ht : Tabs w) :
    Calls Tryd.prog 5 #[.int .u8 n, .int .u8 c] w fun e w' => e = .returned (.bool true) ∧ Below w.heap.size w w' := by
  obtain ⟨N, rfl⟩ := Int.eq_ofNat_of_zero_le ln
  obtain ⟨K, rfl⟩ := Int.eq_ofNat_of_zero_le lc
  have hmk := run_make_row' (P := Tryd.prog) 22 5 (.int .u8 0) 1 Tryd.underlying22 infoByte rfl .i64 .i64 N (by omega) (by omega)
  go_enter Tryd.func5, Tryd.ntmps5
  go_wp2
  go_loopw [6] (fun x wr => ∃ k : Nat, k ≤ N ∧ x = .int .i64 k ∧ wr.rowIs w.heap.size 5 N (fun i => .int .u8 ((if i < k then K else 0 : Nat) : Int)) ∧ Below w.heap.size w wr) (fun x _ => N - (intOf x).toNat)
  case atStart =>
    exact ⟨0, Nat.zero_le _, rfl, (World.rowIs_made _ _ _ _).congr fun i hi => by rw [if_neg (by omega)]; rfl, (Below.refl _ _).alloc (Nat.le_refl _) _⟩
  case round =>
    obtain ⟨k, hk, rfl, hrow, hb⟩ := hrel
    by_cases hlt : k < N
    · have hc := hrow.cell (i := k) hlt
      have hf := hrow.frozen k
      have HS := Lib.hid (hrow.set k (.int .u8 (K : Nat)))
      have HB := Lib.hid (hb.setCell (p := ⟨w.heap.size, k, none⟩) (Nat.le_refl _) (.int .u8 (K : Nat)))
      clear hrow hb
      go_wp2
      go_roundw
      case rel =>
        refine ⟨k + 1, by omega, by go_num, HS.out.congr fun i hi => ?_, HB.out⟩
        by_cases e : i = k
        · subst e; rw [if_pos rfl, if_pos (by omega)]
        · rw [if_neg e]
          by_cases h : i < k
          · rw [if_pos h, if_pos (by omega)]
          · rw [if_neg h, if_neg (by omega)]
      case measure => simp [intOf]; omega
    · obtain rfl : k = N := by omega
      have hbu := rowIs_built (base := w.heap.size) (F := fun _ => K) (hrow.congr fun i hi => by rw [if_pos hi]) (fun _ _ => by omega) (Nat.le_refl _) (by omega)
      obtain ⟨l, hle⟩ : ∃ l, (List.range k).map (fun _ => K) = l := ⟨_, rfl⟩
      have hn : l.length ≤ 100000 := by rw [← hle]; simp; omega
      have HN := Lib.hid hn
      rw [hle] at hbu
      have hl := Lib.hid (show Bytes wr (.slice (some ⟨w.heap.size, 0, none⟩) k k) l from hbu.slice)
      have HB := Lib.hid hb
      have HT := Lib.hid (ht.below hb)
      clear hrow hbu hle hn hb
      go_wp2_with fail
      refine (answersC _ HT.out).mono ?_
      rintro _ w1 ⟨rfl, hB1⟩
      have ht1 := HT.out.below hB1
      have hl1 := hl.out.below hB1
      go_wp2_with fail
      refine (sumC l _ w1 ht1 hl1 HN.out).mono ?_
      rintro _ w2 ⟨u2, rfl, hu2, hB2⟩
      have ht2 := ht1.below hB2
      have hl2 := hl1.below hB2
      have HU2 := Lib.hid hu2
      obtain ⟨A2, C2, rfl, _, _, _⟩ := hu2.shape
      rw [sha_len] at HU2 ⊢
      clear hu2
      go_wp2_with fail
      refine (shaC l _ w2 hl2 HN.out).mono ?_
      rintro _ w3 ⟨u3, rfl, hu3, hB3⟩
      have ht3 := ht2.below hB3
      have hl3 := hl2.below hB3
      have HU3 := Lib.hid hu3
      obtain ⟨A3, C3, rfl, _, _, _⟩ := hu3.shape
      rw [sha_len] at HU3 ⊢
      clear hu3
      have HB3 := Lib.hid (((HB.out.trans (hB1.mono HB.out.size)).trans (hB2.mono (Nat.le_trans HB.out.size hB1.size))).trans (hB3.mono (Nat.le_trans (Nat.le_trans HB.out.size hB1.size) hB2.size)))
      have HU2' := Lib.hid (HU2.out.below hB3)
      clear hB1 hB2 hB3
      go_wp2_with fail
      refine (sameC _ _ _ _ w3 HU2'.out HU3.out).mono ?_
      rintro _ w4 ⟨rfl, n4, rfl⟩
      rw [same_self]
      go_wp2_with fail
      refine (sumC l _ _ (ht3.below (below_drewN _ _ n4)) (hl3.drewN n4) HN.out).mono ?_
      rintro _ w5 ⟨u5, rfl, hu5, hB5⟩
      obtain ⟨A5, C5, rfl, _, _, _⟩ := hu5.shape
      rw [sha_len]
      clear hu5
      have HB5 := Lib.hid (HB3.out.trans ((below_drewN _ w3 n4).trans (hB5.mono HB3.out.size)))
      clear hB5
      go_wp2_with fail
      go_ret
      exact ⟨rfl, HB5.out⟩
end Go.Proofs.YtncoinkhpjbgaaaDoor.Hash
