/- Law RsRebuild as a walk. -/
import Derived.Test.YtmcodfjaeaociaaRsAns
namespace Go.Proofs.Ytmcodfjaeaociaa.Rs
open Go.RowKit Go.Shelf
open Go.Mem Mat
theorem undoes_first {K M : Nat} {S B B' : List (List Nat)} (hK0 : 1 ≤ K) (hlen : S.length = K + M) (hle : K ≤ (idx S S.length).length) (h : Undoes (rowsAt (codeT K M) (firstK S K)) B K) (h' : Undoes (rowsAt (codeT K M) (firstK S K)) B' K) : B = B' := by
  have hm := first_subs (T := codeT K M) (S := S) (K := K) (by rw [codeT_len]; omega) hle
  exact undoes_one hK0 (by rw [rowsAt_len, first_len hle]) (fun r hr => codeT_rows r (subs_mem hm r hr)) (byt_rowsAt (byt_codeT K M) _) h h'
set_option maxHeartbeats 1000000 in
theorem rebuild_far (k m : Int) (S : List (List Nat)) (v : Value) (p : Int) (w : World) (hS : Tab w v S) (h : 20 < S.length) :
    Calls Try.prog 6 #[.int .i64 k, .int .i64 m, v, .int .i64 p] w fun e w' => e = .returned (.bool true) ∧ Below w.heap.size w w' := by
  obtain ⟨A, C, rfl, h1, h2, _⟩ := hS.shape
  have HS := Lib.hid hS
  clear hS
  obtain ⟨L, hL⟩ : ∃ L, S.length = L := ⟨_, rfl⟩
  have HL := Lib.hid hL
  rw [hL] at h h1 ⊢
  clear hL
  have e0 : (20 : Int) < (L : Int) := by omega
  go_enter Try.func6, Try.ntmps6
  go_wp2_with fail
  refine (answersC _).mono ?_
  rintro _ w1 ⟨rfl, hB1⟩
  go_wp2_with fail
  go_ret
  exact ⟨rfl, hB1⟩
set_option maxHeartbeats 1000000 in
theorem rebuild_no (k m : Int) (S : List (List Nat)) (v : Value) (p : Int) (w : World) (hS : Tab w v S) (h : ¬ 20 < S.length) (hno : NoDec k m S) :
    Calls Try.prog 6 #[.int .i64 k, .int .i64 m, v, .int .i64 p] w fun e w' => e = .returned (.bool true) ∧ Below w.heap.size w w' := by
  obtain ⟨A, C, rfl, h1, h2, _⟩ := hS.shape
  have HS := Lib.hid hS
  clear hS
  obtain ⟨L, hL⟩ : ∃ L, S.length = L := ⟨_, rfl⟩
  have HL := Lib.hid hL
  rw [hL] at h h1 ⊢
  clear hL
  have HN := Lib.hid hno
  clear hno
  have e0 : ¬ (20 : Int) < (L : Int) := by omega
  go_enter Try.func6, Try.ntmps6
  go_wp2_with fail
  refine (decodeNo k m S _ w (HL.out ▸ HS.out) HN.out).mono ?_
  rintro _ w1 ⟨rfl, hB1⟩
  have HT := Lib.hid (HS.out.below hB1)
  rw [HL.out] at HT
  go_wp2_with fail
  refine (rebuildNo k m S _ p w1 HT.out HN.out).mono ?_
  rintro _ w2 ⟨rfl, hB2⟩
  have hb2 := hB1.trans (hB2.mono hB1.size)
  go_wp2_with fail
  refine (answersC _).mono ?_
  rintro _ w3 ⟨rfl, hB3⟩
  go_wp2_with fail
  go_ret
  exact ⟨rfl, hb2.trans (hB3.mono hb2.size)⟩
set_option maxHeartbeats 1000000 in
theorem rebuild_yes (K M : Nat) (S : List (List Nat)) (v : Value) (p : Int) (w : World) (hS : Tab w v S) (hK0 : 1 ≤ K) (hK : K ≤ 4) (hM : M ≤ 3) (hlen : S.length = K + M) (hra : rightAll S = true) :
    Calls Try.prog 6 #[.int .i64 K, .int .i64 M, v, .int .i64 p] w fun e w' => e = .returned (.bool true) ∧ Below w.heap.size w w' := by
  obtain ⟨A, C, rfl, h1, h2, _⟩ := hS.shape
  have HLEN := Lib.hid hlen
  have HRA := Lib.hid hra
  have HBY := Lib.hid (Tab_bd hS)
  rw [hlen] at hS h1 ⊢
  have HS := Lib.hid hS
  clear hS hlen hra
  have e0 : ¬ (20 : Int) < (K : Int) + (M : Int) := by omega
  go_enter Try.func6, Try.ntmps6
  go_wp2_with fail
  refine (decodeYes K M S _ w HS.out hK0 hK hM HLEN.out HRA.out).mono ?_
  rintro e w1 ⟨hB1, hp⟩
  have HT := Lib.hid (HS.out.below hB1)
  rcases hp with ⟨hfew, rfl⟩ | ⟨hle, u, B, rfl, hu, hbu⟩
  · have HF := Lib.hid hfew
    clear hfew
    go_wp2_with fail
    refine (rebuildYes K M S _ p w1 HT.out hK0 hK hM HLEN.out HRA.out).mono ?_
    rintro e w2 ⟨hB2, hq⟩
    have hb2 := hB1.trans (hB2.mono hB1.size)
    rcases hq with ⟨_, rfl⟩ | ⟨hx, _⟩ | ⟨hx, _⟩
    · clear HF
      go_wp2_with fail
      refine (answersC _).mono ?_
      rintro _ w3 ⟨rfl, hB3⟩
      go_wp2_with fail
      go_ret
      exact ⟨rfl, hb2.trans (hB3.mono hb2.size)⟩
    · exact absurd HF.out (by omega)
    · exact absurd HF.out (by omega)
  · obtain ⟨d, hd⟩ : ∃ d, catTo (times B (rowsAt S (firstK S K))) K = d := ⟨_, rfl⟩
    have HDL := Lib.hid (show d.length = 8 * K from hd ▸ (dec_enc hK0 HBY.out HLEN.out (right_first HRA.out) hle hu).1)
    rw [hd] at hbu
    have HD := Lib.hid hd
    have HLE := Lib.hid hle
    have HU := Lib.hid hu
    obtain ⟨A2, L2, C2, rfl⟩ : ∃ A2 L2 C2, u = .slice A2 L2 C2 := by
      obtain ⟨A2, C2, rfl, _⟩ := hbu.shape
      exact ⟨_, _, _, rfl⟩
    have HBU := Lib.hid hbu
    clear hle hu hbu hd
    go_wp2_with fail
    refine (rebuildYes K M S _ p w1 HT.out hK0 hK hM HLEN.out HRA.out).mono ?_
    rintro e w2 ⟨hB2, hq⟩
    have hb2 := hB1.trans (hB2.mono hB1.size)
    rcases hq with ⟨hx, _⟩ | ⟨_, hout, rfl⟩ | ⟨_, i, rfl, hi, u2, B2, rfl, hu2, hbu2⟩
    · exact absurd hx (by have := HLE.out; omega)
    · rcases hout with ho | ho
      · skip
        go_wp2_with fail
        refine (answersC _).mono ?_
        rintro _ w3 ⟨rfl, hB3⟩
        go_wp2_with fail
        go_ret
        exact ⟨rfl, hb2.trans (hB3.mono hb2.size)⟩
      · have ho' : ¬ p < 0 := by omega
        go_wp2_with fail
        refine (answersC _).mono ?_
        rintro _ w3 ⟨rfl, hB3⟩
        go_wp2_with fail
        go_ret
        exact ⟨rfl, hb2.trans (hB3.mono hb2.size)⟩
    · have hBB := undoes_first hK0 HLEN.out HLE.out HU.out hu2
      subst hBB
      rw [HD.out] at hbu2
      have HB2 := Lib.hid hbu2
      clear hbu2 hu2
      have q1 : ¬ ((i : Int) < 0) := by omega
      have q2 : (i : Int) < (K : Int) + (M : Int) := by omega
      go_wp2_with fail
      refine (answersC _).mono ?_
      rintro _ w3 ⟨rfl, hB3⟩
      have hb3 := hb2.trans (hB3.mono hb2.size)
      have HBU3 := Lib.hid ((HBU.out.below hB2).below hB3)
      go_wp2_with fail
      refine (refEncode K M d _ w3 HBU3.out hK0 hK hM HDL.out).mono ?_
      rintro _ w4 ⟨v4, rfl, hT4, hB4⟩
      have hb4 := hb3.trans (hB4.mono hb3.size)
      have HT4 := Lib.hid hT4
      obtain ⟨A4, C4, rfl, _, _, _⟩ := hT4.shape
      clear hT4
      rw [encT_len] at HT4
      cases A4 with
      | none =>
        obtain ⟨_, _, _, _, e, -⟩ := HT4.out.at (i := i) (by rw [encT_len]; exact hi)
        cases e
      | some ad =>
        obtain ⟨b3, o3, _, _, e, -⟩ := HT4.out.at (i := i) (by rw [encT_len]; exact hi)
        cases e
        obtain ⟨A5, L5, C5, hc5, hb5⟩ := Tab.get HT4.out (i := i) (by rw [encT_len]; exact hi)
        have hs : sameB ((encT K M d).getD i []) ((encT K M d).getD i []) = true := decide_eq_true rfl
        rw [encT_len]
        have HB5 := Lib.hid hb5
        clear hb5
        go_wp2_with fail
        refine (sameC _ _ _ _ w4 ((HB2.out.below hB3).below hB4) HB5.out).mono ?_
        rw [hs]
        rintro _ w6 ⟨rfl, n, rfl⟩
        go_wp2_with fail
        go_ret
        exact ⟨rfl, hb4.trans (below_drewN _ _ _)⟩
theorem RsRebuildC (k m : Int) (S : List (List Nat)) (v : Value) (p : Int) (w : World) (hS : Tab w v S) :
    Calls Try.prog 6 #[.int .i64 k, .int .i64 m, v, .int .i64 p] w fun e w' => e = .returned (.bool true) ∧ Below w.heap.size w w' := by
  by_cases h : 20 < S.length
  · exact rebuild_far k m S v p w hS h
  by_cases hno : NoCode k m
  · exact rebuild_no k m S v p w hS h (.inl hno)
  by_cases hl : (S.length : Int) = k + m
  · cases hra : rightAll S with
    | true =>
      unfold NoCode at hno
      obtain ⟨K, rfl⟩ := Int.eq_ofNat_of_zero_le (show 0 ≤ k by omega)
      obtain ⟨M, rfl⟩ := Int.eq_ofNat_of_zero_le (show 0 ≤ m by omega)
      exact rebuild_yes K M S v p w hS (by omega) (by omega) (by omega) (by omega) hra
    | false => exact rebuild_no k m S v p w hS h (.inr (.inr hra))
  · exact rebuild_no k m S v p w hS h (.inr (.inl hl))
end Go.Proofs.Ytmcodfjaeaociaa.Rs
