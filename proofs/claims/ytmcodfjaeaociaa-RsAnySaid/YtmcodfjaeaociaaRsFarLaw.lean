/- Law RsFar as a walk. -/
import Derived.Test.YtmcodfjaeaociaaRsFull
namespace Go.Proofs.Ytmcodfjaeaociaa.Rs
open Go.RowKit Go.Shelf
open Go.Mem Mat
/-- the first len bytes of a built slice -/
theorem full_bytes {w : World} {base t g n C K : Nat} {a : List Nat} (h : Built ByteR w base t (.slice (some ⟨g, 0, none⟩) n C) (a ++ List.replicate 32 0)) (hK : K ≤ 4) : Bytes w (.slice (some ⟨g, 0, none⟩) (8 * K) C) (fullL K a) :=
  Bytes.take (show Bytes w (.slice (some ⟨g, 0, none⟩) n C) _ from h.slice) (by simp; omega)
set_option maxHeartbeats 1000000 in
theorem far_no (k m : Int) (a : List Nat) (v : Value) (p t : Int) (lk : 0 ≤ k) (uk : k ≤ 255) (lm : 0 ≤ m) (um : m ≤ 255) (w : World) (ha : Bytes w v a) (h : 100 < a.length ∨ t = 0) :
    Calls Try.prog 8 #[.int .u8 k, .int .u8 m, v, .int .u8 p, .int .u8 t] w fun e w' => e = .returned (.bool true) ∧ Below w.heap.size w w' := by
  obtain ⟨A, C, rfl, h1, h2, _⟩ := ha.shape
  obtain ⟨L, hL⟩ : ∃ L, a.length = L := ⟨_, rfl⟩
  rw [hL] at h h1 ⊢
  by_cases h100 : 100 < L
  · have e0 : (100 : Int) < (L : Int) := by omega
    clear h
    go_enter Try.func8, Try.ntmps8
    go_wp2_with fail
    refine (answersC _).mono ?_
    rintro _ w1 ⟨rfl, hB1⟩
    go_wp2_with fail
    go_ret
    exact ⟨rfl, hB1⟩
  · obtain rfl : t = 0 := by rcases h with h | h; exact absurd h h100; exact h
    have e0 : ¬ (100 : Int) < (L : Int) := by omega
    go_enter Try.func8, Try.ntmps8
    go_wp2_with fail
    refine (answersC _).mono ?_
    rintro _ w1 ⟨rfl, hB1⟩
    go_wp2_with fail
    go_ret
    exact ⟨rfl, hB1⟩
set_option maxHeartbeats 2000000 in
theorem far_yes (k m : Int) (a : List Nat) (v : Value) (p t : Int) (lk : 0 ≤ k) (uk : k ≤ 255) (lm : 0 ≤ m) (um : m ≤ 255) (lp : 0 ≤ p) (up : p ≤ 255) (lt : 0 ≤ t) (ut : t ≤ 255) (w : World) (ha : Bytes w v a) (h100 : ¬ 100 < a.length) (ht0 : ¬ t = 0) :
    Calls Try.prog 8 #[.int .u8 k, .int .u8 m, v, .int .u8 p, .int .u8 t] w fun e w' => e = .returned (.bool true) ∧ Below w.heap.size w w' := by
  obtain ⟨K, hKi⟩ : ∃ K : Nat, k % 4 + 1 = (K : Int) := ⟨(k % 4 + 1).toNat, by omega⟩
  obtain ⟨M, hMi⟩ : ∃ M : Nat, m % 4 = (M : Int) := ⟨(m % 4).toNat, by omega⟩
  have hK0 : 1 ≤ K := by omega
  have hK : K ≤ 4 := by omega
  have hM : M ≤ 3 := by omega
  obtain ⟨T, rfl⟩ := Int.eq_ofNat_of_zero_le lt
  obtain ⟨P, hP⟩ : ∃ P : Nat, p % (8 * (K : Int)) = (P : Int) := ⟨(p % (8 * (K : Int))).toNat, by
    have := Int.emod_nonneg p (show (8 * (K : Int)) ≠ 0 by omega); omega⟩
  have hP8 : P < 8 * K := by have := Int.emod_lt_of_pos p (show (0 : Int) < 8 * (K : Int) by omega); omega
  obtain ⟨A, C, rfl, h1, h2, _⟩ := ha.shape
  have hbd := Bytes_bd ha
  obtain ⟨L, hL⟩ : ∃ L, a.length = L := ⟨_, rfl⟩
  rw [hL] at h100 h1 ha ⊢
  obtain ⟨v1, w1, g2, C2, w2, hr1, hr2, hbu2, hc2, hd2, hb2⟩ := full_runs w a A L C ha hL h100
  have HR1 := Lib.hid hr1
  have HR2 := Lib.hid hr2
  have HX := Lib.hid (full_bytes hbu2 hK)
  have HBD := Lib.hid (fullL_bd (K := K) hbd)
  have hfl := fullL_len a hK
  have hx2 := full_bytes hbu2 hK
  clear hr1 hr2 hbu2 hL ha hbd
  obtain ⟨X, hX⟩ : ∃ X, fullL K a = X := ⟨_, rfl⟩
  rw [hX] at HX HBD hfl hx2
  clear hX
  have hal3 : Below w2.heap.size w2 (w2.alloc (.cells #[] 5)) := (Below.refl _ _).alloc (Nat.le_refl _) _
  obtain ⟨v3, w3, hr3, hbu3, _, hb3⟩ := run_append_list (P := Try.prog) byteR_world byteR_one (w2.alloc (.cells #[] 5)) w2.heap.size 22 22 5 (.int .u8 0) 1 Try.underlying22 infoByte rfl _ [] (built_none w2 (Nat.le_refl _)) _ _ _ X (hx2.below hal3) (by simp; omega) (by simp)
  rw [List.nil_append] at hbu3
  obtain ⟨g3, C3, rfl, hc3, hd3, he3⟩ := hbu3.some (n := 8 * K) hfl (by omega)
  have HR3 := Lib.hid hr3
  have hrow := hbu3.writes
  rw [hfl] at hrow
  have hcell := hrow.cell P hP8
  have hfree := hrow.free P hP8
  have hxb := hrow.bd P hP8
  rw [Nat.zero_add] at hcell hfree
  obtain ⟨xp, hxp⟩ : ∃ xp, X.getD P 0 = xp := ⟨_, rfl⟩
  rw [hxp] at hcell hxb
  have hxor := u8_xor_nat xp T hxb (by omega)
  have hb23 := hal3.trans hb3
  have HY := Lib.hid ((hrow.set hP8 (show xp ^^^ T < 256 from xor_lt hxb (by omega))).bytes hc3 hd3)
  have HB4 := Lib.hid (hb23.setCell (p := ⟨g3, P, none⟩) he3 (.int .u8 ((xp ^^^ T : Nat) : Int)))
  have HXP := Lib.hid hxp
  have HFL := Lib.hid hfl
  rw [Nat.zero_add] at HY
  clear hr3 hbu3 hrow hxb hb23 hal3 hb3 hx2 hxp hfl
  have e0 : ¬ (100 : Int) < (L : Int) := by omega
  have e1 : ((T : Int) == 0) = false := by rw [beq_eq_false_iff_ne]; exact ht0
  have q1 : 8 * K ≤ C2 := by omega
  have q2 : (P : Int) < 8 * (K : Int) := by omega
  go_enter Try.func8, Try.ntmps8
  go_wp2_with (at_builtin; first
    | (refine Lib.wpList_append_run _ rfl (.tmp 36) (.tmp 37) _ _ rfl _ _ rfl rfl _ _ HR1.out ?_)
    | (refine Lib.wpList_append_run _ rfl (.tmp 38) (.const (.int .i64 32)) _ _ rfl _ _ rfl rfl _ _ HR2.out ?_)
    | (refine Lib.wpList_append_run _ rfl (.tmp 43) (.tmp 44) _ _ rfl _ _ rfl rfl _ _ HR3.out ?_))
  refine (encodeYes K M X _ _ (HX.out.below HB4.out) hK0 hK hM HFL.out).mono ?_
  rintro _ w5 ⟨v5, rfl, hT5, hB5⟩
  have HT5 := Lib.hid hT5
  obtain ⟨A5, C5, rfl, _, _, _⟩ := hT5.shape
  rw [encT_len] at HT5 ⊢
  clear hT5
  have HYL := Lib.hid (show ((List.range (8 * K)).map fun i => if i = P then xp ^^^ T else X.getD i 0).length = 8 * K by simp)
  go_wp2_with fail
  refine (encodeYes K M _ _ w5 (HY.out.below hB5) hK0 hK hM HYL.out).mono ?_
  rintro _ w6 ⟨v6, rfl, hT6, hB6⟩
  have HT6 := Lib.hid hT6
  obtain ⟨A6, C6, rfl, _, _, _⟩ := hT6.shape
  rw [encT_len] at HT6 ⊢
  clear hT6
  have HT5' := Lib.hid (HT5.out.below hB6)
  have hb4' := hb2.trans (HB4.out.mono hb2.size)
  have hb5' := hb4'.trans (hB5.mono hb4'.size)
  have hb6' := hb5'.trans (hB6.mono hb5'.size)
  have HROW := Lib.hid (show ∀ i, i < K + M → sameB ((encT K M X).getD i []) ((encT K M ((List.range (8 * K)).map fun i => if i = P then xp ^^^ T else X.getD i 0)).getD i []) = decide (entry (codeT K M) i (P / 8) = 0) from fun i hi =>
    far_row hK0 HFL.out HYL.out hP8 (t := T) (by omega) (by omega) (fun k hk hkp => by simp [hk, hkp]) (by simp only [List.getD_eq_getElem?_getD, List.getElem?_map, List.getElem?_range hP8, Option.map_some, Option.getD_some, if_true]; rw [← List.getD_eq_getElem?_getD, HXP.out]) hi)
  obtain ⟨Y, hYe⟩ : ∃ Y, ((List.range (8 * K)).map fun i => if i = P then xp ^^^ T else X.getD i 0) = Y := ⟨_, rfl⟩
  rw [hYe] at HT6 HROW
  clear hYe HYL HT5 HY HX
  have HODD := Lib.hid (odd_all hK0 hK hM (show P / 8 < K by omega))
  go_wp2_with fail
  go_loopw [19, 20] (fun a c wr => ∃ (i q : Nat), i ≤ K + M ∧ a = .int .i64 ((odd K M (P / 8) i : Nat) : Int) ∧ c = .int .i64 (i : Nat) ∧ wr = w6.drewN q) (fun _ c _ => K + M - (intOf c).toNat)
  case atStart => exact ⟨0, 0, Nat.zero_le _, rfl, rfl, rfl⟩
  case round =>
    obtain ⟨i, q, hi, rfl, rfl, rfl⟩ := hrel
    have hol := Nat.le_trans (odd_le K M (P / 8) i) hi
    by_cases hlt : i < K + M
    · have q4 : (i : Int) < (K : Int) + (M : Int) := by omega
      cases A5 with
      | none =>
        obtain ⟨_, _, _, _, e, -⟩ := HT5'.out.at (i := i) (by rw [encT_len]; exact hlt)
        cases e
      | some ad =>
        obtain ⟨b5, o5, _, _, e, -⟩ := HT5'.out.at (i := i) (by rw [encT_len]; exact hlt)
        cases e
        cases A6 with
        | none =>
          obtain ⟨_, _, _, _, e, -⟩ := HT6.out.at (i := i) (by rw [encT_len]; exact hlt)
          cases e
        | some ad =>
          obtain ⟨b6, o6, _, _, e, -⟩ := HT6.out.at (i := i) (by rw [encT_len]; exact hlt)
          cases e
          obtain ⟨A7, L7, C7, hc7, hb7⟩ := Tab.get HT5'.out (i := i) (by rw [encT_len]; exact hlt)
          obtain ⟨A8, L8, C8, hc8, hb8⟩ := Tab.get HT6.out (i := i) (by rw [encT_len]; exact hlt)
          have hs := HROW.out i hlt
          obtain ⟨lx, hlx⟩ : ∃ l, (encT K M X).getD i [] = l := ⟨_, rfl⟩
          obtain ⟨ly, hly⟩ : ∃ l, (encT K M Y).getD i [] = l := ⟨_, rfl⟩
          rw [hlx, hly] at hs
          rw [hlx] at hb7
          rw [hly] at hb8
          clear hlx hly
          by_cases h0 : entry (codeT K M) i (P / 8) = 0
          · have E1 := Lib.hid (show odd K M (P / 8) (i + 1) = odd K M (P / 8) i by rw [odd, if_pos h0]; rfl)
            rw [decide_eq_true h0] at hs
            clear h0
            go_wp2_with fail
            go_quiet ((go_at_call 14; exact quiet_at (sameC _ _ _ _ _ (hb7.drewN _) (hb8.drewN _))))
            go_wp2
            go_roundw
            case rel => exact ⟨i + 1, _, by omega, by rw [E1.out], by go_num, rfl⟩
            case measure => simp [intOf]; omega
          · have E1 := Lib.hid (show odd K M (P / 8) (i + 1) = odd K M (P / 8) i + 1 by rw [odd, if_neg h0])
            rw [decide_eq_false h0] at hs
            clear h0
            go_wp2_with fail
            go_quiet ((go_at_call 14; exact quiet_at (sameC _ _ _ _ _ (hb7.drewN _) (hb8.drewN _))))
            go_wp2
            go_roundw
            case rel => exact ⟨i + 1, _, by omega, by rw [E1.out]; go_num, by go_num, rfl⟩
            case measure => simp [intOf]; omega
    · obtain rfl : i = K + M := by omega
      rw [HODD.out]
      go_wp2_with fail
      refine (answersC _).mono ?_
      rintro _ w9 ⟨rfl, hB9⟩
      go_wp2_with fail
      go_ret
      have hh := hb6'.trans (below_drewN _ w6 q)
      exact ⟨rfl, hh.trans (hB9.mono hh.size)⟩
theorem RsFarC (k m : Int) (a : List Nat) (v : Value) (p t : Int) (lk : 0 ≤ k) (uk : k ≤ 255) (lm : 0 ≤ m) (um : m ≤ 255) (lp : 0 ≤ p) (up : p ≤ 255) (lt : 0 ≤ t) (ut : t ≤ 255) (w : World) (ha : Bytes w v a) :
    Calls Try.prog 8 #[.int .u8 k, .int .u8 m, v, .int .u8 p, .int .u8 t] w fun e w' => e = .returned (.bool true) ∧ Below w.heap.size w w' := by
  by_cases h : 100 < a.length ∨ t = 0
  · exact far_no k m a v p t lk uk lm um w ha h
  · exact far_yes k m a v p t lk uk lm um lp up lt ut w ha (fun e => h (.inl e)) (fun e => h (.inr e))
end Go.Proofs.Ytmcodfjaeaociaa.Rs
