/- Law RsSums as a walk. -/
import Derived.Test.YtmcodfjaeaociaaRsFarLaw
namespace Go.Proofs.Ytmcodfjaeaociaa.Rs
open Go.RowKit Go.Shelf
open Go.Mem Mat
theorem enc_some {w : World} {A : Option Addr} {n C K M : Nat} {d : List Nat} (h : Tab w (.slice A n C) (encT K M d)) (hK0 : 1 ≤ K) : ∃ b o, A = some ⟨b, o, none⟩ := by
  obtain ⟨b, o, _, _, e, -⟩ := h.at (i := 0) (by rw [encT_len]; omega)
  exact ⟨b, o, e⟩
theorem enc_at {w : World} {b o n C K M i : Nat} {d : List Nat} (h : Tab w (.slice (some ⟨b, o, none⟩) n C) (encT K M d)) (hK0 : 1 ≤ K) (hlen : d.length = 8 * K) (hi : i < K + M) :
    ∃ b' o' C', w.cell? ⟨b, o + i, none⟩ = some (.slice (some ⟨b', o', none⟩) 8 C') ∧ ∀ j, j < 8 → w.cell? ⟨b', o' + j, none⟩ = some (.int .u8 ((((encT K M d).getD i []).getD j 0 : Nat) : Int)) ∧ ((encT K M d).getD i []).getD j 0 < 256 := by
  obtain ⟨A', L', C', hc, hb⟩ := Tab.get h (i := i) (by rw [encT_len]; exact hi)
  have hl : ((encT K M d).getD i []).length = 8 := by rw [enc_row hK0 hlen hi]; simp
  have hs := hb.shape
  rw [hl] at hs
  obtain ⟨A2, C2, e, _⟩ := hs
  cases e
  obtain ⟨b', o', rfl, _, _⟩ := hb.at (i := 0) (by omega)
  refine ⟨b', o', C', hc, fun j hj => ?_⟩
  have := hb.here (i := j) (by omega)
  rw [show ((encT K M d).getD i []).getD j 0 = ((encT K M d).getD i [])[j]'(by omega) by rw [List.getD_eq_getElem?_getD, List.getElem?_eq_getElem (by omega)]; rfl]
  exact this
set_option maxHeartbeats 1000000 in
theorem sums_no (k m : Int) (a b : List Nat) (va vb : Value) (lk : 0 ≤ k) (uk : k ≤ 255) (lm : 0 ≤ m) (um : m ≤ 255) (w : World) (ha : Bytes w va a) (hb : Bytes w vb b) (h : 100 < a.length ∨ 100 < b.length) :
    Calls Try.prog 7 #[.int .u8 k, .int .u8 m, va, vb] w fun e w' => e = .returned (.bool true) ∧ Below w.heap.size w w' := by
  obtain ⟨A, C, rfl, h1, h2, _⟩ := ha.shape
  obtain ⟨A1, C1, rfl, g1, g2, _⟩ := hb.shape
  obtain ⟨L, hL⟩ : ∃ L, a.length = L := ⟨_, rfl⟩
  obtain ⟨L', hL'⟩ : ∃ L, b.length = L := ⟨_, rfl⟩
  rw [hL] at h h1 ⊢
  rw [hL'] at h g1 ⊢
  by_cases h100 : 100 < L
  · have e0 : (100 : Int) < (L : Int) := by omega
    clear h
    go_enter Try.func7, Try.ntmps7
    go_wp2_with fail
    refine (answersC _).mono ?_
    rintro _ w1 ⟨rfl, hB1⟩
    go_wp2_with fail
    go_ret
    exact ⟨rfl, hB1⟩
  · have e0 : ¬ (100 : Int) < (L : Int) := by omega
    have e1 : (100 : Int) < (L' : Int) := by omega
    go_enter Try.func7, Try.ntmps7
    go_wp2_with fail
    refine (answersC _).mono ?_
    rintro _ w1 ⟨rfl, hB1⟩
    go_wp2_with fail
    go_ret
    exact ⟨rfl, hB1⟩
set_option maxRecDepth 100000 in
set_option maxHeartbeats 2000000 in
theorem sums_yes (k m : Int) (a b : List Nat) (va vb : Value) (lk : 0 ≤ k) (uk : k ≤ 255) (lm : 0 ≤ m) (um : m ≤ 255) (w : World) (ha : Bytes w va a) (hb : Bytes w vb b) (h100 : ¬ 100 < a.length) (h200 : ¬ 100 < b.length) :
    Calls Try.prog 7 #[.int .u8 k, .int .u8 m, va, vb] w fun e w' => e = .returned (.bool true) ∧ Below w.heap.size w w' := by
  obtain ⟨K, hKi⟩ : ∃ K : Nat, k % 4 + 1 = (K : Int) := ⟨(k % 4 + 1).toNat, by omega⟩
  obtain ⟨M, hMi⟩ : ∃ M : Nat, m % 4 = (M : Int) := ⟨(m % 4).toNat, by omega⟩
  have hK0 : 1 ≤ K := by omega
  have hK : K ≤ 4 := by omega
  have hM : M ≤ 3 := by omega
  obtain ⟨A, C, rfl, h1, h2, _⟩ := ha.shape
  obtain ⟨A', C', rfl, g1, g2, _⟩ := hb.shape
  have hbd := Bytes_bd ha
  have hbd' := Bytes_bd hb
  obtain ⟨L, hL⟩ : ∃ L, a.length = L := ⟨_, rfl⟩
  obtain ⟨L', hL'⟩ : ∃ L, b.length = L := ⟨_, rfl⟩
  rw [hL] at h100 h1 ha ⊢
  rw [hL'] at h200 g1 hb ⊢
  obtain ⟨v1, w1, b2, C2, w2, hr1, hr2, hbu2, hc2, hd2, hb2⟩ := full_runs w a A L C ha hL h100
  obtain ⟨v3, w3, b4, C4, w4, hr3, hr4, hbu4, hc4, hd4, hb4⟩ := full_runs w2 b A' L' C' (hb.below hb2) hL' h200
  have HR1 := Lib.hid hr1
  have HR2 := Lib.hid hr2
  have HR3 := Lib.hid hr3
  have HR4 := Lib.hid hr4
  have hx := (full_bytes hbu2 hK).below hb4
  have hy := full_bytes hbu4 hK
  have hxl := fullL_len a hK
  have hyl := fullL_len b hK
  obtain ⟨X, hX⟩ : ∃ X, fullL K a = X := ⟨_, rfl⟩
  obtain ⟨Y, hY⟩ : ∃ Y, fullL K b = Y := ⟨_, rfl⟩
  rw [hX] at hx hxl
  rw [hY] at hy hyl
  have HX := Lib.hid hx
  have HY := Lib.hid hy
  have HXL := Lib.hid hxl
  have HYL := Lib.hid hyl
  have hb24 := hb2.trans (hb4.mono hb2.size)
  clear hr1 hr2 hr3 hr4 hbu2 hbu4 hx hy hxl hyl hX hY hL hL' ha hb hbd hbd'
  have e0 : ¬ (100 : Int) < (L : Int) := by omega
  have e1 : ¬ (100 : Int) < (L' : Int) := by omega
  have q1 : 8 * K ≤ C2 := by omega
  have q2 : 8 * K ≤ C4 := by omega
  have hmk := run_make_row' (P := Try.prog) 22 5 (.int .u8 0) 1 Try.underlying22 infoByte rfl .i64 .i64 (8 * K) (by omega) (by omega)
  rw [show ((8 * K : Nat) : Int) = 8 * (K : Int) by omega] at hmk
  have HM := Lib.hid ((Row.made w4 5 (8 * K)).congr (g' := fun j => if j < 0 then X.getD j 0 ^^^ Y.getD j 0 else 0) (fun i _ => by rw [if_neg (by omega)]))
  have HAL := Lib.hid (show Below w4.heap.size w4 (w4.alloc (.cells (madeCells #[.int .u8 0] (8 * K)) 5)) from (Below.refl _ _).alloc (Nat.le_refl _) _)
  go_enter Try.func7, Try.ntmps7
  go_wp2_with (at_builtin; first
    | (refine Lib.wpList_append_run _ rfl (.tmp 39) (.tmp 40) _ _ rfl _ _ rfl rfl _ _ HR1.out ?_)
    | (refine Lib.wpList_append_run _ rfl (.tmp 41) (.const (.int .i64 32)) _ _ rfl _ _ rfl rfl _ _ HR2.out ?_)
    | (refine Lib.wpList_append_run _ rfl (.tmp 46) (.tmp 47) _ _ rfl _ _ rfl rfl _ _ HR3.out ?_)
    | (refine Lib.wpList_append_run _ rfl (.tmp 48) (.const (.int .i64 32)) _ _ rfl _ _ rfl rfl _ _ HR4.out ?_))
  go_loopw [14] (fun c wr => ∃ i : Nat, i ≤ 8 * K ∧ c = .int .i64 (i : Nat) ∧ Row wr w4.heap.size 0 (8 * K) (fun j => if j < i then X.getD j 0 ^^^ Y.getD j 0 else 0) ∧ Below w4.heap.size w4 wr) (fun c _ => 8 * K - (intOf c).toNat)
  case atStart => exact ⟨0, Nat.zero_le _, rfl, HM.out, HAL.out⟩
  case round =>
    clear hmk
    obtain ⟨i, hi, rfl, hrow, hbr⟩ := hrel
    by_cases hlt : i < 8 * K
    · have hfr := hrow.free i hlt
      have hcr := hrow.cell i hlt
      rw [Nat.zero_add] at hfr hcr
      obtain ⟨hcx, hxb⟩ := (HX.out.below hbr).here (i := i) (by rw [HXL.out]; exact hlt)
      obtain ⟨hcy, hyb⟩ := (HY.out.below hbr).here (i := i) (by rw [HYL.out]; exact hlt)
      rw [Nat.zero_add] at hcx hcy
      have ex : X.getD i 0 = X[i]'(by rw [HXL.out]; exact hlt) := by rw [List.getD_eq_getElem?_getD, List.getElem?_eq_getElem (by rw [HXL.out]; exact hlt)]; rfl
      have ey : Y.getD i 0 = Y[i]'(by rw [HYL.out]; exact hlt) := by rw [List.getD_eq_getElem?_getD, List.getElem?_eq_getElem (by rw [HYL.out]; exact hlt)]; rfl
      rw [← ex] at hcx hxb
      rw [← ey] at hcy hyb
      clear ex ey
      obtain ⟨xi, hxi⟩ : ∃ v, X.getD i 0 = v := ⟨_, rfl⟩
      obtain ⟨yi, hyi⟩ : ∃ v, Y.getD i 0 = v := ⟨_, rfl⟩
      have HR := Lib.hid (((hrow.drew).set hlt (show xi ^^^ yi < 256 by rw [← hxi, ← hyi]; exact xor_lt hxb hyb)).congr (g' := fun j => if j < i + 1 then X.getD j 0 ^^^ Y.getD j 0 else 0) (fun j hj => by
        by_cases e : j = i
        · subst e; rw [if_pos (by omega), if_pos rfl, hxi, hyi]
        · rw [if_neg e]
          by_cases hji : j < i
          · rw [if_pos (by omega), if_pos hji]
          · rw [if_neg (by omega), if_neg hji]))
      rw [Nat.zero_add] at HR
      rw [hxi] at hcx hxb
      rw [hyi] at hcy hyb
      have hxor := u8_xor_nat xi yi hxb hyb
      have q3 : (i : Int) < 8 * (K : Int) := by omega
      clear hxi hyi
      go_wp2
      go_still_tail 12, (by kernel_rfl)
      repeat still_step
      change wpList _ _ _ _ _ wr.drew
      go_wp2
      go_roundw
      case rel => exact ⟨i + 1, by omega, by go_num, HR.out, (hbr.trans (below_drewN _ wr 1)).setCell (p := ⟨w4.heap.size, i, none⟩) (Nat.le_refl _) _⟩
      case measure => simp [intOf]; omega
    · obtain rfl : i = 8 * K := by omega
      have hz := (hrow.congr (g' := fun j => X.getD j 0 ^^^ Y.getD j 0) (fun j hj => by rw [if_pos hj])).bytes (C := 8 * K) (Nat.le_refl _) (by omega)
      obtain ⟨Z, hZ⟩ : ∃ Z, ((List.range (8 * K)).map fun j => X.getD j 0 ^^^ Y.getD j 0) = Z := ⟨_, rfl⟩
      have HZL := Lib.hid (show Z.length = 8 * K by rw [← hZ]; simp)
      have HZG := Lib.hid (show ∀ j, j < 8 * K → Z.getD j 0 = X.getD j 0 ^^^ Y.getD j 0 from fun j hj => by rw [← hZ]; simp [hj])
      rw [hZ] at hz
      have HZ := Lib.hid hz
      have hbw := hb24.trans (hbr.mono hb24.size)
      have HXW := Lib.hid (HX.out.below hbr)
      have HYW := Lib.hid (HY.out.below hbr)
      clear hz hZ hrow hi hlt HM HAL HR1 HR2 HR3 HR4
      go_wp2_with fail
      refine (encodeYes K M X _ wr HXW.out hK0 hK hM HXL.out).mono ?_
      rintro _ w5 ⟨v5, rfl, hT5, hB5⟩
      have HT5 := Lib.hid hT5
      obtain ⟨A5, D5, rfl, _, _, _⟩ := hT5.shape
      rw [encT_len] at HT5 ⊢
      clear hT5
      go_wp2_with fail
      refine (encodeYes K M Y _ w5 (HYW.out.below hB5) hK0 hK hM HYL.out).mono ?_
      rintro _ w6 ⟨v6, rfl, hT6, hB6⟩
      have HT6 := Lib.hid hT6
      obtain ⟨A6, D6, rfl, _, _, _⟩ := hT6.shape
      rw [encT_len] at HT6 ⊢
      clear hT6
      have hb56 := hB5.trans (hB6.mono hB5.size)
      go_wp2_with fail
      refine (encodeYes K M Z _ w6 (HZ.out.below hb56) hK0 hK hM HZL.out).mono ?_
      rintro _ w7 ⟨v7, rfl, hT7, hB7⟩
      have HT7 := Lib.hid hT7
      obtain ⟨A7, D7, rfl, _, _, _⟩ := hT7.shape
      rw [encT_len] at HT7 ⊢
      clear hT7
      have HT6' := Lib.hid (HT6.out.below hB7)
      have HT5' := Lib.hid ((HT5.out.below hB6).below hB7)
      have hb7 := hbw.trans ((hb56.trans (hB7.mono hb56.size)).mono hbw.size)
      obtain ⟨b5, o5, rfl⟩ := enc_some HT5'.out hK0
      obtain ⟨b6, o6, rfl⟩ := enc_some HT6'.out hK0
      obtain ⟨b7, o7, rfl⟩ := enc_some HT7.out hK0
      clear HT5 HT6 HZ HXW HYW hB5 hB6 hB7 hb56
      go_wp2_with fail
      go_loopw [21] (fun c wr => ∃ (i q : Nat), i ≤ K + M ∧ c = .int .i64 (i : Nat) ∧ wr = w7.drewN q) (fun c _ => K + M - (intOf c).toNat)
      case atStart => exact ⟨0, 0, Nat.zero_le _, rfl, rfl⟩
      case round =>
        obtain ⟨i, q, hi, rfl, rfl⟩ := hrel
        by_cases hlt : i < K + M
        · have q4 : (i : Int) < (K : Int) + (M : Int) := by omega
          obtain ⟨p5, s5, E5, hc5, hr5⟩ := enc_at HT5'.out hK0 HXL.out hlt
          obtain ⟨p6, s6, E6, hc6, hr6⟩ := enc_at HT6'.out hK0 HYL.out hlt
          obtain ⟨p7, s7, E7, hc7, hr7⟩ := enc_at HT7.out hK0 HZL.out hlt
          have HS := Lib.hid (fun (c : Nat) (hc : c < 8) => sum_row (K := K) (M := M) hK0 HXL.out HYL.out HZL.out HZG.out hlt hc)
          have H5 := Lib.hid hr5
          have H6 := Lib.hid hr6
          have H7 := Lib.hid hr7
          clear hr5 hr6 hr7
          go_wp2_with fail
          go_loopw [22] (fun c wr => ∃ (j q : Nat), j ≤ 8 ∧ c = .int .i64 (j : Nat) ∧ wr = w7.drewN q) (fun c _ => 8 - (intOf c).toNat)
          case atStart => exact ⟨0, q, Nat.zero_le _, rfl, rfl⟩
          case round =>
            obtain ⟨j, r, hj, rfl, rfl⟩ := hrel
            by_cases hj8 : j < 8
            · obtain ⟨z5, y5⟩ := H5.out j hj8
              obtain ⟨z6, y6⟩ := H6.out j hj8
              obtain ⟨z7, y7⟩ := H7.out j hj8
              have hs := HS.out j hj8
              obtain ⟨x5, hx5⟩ : ∃ v, ((encT K M X).getD i []).getD j 0 = v := ⟨_, rfl⟩
              obtain ⟨x6, hx6⟩ : ∃ v, ((encT K M Y).getD i []).getD j 0 = v := ⟨_, rfl⟩
              obtain ⟨x7, hx7⟩ : ∃ v, ((encT K M Z).getD i []).getD j 0 = v := ⟨_, rfl⟩
              rw [hx5] at z5 y5 hs
              rw [hx6] at z6 y6 hs
              rw [hx7] at z7 y7 hs
              have hxor : bits .xor .u8 (x5 : Int) (x6 : Int) = (x7 : Int) := by rw [u8_xor_nat _ _ y5 y6, hs]
              have q5 : (j : Int) < 8 := by omega
              clear hx5 hx6 hx7 hs
              go_wp2
              go_quiet (fail)
              go_wp2
              go_roundw
              case rel => exact ⟨j + 1, _, by omega, by go_num, rfl⟩
              case measure => simp [intOf]; omega
            · obtain rfl : j = 8 := by omega
              go_wp2
              go_roundw
              case rel => exact ⟨i + 1, _, by omega, by go_num, rfl⟩
              case measure => simp [intOf]; omega
        · obtain rfl : i = K + M := by omega
          go_wp2_with fail
          refine (answersC _).mono ?_
          rintro _ w9 ⟨rfl, hB9⟩
          go_wp2_with fail
          go_ret
          have hh := hb7.trans (below_drewN _ w7 q)
          exact ⟨rfl, hh.trans (hB9.mono hh.size)⟩
theorem RsSumsC (k m : Int) (a b : List Nat) (va vb : Value) (lk : 0 ≤ k) (uk : k ≤ 255) (lm : 0 ≤ m) (um : m ≤ 255) (w : World) (ha : Bytes w va a) (hb : Bytes w vb b) :
    Calls Try.prog 7 #[.int .u8 k, .int .u8 m, va, vb] w fun e w' => e = .returned (.bool true) ∧ Below w.heap.size w w' := by
  by_cases h : 100 < a.length ∨ 100 < b.length
  · exact sums_no k m a b va vb lk uk lm um w ha hb h
  · exact sums_yes k m a b va vb lk uk lm um w ha hb (fun e => h (.inl e)) (fun e => h (.inr e))
end Go.Proofs.Ytmcodfjaeaociaa.Rs
