/- Law RsAny as a walk. -/
import Derived.Test.YtmcodfjaeaociaaRsSumLaw
namespace Go.Mem
open Go.RowKit
/-- values that may be written, from the head of block b on -/
structure VRow (w : World) (b n : Nat) (V : Nat → Value) : Prop where
  cell : ∀ i, i < n → w.cell? ⟨b, i, none⟩ = some (V i)
  free : ∀ i, i < n → w.frozen? ⟨b, i, none⟩ = false
theorem VRow.congr {w : World} {b n : Nat} {V V' : Nat → Value} (h : VRow w b n V) (e : ∀ i, i < n → V' i = V i) : VRow w b n V' := ⟨fun i hi => by rw [e i hi]; exact h.cell i hi, h.free⟩
theorem VRow.set {w : World} {b n : Nat} {V : Nat → Value} (h : VRow w b n V) {k : Nat} (hk : k < n) (v : Value) : VRow (w.setCell ⟨b, k, none⟩ v) b n (fun i => if i = k then v else V i) := by
  refine ⟨fun i hi => ?_, fun i hi => ?_⟩
  · by_cases e : i = k
    · subst e
      rw [if_pos rfl]
      exact World.cell?_setCell_same _ _ _ (h.cell i hi)
    · rw [if_neg e, World.cell?_setCell_other _ _ _ _ (fun q => by injection q; omega)]
      exact h.cell i hi
  · rw [World.frozen?_setCell]; exact h.free i hi
theorem Built.vals {R : World → Value → Value → Prop} (hR : ∀ w c y, R w c y → c = y) {w : World} {base t : Nat} {g n C : Nat} {L : List Value} (h : Built R w base t (.slice (.some ⟨g, 0, none⟩) n C) L) : VRow w g L.length (fun i => L.getD i (.slice none 0 0)) := by
  have hs := h.slice
  obtain ⟨xs, h1, _⟩ := h
  have hf : ∀ i, w.frozen? ⟨g, i, none⟩ = false := by
    rcases h1.2 with ⟨e, _⟩ | ⟨g', cap, cur, e, _, hg, _⟩
    · cases e
    · cases e
      intro i
      simp [World.frozen?, hg]
  obtain ⟨A, n', C', e, _, _, _, _, hc⟩ := hs
  cases e
  refine ⟨fun i hi => ?_, fun i _ => hf _⟩
  obtain ⟨b, o, c, e1, e2, e3⟩ := hc i hi
  cases e1
  rw [Nat.zero_add] at e2
  rw [e2, hR _ _ _ e3]
  simp [hi]
end Go.Mem
namespace Go.Proofs.Ytmcodfjaeaociaa.Rs
open Go.RowKit Go.Shelf
open Go.Mem Mat
/-- a value of one cell, as itself -/
def Itself (_ : World) (c y : Value) : Prop := c = y ∧ y.oneCell' = true
section
variable (M lost : Nat)
/-- how many of the first i shards are lost -/
def gones : Nat → Nat
  | 0 => 0
  | i + 1 => gones i + (if gones i < M ∧ lost / 2 ^ i % 2 = 1 then 1 else 0)
/-- shard i is lost -/
def isGone (i : Nat) : Prop := gones M lost i < M ∧ lost / 2 ^ i % 2 = 1
instance (i : Nat) : Decidable (isGone M lost i) := by unfold isGone; exact inferInstance
theorem gones_le : ∀ i, gones M lost i ≤ M
  | 0 => Nat.zero_le _
  | i + 1 => by
    have := gones_le i
    rw [gones]
    split <;> omega
theorem gones_mono {i : Nat} : ∀ {j}, i ≤ j → gones M lost i ≤ gones M lost j
  | 0, h => by rw [show i = 0 by omega]; exact Nat.le_refl _
  | j + 1, h => by
    by_cases e : i = j + 1
    · subst e; exact Nat.le_refl _
    · have := gones_mono (i := i) (j := j) (by omega)
      rw [gones]; omega
theorem gones_lt (i : Nat) : gones M lost i ≤ i := by
  induction i with
  | zero => exact Nat.le_refl _
  | succ i ih => rw [gones]; split <;> omega
/-- the shards that are left -/
def left (T : List (List Nat)) : List (List Nat) := (List.range T.length).map fun j => if isGone M lost j then [] else T.getD j []
theorem left_len (T : List (List Nat)) : (left M lost T).length = T.length := by simp [left]
theorem left_get {T : List (List Nat)} {j : Nat} (h : j < T.length) : (left M lost T).getD j [] = if isGone M lost j then [] else T.getD j [] := by
  simp [left, h]
theorem left_idx {T : List (List Nat)} (hr : ∀ r ∈ T, r.length = 8) : ∀ i, i ≤ T.length → (idx (left M lost T) i).length + gones M lost i = i
  | 0, _ => by simp [idx, gones]
  | i + 1, h => by
    have ih := left_idx hr i (by omega)
    have hg : (T.getD i []).length = 8 := hr _ (by rw [List.getD_eq_getElem?_getD, List.getElem?_eq_getElem (by omega)]; exact List.getElem_mem _)
    have hl := left_get M lost (T := T) (j := i) (by omega)
    by_cases hgo : isGone M lost i
    · have hgo' : gones M lost i < M ∧ lost / 2 ^ i % 2 = 1 := hgo
      rw [if_pos hgo] at hl
      rw [idx_miss (by rw [hl]; rfl), gones, if_pos hgo']
      omega
    · have hgo' : ¬ (gones M lost i < M ∧ lost / 2 ^ i % 2 = 1) := hgo
      rw [if_neg hgo] at hl
      rw [idx_hit (by rw [hl]; omega), gones, if_neg hgo', List.length_append]
      simp only [List.length_cons, List.length_nil]
      omega
end
theorem bit_int (lost i : Nat) : ((lost : Int) / 2 ^ i).tmod 2 = ((lost / 2 ^ i % 2 : Nat) : Int) := by
  rw [show ((2 : Int) ^ i) = ((2 ^ i : Nat) : Int) by simp, ← Int.natCast_ediv]
  exact (Int.ofNat_tmod _ 2).symm
theorem left_right {M lost : Nat} {T : List (List Nat)} (hr : ∀ r ∈ T, r.length = 8) : rightAll (left M lost T) = true := by
  unfold rightAll
  rw [List.all_eq_true]
  intro r h
  obtain ⟨j, hj, rfl⟩ := List.mem_map.1 h
  have hj' : j < T.length := List.mem_range.1 hj
  have hg : (T.getD j []).length = 8 := hr _ (by rw [List.getD_eq_getElem?_getD, List.getElem?_eq_getElem hj']; exact List.getElem_mem _)
  unfold rightB
  split
  · rfl
  · rw [hg]; rfl
theorem left_le {K M lost : Nat} {T : List (List Nat)} (hr : ∀ r ∈ T, r.length = 8) (hl : T.length = K + M) : K ≤ (idx (left M lost T) (left M lost T).length).length := by
  have h := left_idx M lost hr T.length (Nat.le_refl _)
  have := gones_le M lost T.length
  rw [left_len]
  omega
theorem left_first {K M lost : Nat} {T : List (List Nat)} : ∀ i ∈ firstK (left M lost T) K, (left M lost T).getD i [] = T.getD i [] := by
  intro i hi
  obtain ⟨h1, h2⟩ := first_mem hi
  rw [left_len] at h1
  rw [left_get M lost h1] at h2 ⊢
  by_cases hg : isGone M lost i
  · rw [if_pos hg] at h2; simp at h2
  · rw [if_neg hg]
theorem left_tab {M lost K : Nat} {w : World} {g C : Nat} {T : List (List Nat)} {gA : Nat → Option Addr} {gC : Nat → Nat} (hl : T.length = K + M) (hc : K + M ≤ C) (hm : C ≤ 9223372036854775807) (h : VRow w g (K + M) (fun j => if isGone M lost j then .slice none 0 0 else .slice (gA j) (shardLen T j) (gC j)))
    (hb : ∀ j, j < K + M → Bytes w (.slice (gA j) (shardLen T j) (gC j)) (T.getD j [])) : Tab w (.slice (some ⟨g, 0, none⟩) (K + M) C) (left M lost T) := by
  refine ⟨_, _, _, rfl, by rw [left_len, hl], hc, by unfold maxLen; exact hm, (fun e => by cases e), fun i hi => ?_⟩
  have hi' : i < K + M := by rw [left_len, hl] at hi; exact hi
  refine ⟨g, 0, _, rfl, by rw [Nat.zero_add]; exact h.cell i hi', ?_⟩
  have hg := left_get M lost (T := T) (j := i) (by rw [hl]; exact hi')
  rw [show (left M lost T).getD i [] = (left M lost T)[i] by simp [hi]] at hg
  rw [hg]
  by_cases hgo : isGone M lost i
  · rw [if_pos hgo, if_pos hgo]; exact bytes_nil w
  · rw [if_neg hgo, if_neg hgo]; exact hb i hi'
theorem encT_rows {K M : Nat} {d : List Nat} (hK0 : 1 ≤ K) (hlen : d.length = 8 * K) : ∀ r ∈ encT K M d, r.length = 8 := fun r hr => (times_rows r hr).trans (fit_parts hK0 hlen).2
set_option maxRecDepth 100000 in
set_option maxHeartbeats 2000000 in
theorem any_yes (k m : Int) (a : List Nat) (v : Value) (l p : Int) (lk : 0 ≤ k) (uk : k ≤ 255) (lm : 0 ≤ m) (um : m ≤ 255) (ll : 0 ≤ l) (ul : l ≤ 255) (lp : 0 ≤ p) (up : p ≤ 255) (w : World) (ha : Bytes w v a) (h100 : ¬ 100 < a.length) :
    Calls Try.prog 5 #[.int .u8 k, .int .u8 m, v, .int .u8 l, .int .u8 p] w fun e w' => e = .returned (.bool true) ∧ Below w.heap.size w w' := by
  obtain ⟨K, hKi⟩ : ∃ K : Nat, k % 4 + 1 = (K : Int) := ⟨(k % 4 + 1).toNat, by omega⟩
  obtain ⟨M, hMi⟩ : ∃ M : Nat, m % 4 = (M : Int) := ⟨(m % 4).toNat, by omega⟩
  have hK0 : 1 ≤ K := by omega
  have hK : K ≤ 4 := by omega
  have hM : M ≤ 3 := by omega
  obtain ⟨lost, rfl⟩ := Int.eq_ofNat_of_zero_le ll
  obtain ⟨P, hP⟩ : ∃ P : Nat, p % ((K : Int) + (M : Int)) = (P : Int) := ⟨(p % ((K : Int) + (M : Int))).toNat, by
    have := Int.emod_nonneg p (show ((K : Int) + (M : Int)) ≠ 0 by omega); omega⟩
  have hP8 : P < K + M := by have := Int.emod_lt_of_pos p (show (0 : Int) < (K : Int) + (M : Int) by omega); omega
  obtain ⟨A, C, rfl, h1, h2, _⟩ := ha.shape
  have hbd := Bytes_bd ha
  obtain ⟨L, hL⟩ : ∃ L, a.length = L := ⟨_, rfl⟩
  rw [hL] at h100 h1 ha ⊢
  obtain ⟨v1, w1, g2, C2, w2, hr1, hr2, hbu2, hc2, hd2, hb2⟩ := full_runs w a A L C ha hL h100
  have HR1 := Lib.hid hr1
  have HR2 := Lib.hid hr2
  have hx := full_bytes hbu2 hK
  have hxl := fullL_len a hK
  have hxb := fullL_bd (K := K) hbd
  obtain ⟨X, hX⟩ : ∃ X, fullL K a = X := ⟨_, rfl⟩
  rw [hX] at hx hxl hxb
  have HX := Lib.hid hx
  have HXL := Lib.hid hxl
  have HXB := Lib.hid hxb
  clear hr1 hr2 hbu2 hx hxl hxb hX hL ha hbd
  have e0 : ¬ (100 : Int) < (L : Int) := by omega
  have q1 : 8 * K ≤ C2 := by omega
  go_enter Try.func5, Try.ntmps5
  go_wp2_with (at_builtin; first
    | (refine Lib.wpList_append_run _ rfl (.tmp 35) (.tmp 36) _ _ rfl _ _ rfl rfl _ _ HR1.out ?_)
    | (refine Lib.wpList_append_run _ rfl (.tmp 37) (.const (.int .i64 32)) _ _ rfl _ _ rfl rfl _ _ HR2.out ?_))
  refine (encodeYes K M X _ w2 HX.out hK0 hK hM HXL.out).mono ?_
  rintro _ w3 ⟨v3, rfl, hT3, hB3⟩
  obtain ⟨A3, C3, rfl, g31, g32, _⟩ := hT3.shape
  obtain ⟨b3, o3, rfl⟩ := enc_some hT3 hK0
  obtain ⟨gA, gC, hv⟩ := Tab.values hT3
  have hb3 := hb2.trans (hB3.mono hb2.size)
  have HX3 := Lib.hid (HX.out.below hB3)
  have hal : Below w3.heap.size w3 (w3.alloc (.cells #[] 22)) := (Below.refl _ _).alloc (Nat.le_refl _) _
  rw [encT_len] at hv g31 ⊢
  have hsl : SliceOf Itself (w3.alloc (.cells #[] 22)) (.slice (some ⟨b3, o3, none⟩) (K + M) C3) ((List.range (K + M)).map fun i => .slice (gA i) (shardLen (encT K M X) i) (gC i)) := by
    refine ⟨_, _, _, rfl, by simp, by omega, by unfold maxLen; omega, (fun e => by cases e), fun i hi => ?_⟩
    have hi' : i < K + M := by simpa using hi
    obtain ⟨b, o, e1, _, e2, _⟩ := hv i hi'
    cases e1
    exact ⟨b3, o3, _, rfl, below_cell hal _ _ e2, by simp, by simp [Value.oneCell']⟩
  obtain ⟨v4, w4, hr4, hbu4, _, hb4⟩ := run_append_list (P := Try.prog) (R := Itself) (fun _ _ _ _ h => h) (fun _ _ _ h => h.1 ▸ h.2) (w3.alloc (.cells #[] 22)) w3.heap.size 24 24 22 (.slice none 0 0) 24 Try.underlying24 infoRow rfl _ [] (built_none w3 (Nat.le_refl _)) _ _ _ _ hsl (by simp; omega) (by simp)
  rw [List.nil_append] at hbu4
  obtain ⟨g4, C4, rfl, hc4, hd4, he4⟩ := hbu4.some (n := K + M) (by simp) (by omega)
  have hrow := Built.vals (fun _ _ _ h => h.1) hbu4
  rw [show ((List.range (K + M)).map fun i => Value.slice (gA i) (shardLen (encT K M X) i) (gC i)).length = K + M by simp] at hrow
  have HR4 := Lib.hid hr4
  have hb34 := hal.trans hb4
  have HT4 := Lib.hid (hT3.below hb34)
  rw [encT_len] at HT4
  have HROW := Lib.hid (hrow.congr (V' := fun j => if j < 0 ∧ isGone M lost j then .slice none 0 0 else .slice (gA j) (shardLen (encT K M X) j) (gC j)) (fun i hi => by rw [if_neg (fun h => by omega)]; simp [hi]))
  have HV := Lib.hid hv
  have HT3 := Lib.hid hT3
  clear hT3 hv hal hsl hr4 hbu4 hb4 hrow
  have q3 : ¬ ((K : Int) + (M : Int) = 0) := by omega
  go_wp2_with (at_builtin; refine Lib.wpList_append_run _ rfl (.tmp 59) (.tmp 60) _ _ rfl _ _ rfl rfl _ _ HR4.out ?_)
  go_loopw [17, 18] (fun a c wr => ∃ i : Nat, i ≤ K + M ∧ a = .int .i64 ((gones M lost i : Nat) : Int) ∧ c = .int .i64 (i : Nat) ∧ VRow wr g4 (K + M) (fun j => if j < i ∧ isGone M lost j then .slice none 0 0 else .slice (gA j) (shardLen (encT K M X) j) (gC j)) ∧ Below w3.heap.size w3 wr) (fun _ c _ => K + M - (intOf c).toNat)
  case atStart => exact ⟨0, Nat.zero_le _, rfl, rfl, HROW.out, hb34⟩
  case round =>
    obtain ⟨i, hi, rfl, rfl, hrow, hbr⟩ := hrel
    have hgl := gones_le M lost i
    by_cases hlt : i < K + M
    · by_cases hgM : gones M lost i < M
      · have hcr := hrow.cell i hlt
        have hfr := hrow.free i hlt
        have q4 : (i : Int) < (K : Int) + (M : Int) := by omega
        have q5 : ((gones M lost i : Nat) : Int) < (M : Int) := by omega
        by_cases hbit : lost / 2 ^ i % 2 = 1
        · have e4 : (((lost : Int) / 2 ^ i).tmod 2 == 1) = true := by rw [bit_int, hbit]; rfl
          have E5 := Lib.hid (show gones M lost (i + 1) = gones M lost i + 1 by rw [gones, if_pos ⟨hgM, hbit⟩])
          have HS := Lib.hid ((hrow.set hlt (.slice none 0 0)).congr (V' := fun j => if j < i + 1 ∧ isGone M lost j then .slice none 0 0 else .slice (gA j) (shardLen (encT K M X) j) (gC j)) (fun j hj => by
            by_cases e : j = i
            · subst e; rw [if_pos ⟨by omega, hgM, hbit⟩, if_pos rfl]
            · rw [if_neg e]
              by_cases hg : isGone M lost j
              · by_cases hji : j < i
                · rw [if_pos ⟨by omega, hg⟩, if_pos ⟨hji, hg⟩]
                · rw [if_neg (fun h => by omega), if_neg (fun h => by omega)]
              · rw [if_neg (fun h => hg h.2), if_neg (fun h => hg h.2)]))
          go_wp2_with fail
          go_roundw
          case rel => exact ⟨i + 1, by omega, by rw [E5.out]; go_num, by go_num, HS.out, hbr.setCell (p := ⟨g4, i, none⟩) he4 _⟩
          case measure => simp [intOf]; omega
        · have e4 : (((lost : Int) / 2 ^ i).tmod 2 == 1) = false := by rw [bit_int, beq_eq_false_iff_ne]; omega
          have E5 := Lib.hid (show gones M lost (i + 1) = gones M lost i by rw [gones, if_neg (fun h => hbit h.2)]; rfl)
          have HS := Lib.hid (hrow.congr (V' := fun j => if j < i + 1 ∧ isGone M lost j then .slice none 0 0 else .slice (gA j) (shardLen (encT K M X) j) (gC j)) (fun j hj => by
            by_cases hg : isGone M lost j
            · have hji : j ≠ i := fun e => by subst e; exact hbit hg.2
              by_cases hlt2 : j < i
              · rw [if_pos ⟨by omega, hg⟩, if_pos ⟨hlt2, hg⟩]
              · rw [if_neg (fun h => by omega), if_neg (fun h => by omega)]
            · rw [if_neg (fun h => hg h.2), if_neg (fun h => hg h.2)]))
          go_wp2_with fail
          go_roundw
          case rel => exact ⟨i + 1, by omega, by rw [E5.out], by go_num, HS.out, hbr⟩
          case measure => simp [intOf]; omega
      · have q5 : ¬ (((gones M lost i : Nat) : Int) < (M : Int)) := by omega
        have q4 : (i : Int) < (K : Int) + (M : Int) := by omega
        have HVF := Lib.hid (hrow.congr (V' := fun j => if isGone M lost j then .slice none 0 0 else .slice (gA j) (shardLen (encT K M X) j) (gC j)) (fun j hj => by
          by_cases hg : isGone M lost j
          · by_cases hji : j < i
            · rw [if_pos hg, if_pos ⟨hji, hg⟩]
            · exact absurd hg.1 (by have := gones_mono M lost (i := i) (j := j) (by omega); omega)
          · rw [if_neg hg, if_neg (fun h => hg h.2)]))
        have HFIN := Lib.hid (left_tab (M := M) (lost := lost) (K := K) (g := g4) (C := C4) (T := encT K M X) (gA := gA) (gC := gC) (encT_len K M X) hc4 hd4 HVF.out (fun j hj => by
          obtain ⟨_, _, _, _, _, _, h5⟩ := HV.out j hj
          exact h5.below hbr))
        have HER := Lib.hid (encT_rows (M := M) hK0 HXL.out)
        have HRA := Lib.hid (left_right (M := M) (lost := lost) HER.out)
        have HLE := Lib.hid (left_le (K := K) (M := M) (lost := lost) HER.out (encT_len K M X))
        have HSL := Lib.hid (show (left M lost (encT K M X)).length = K + M by rw [left_len, encT_len])
        have HFI := Lib.hid (left_first (K := K) (M := M) (lost := lost) (T := encT K M X))
        obtain ⟨S, hSe⟩ : ∃ S, left M lost (encT K M X) = S := ⟨_, rfl⟩
        rw [hSe] at HFIN HRA HLE HSL HFI
        have hbw := hb3.trans (hbr.mono hb3.size)
        clear hrow hSe HVF HROW HR1 HR2 HR4 HV HX HT4
        go_wp2_with fail
        refine (decodeYes K M S _ wr HFIN.out hK0 hK hM HSL.out HRA.out).mono ?_
        rintro e w5 ⟨hB5, hp⟩
        rcases hp with ⟨hfew, _⟩ | ⟨hle, u, B, rfl, hu, hbu⟩
        · exact absurd hfew (by have := HLE.out; omega)
        · rw [enc_dec hK0 HXB.out HXL.out HSL.out HFI.out hle hu] at hbu
          have HBU := Lib.hid hbu
          obtain ⟨A7, L7, C7, rfl⟩ : ∃ A L C, u = .slice A L C := by
            obtain ⟨A, C, rfl, _⟩ := hbu.shape
            exact ⟨_, _, _, rfl⟩
          have hb5 := hbw.trans (hB5.mono hbw.size)
          clear hle hu hbu
          go_wp2_with fail
          refine (rebuildYes K M S _ (P : Int) w5 (HFIN.out.below hB5) hK0 hK hM HSL.out HRA.out).mono ?_
          rintro e w6 ⟨hB6, hq⟩
          rcases hq with ⟨hx, _⟩ | ⟨_, hout, _⟩ | ⟨_, ii, hPi, hii, u2, B2, rfl, hu2, hbu2⟩
          · exact absurd hx (by have := HLE.out; omega)
          · exact absurd hout (by omega)
          · obtain rfl : ii = P := by omega
            rw [enc_dec hK0 HXB.out HXL.out HSL.out HFI.out HLE.out hu2] at hbu2
            have HB2 := Lib.hid hbu2
            obtain ⟨A8, L8, C8, rfl⟩ : ∃ A L C, u2 = .slice A L C := by
              obtain ⟨A, C, rfl, _⟩ := hbu2.shape
              exact ⟨_, _, _, rfl⟩
            have hb6 := hb5.trans (hB6.mono hb5.size)
            clear hbu2 hu2
            go_wp2_with fail
            refine (answersC _).mono ?_
            rintro _ w7 ⟨rfl, hB7⟩
            have hb7 := hb6.trans (hB7.mono hb6.size)
            have h37 := ((hbr.trans (hB5.mono hbr.size)).trans (hB6.mono (Nat.le_trans hbr.size hB5.size))).trans (hB7.mono (Nat.le_trans (Nat.le_trans hbr.size hB5.size) hB6.size))
            have HX7 := Lib.hid (HX3.out.below h37)
            have HT7 := Lib.hid (HT3.out.below h37)
            rw [encT_len] at HT7
            have HD7 := Lib.hid ((HBU.out.below hB6).below hB7)
            have HO7 := Lib.hid (HB2.out.below hB7)
            obtain ⟨A9, L9, C9, hc9, hb9⟩ := Tab.get HT7.out (i := ii) (by rw [encT_len]; exact hii)
            obtain ⟨row, hrw⟩ : ∃ r, (encT K M X).getD ii [] = r := ⟨_, rfl⟩
            rw [hrw] at hb9 HO7
            have HB9 := Lib.hid hb9
            have hs1 : sameB X X = true := decide_eq_true rfl
            have hs2 : sameB row row = true := decide_eq_true rfl
            have q8 : (ii : Int) < (K : Int) + (M : Int) := by omega
            clear hb9 hrw hB5 hB6 hB7
            go_wp2_with fail
            refine (sameC X X _ _ w7 HD7.out HX7.out).mono ?_
            rw [hs1]
            rintro _ w8 ⟨rfl, n8, rfl⟩
            go_wp2_with fail
            refine (sameC row row _ _ (w7.drewN n8) (HO7.out.drewN n8) (HB9.out.drewN n8)).mono ?_
            rw [hs2]
            rintro _ w9 ⟨rfl, n9, rfl⟩
            go_wp2_with fail
            go_ret
            exact ⟨rfl, hb7.trans (below_drewN _ w7 (n8 + n9))⟩
    · obtain rfl : i = K + M := by omega
      have HVF := Lib.hid (hrow.congr (V' := fun j => if isGone M lost j then .slice none 0 0 else .slice (gA j) (shardLen (encT K M X) j) (gC j)) (fun j hj => by
        by_cases hg : isGone M lost j
        · rw [if_pos hg, if_pos ⟨hj, hg⟩]
        · rw [if_neg hg, if_neg (fun h => hg h.2)]))
      have HFIN := Lib.hid (left_tab (M := M) (lost := lost) (K := K) (g := g4) (C := C4) (T := encT K M X) (gA := gA) (gC := gC) (encT_len K M X) hc4 hd4 HVF.out (fun j hj => by
        obtain ⟨_, _, _, _, _, _, h5⟩ := HV.out j hj
        exact h5.below hbr))
      have HER := Lib.hid (encT_rows (M := M) hK0 HXL.out)
      have HRA := Lib.hid (left_right (M := M) (lost := lost) HER.out)
      have HLE := Lib.hid (left_le (K := K) (M := M) (lost := lost) HER.out (encT_len K M X))
      have HSL := Lib.hid (show (left M lost (encT K M X)).length = K + M by rw [left_len, encT_len])
      have HFI := Lib.hid (left_first (K := K) (M := M) (lost := lost) (T := encT K M X))
      obtain ⟨S, hSe⟩ : ∃ S, left M lost (encT K M X) = S := ⟨_, rfl⟩
      rw [hSe] at HFIN HRA HLE HSL HFI
      have hbw := hb3.trans (hbr.mono hb3.size)
      clear hrow hSe HVF HROW HR1 HR2 HR4 HV HX HT4
      go_wp2_with fail
      refine (decodeYes K M S _ wr HFIN.out hK0 hK hM HSL.out HRA.out).mono ?_
      rintro e w5 ⟨hB5, hp⟩
      rcases hp with ⟨hfew, _⟩ | ⟨hle, u, B, rfl, hu, hbu⟩
      · exact absurd hfew (by have := HLE.out; omega)
      · rw [enc_dec hK0 HXB.out HXL.out HSL.out HFI.out hle hu] at hbu
        have HBU := Lib.hid hbu
        obtain ⟨A7, L7, C7, rfl⟩ : ∃ A L C, u = .slice A L C := by
          obtain ⟨A, C, rfl, _⟩ := hbu.shape
          exact ⟨_, _, _, rfl⟩
        have hb5 := hbw.trans (hB5.mono hbw.size)
        clear hle hu hbu
        go_wp2_with fail
        refine (rebuildYes K M S _ (P : Int) w5 (HFIN.out.below hB5) hK0 hK hM HSL.out HRA.out).mono ?_
        rintro e w6 ⟨hB6, hq⟩
        rcases hq with ⟨hx, _⟩ | ⟨_, hout, _⟩ | ⟨_, ii, hPi, hii, u2, B2, rfl, hu2, hbu2⟩
        · exact absurd hx (by have := HLE.out; omega)
        · exact absurd hout (by omega)
        · obtain rfl : ii = P := by omega
          rw [enc_dec hK0 HXB.out HXL.out HSL.out HFI.out HLE.out hu2] at hbu2
          have HB2 := Lib.hid hbu2
          obtain ⟨A8, L8, C8, rfl⟩ : ∃ A L C, u2 = .slice A L C := by
            obtain ⟨A, C, rfl, _⟩ := hbu2.shape
            exact ⟨_, _, _, rfl⟩
          have hb6 := hb5.trans (hB6.mono hb5.size)
          clear hbu2 hu2
          go_wp2_with fail
          refine (answersC _).mono ?_
          rintro _ w7 ⟨rfl, hB7⟩
          have hb7 := hb6.trans (hB7.mono hb6.size)
          have h37 := ((hbr.trans (hB5.mono hbr.size)).trans (hB6.mono (Nat.le_trans hbr.size hB5.size))).trans (hB7.mono (Nat.le_trans (Nat.le_trans hbr.size hB5.size) hB6.size))
          have HX7 := Lib.hid (HX3.out.below h37)
          have HT7 := Lib.hid (HT3.out.below h37)
          rw [encT_len] at HT7
          have HD7 := Lib.hid ((HBU.out.below hB6).below hB7)
          have HO7 := Lib.hid (HB2.out.below hB7)
          obtain ⟨A9, L9, C9, hc9, hb9⟩ := Tab.get HT7.out (i := ii) (by rw [encT_len]; exact hii)
          obtain ⟨row, hrw⟩ : ∃ r, (encT K M X).getD ii [] = r := ⟨_, rfl⟩
          rw [hrw] at hb9 HO7
          have HB9 := Lib.hid hb9
          have hs1 : sameB X X = true := decide_eq_true rfl
          have hs2 : sameB row row = true := decide_eq_true rfl
          have q8 : (ii : Int) < (K : Int) + (M : Int) := by omega
          clear hb9 hrw hB5 hB6 hB7
          go_wp2_with fail
          refine (sameC X X _ _ w7 HD7.out HX7.out).mono ?_
          rw [hs1]
          rintro _ w8 ⟨rfl, n8, rfl⟩
          go_wp2_with fail
          refine (sameC row row _ _ (w7.drewN n8) (HO7.out.drewN n8) (HB9.out.drewN n8)).mono ?_
          rw [hs2]
          rintro _ w9 ⟨rfl, n9, rfl⟩
          go_wp2_with fail
          go_ret
          exact ⟨rfl, hb7.trans (below_drewN _ w7 (n8 + n9))⟩
set_option maxHeartbeats 1000000 in
theorem any_no (k m : Int) (a : List Nat) (v : Value) (l p : Int) (lk : 0 ≤ k) (uk : k ≤ 255) (lm : 0 ≤ m) (um : m ≤ 255) (w : World) (ha : Bytes w v a) (h : 100 < a.length) :
    Calls Try.prog 5 #[.int .u8 k, .int .u8 m, v, .int .u8 l, .int .u8 p] w fun e w' => e = .returned (.bool true) ∧ Below w.heap.size w w' := by
  obtain ⟨A, C, rfl, h1, h2, _⟩ := ha.shape
  obtain ⟨L, hL⟩ : ∃ L, a.length = L := ⟨_, rfl⟩
  rw [hL] at h h1 ⊢
  have e0 : (100 : Int) < (L : Int) := by omega
  go_enter Try.func5, Try.ntmps5
  go_wp2_with fail
  refine (answersC _).mono ?_
  rintro _ w1 ⟨rfl, hB1⟩
  go_wp2_with fail
  go_ret
  exact ⟨rfl, hB1⟩
theorem RsAnyC (k m : Int) (a : List Nat) (v : Value) (l p : Int) (lk : 0 ≤ k) (uk : k ≤ 255) (lm : 0 ≤ m) (um : m ≤ 255) (ll : 0 ≤ l) (ul : l ≤ 255) (lp : 0 ≤ p) (up : p ≤ 255) (w : World) (ha : Bytes w v a) :
    Calls Try.prog 5 #[.int .u8 k, .int .u8 m, v, .int .u8 l, .int .u8 p] w fun e w' => e = .returned (.bool true) ∧ Below w.heap.size w w' := by
  by_cases h : 100 < a.length
  · exact any_no k m a v l p lk uk lm um w ha h
  · exact any_yes k m a v l p lk uk lm um ll ul lp up w ha h
end Go.Proofs.Ytmcodfjaeaociaa.Rs
