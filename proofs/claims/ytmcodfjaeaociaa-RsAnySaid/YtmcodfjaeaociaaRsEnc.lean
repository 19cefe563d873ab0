/- rs.Encode -/
import Derived.Test.YtmcodfjaeaociaaSeqs
import Derived.Test.YtmcodfjaeaociaaBox
import Derived.Maps.AppendAt
namespace Go.Proofs.Ytmcodfjaeaociaa.Rs
open Go.RowKit Go.Shelf
open Go.Mem Mat
attribute [local go_sem] Oper.semAt_some
/-- the K parts of data -/
def partsOf (K : Nat) (d : List Nat) : List (List Nat) := (List.range K).map fun i => (d.drop (8 * i)).take 8
/-- the shards of data -/
def encT (K M : Nat) (d : List Nat) : List (List Nat) := times (codeT K M) (partsOf K d)
theorem codeT_len (K M : Nat) : (codeT K M).length = K + M := by unfold codeT unitT; simp [tabOf_len]
theorem partsOf_len (K : Nat) (d : List Nat) : (partsOf K d).length = K := by simp [partsOf]
theorem part_len {K i : Nat} {d : List Nat} (hlen : d.length = 8 * K) (hi : i < K) : ((d.drop (8 * i)).take 8).length = 8 := by simp; omega
theorem partsOf_get {K i : Nat} {d : List Nat} (hi : i < K) : (partsOf K d).getD i [] = (d.drop (8 * i)).take 8 := by simp [partsOf, hi]
theorem fit_of {M : List (List Nat)} {k : Nat} (h0 : 0 < M.length) (h : ∀ r ∈ M, r.length = k) : fitB M = true ∧ width M = k := by
  have hw : width M = k := by
    cases M with
    | nil => exact absurd h0 (by simp)
    | cons r M => exact h r (by simp)
  exact ⟨fitB_iff.2 ⟨h0, fun i hi _ => by rw [hw]; exact h _ (List.getElem_mem hi)⟩, hw⟩
theorem codeT_rows {K M : Nat} : ∀ r ∈ codeT K M, r.length = K := by
  intro r hr
  unfold codeT unitT tabOf at hr
  rcases List.mem_append.1 hr with h | h
  · obtain ⟨i, _, rfl⟩ := List.mem_map.1 h; simp
  · obtain ⟨i, _, rfl⟩ := List.mem_map.1 h; simp
theorem parts_rows {K : Nat} {d : List Nat} (hlen : d.length = 8 * K) : ∀ r ∈ partsOf K d, r.length = 8 := by
  intro r hr
  unfold partsOf at hr
  obtain ⟨i, hi, rfl⟩ := List.mem_map.1 hr
  exact part_len hlen (by simpa using hi)
theorem fit_code {K M : Nat} (hK0 : 1 ≤ K) : fitB (codeT K M) = true ∧ width (codeT K M) = K := fit_of (by rw [codeT_len]; omega) codeT_rows
theorem fit_parts {K : Nat} {d : List Nat} (hK0 : 1 ≤ K) (hlen : d.length = 8 * K) : fitB (partsOf K d) = true ∧ width (partsOf K d) = 8 := fit_of (by rw [partsOf_len]; omega) (parts_rows hlen)
theorem can_enc {K M : Nat} {d : List Nat} (hK0 : 1 ≤ K) (hlen : d.length = 8 * K) : canTimes (codeT K M) (partsOf K d) = true := by
  unfold canTimes
  rw [(fit_code hK0).1, (fit_code hK0).2, (fit_parts hK0 hlen).1, partsOf_len]
  simp
theorem part_bytes {K : Nat} {d : List Nat} {W : World} {b o C : Nat} (hlen : d.length = 8 * K) (hd : Bytes W (.slice (some ⟨b, o, none⟩) (8 * K) C) d) (i : Nat) (hi : i < (partsOf K d).length) : ∃ c, ((List.range K).map (partV b o C))[i]? = some c ∧ Bytes W c (partsOf K d)[i] := by
  rw [partsOf_len] at hi
  refine ⟨partV b o C i, by simp [hi], ?_⟩
  have h1 := (hd.drop (j := 8 * i) (by omega)).take (j := 8) (by simp; omega)
  simpa [partsOf, partV] using h1
/-- the parts of data, in a row that the call owns -/
theorem rows_tab {K : Nat} {d : List Nat} {W : World} {n b o C : Nat} {u : Value} (hlen : d.length = 8 * K) (hd : Bytes W (.slice (some ⟨b, o, none⟩) (8 * K) C) d) (h : W.ownsRow n 22 1 u (List.range K).length ((List.range K).map (partV b o C))) : Tab W u (partsOf K d) :=
  slice_of_row h (by rw [partsOf_len, List.length_range]) (part_bytes hlen hd)
set_option maxRecDepth 100000 in
set_option maxHeartbeats 2000000 in
theorem encodeYes (K M : Nat) (d : List Nat) (v : Value) (w : World) (hd : Bytes w v d) (hK0 : 1 ≤ K) (hK : K ≤ 4) (hM : M ≤ 3) (hlen : d.length = 8 * K) :
    Calls Try.prog 10 #[.int .i64 K, .int .i64 M, v] w fun e w' => ∃ u, e = .returned (.tuple #[u, .int .i64 0]) ∧ Tab w' u (encT K M d) ∧ Below w.heap.size w w' := by
  obtain ⟨A, C, rfl, h1, h2, _⟩ := hd.shape
  obtain ⟨b, o, rfl, _, _⟩ := hd.at (i := 0) (by omega)
  rw [hlen] at hd h1 ⊢
  have q1 : (K : Int) * 8 = ((8 * K : Nat) : Int) := by omega
  have q2 : ((8 * K : Nat) : Int) ≤ 9223372036854775807 := by omega
  refine (callsIn_wide (n := 3)).1 (callsIn_of_wp_marks Try.func10 rfl trivial ?_ rfl)
  simp only [Try.ntmps10, List.size_toArray, List.length_cons, List.length_nil, Nat.reduceAdd, Nat.reduceSub, Array.replicate_succ, Array.replicate_zero, List.push_toArray, List.append_toArray, List.nil_append, List.cons_append]
  refine wpIn_wide.2 ?_
  go_wp2_with fail
  refine (codeC K M w hK0 hK hM).mono ?_
  rintro _ w1 ⟨v1, rfl, hT1, hB1⟩
  obtain ⟨A1, C1, rfl, g1, g2, _⟩ := hT1.shape
  obtain ⟨L, hL⟩ : ∃ L, (codeT K M).length = L := ⟨_, rfl⟩
  have hT := Lib.hid hT1
  rw [hL] at hT1 g1 ⊢
  have hL' := Lib.hid hL
  rw [codeT_len] at hL
  have q3 : ¬ ((L : Int) = 0) := by omega
  go_wp2_with fail
  refine (partsC _ _ _ _).mono ?_
  rintro _ w2 ⟨rfl, rfl⟩
  go_wp2_with fail
  obtain ⟨i0, hi, hz0, hz1, hz2⟩ := info_parts infoRow
  have bO := Boxed.new w1 24 (.slice none 0 0)
  have bN := Boxed.new (w1.alloc (.cells #[.slice none 0 0] 24)) 22 (.slice (some ⟨b, o, none⟩) (8 * K) C)
  rw [World.size_alloc] at bN
  have hB0 : Below w1.heap.size w1 ((w1.alloc (.cells #[.slice none 0 0] 24)).alloc (.cells #[.slice (some ⟨b, o, none⟩) (8 * K) C] 22)) := ((Below.refl _ w1).alloc (Nat.le_refl _) _).alloc (by simp) _
  obtain ⟨W0, hW0⟩ : ∃ W0, (w1.alloc (.cells #[.slice none 0 0] 24)).alloc (.cells #[.slice (some ⟨b, o, none⟩) (8 * K) C] 22) = W0 := ⟨_, rfl⟩
  have hsz : W0.heap.size = w1.heap.size + 2 := by rw [← hW0]; simp
  have bO' := bO.alloc (.cells #[.slice (some ⟨b, o, none⟩) (8 * K) C] 22)
  rw [hW0] at bN hB0 bO' ⊢
  refine wpIn_wide.1 (wpIn_rangeFunc_ownG (n := 3) (F := Fence.wide) rfl (by omega) (gf := 28) (lb := #[.pointer (some ⟨w1.heap.size + 1, 0, none⟩)]) rfl trivial (enters_of Try.func28 (by kernel_rfl) rfl)
    (parts_stops Fence.wide (3 - 1) trivial rfl (by omega) (w1.heap.size + 1) b o C K hK h1 h2 W0 (by omega) bN.cell) Keeps.trans (fun W l o₁ o₂ hl _ _ _ => World.putObj_heap_other (by omega)) (Below.refl _ _) (fun _ => rfl)
    (fun pre W => (∃ u, Boxed W w1.heap.size 24 u ∧ W.ownsRow (w1.heap.size + 2) 22 1 u pre.length (pre.map (partV b o C))) ∧ Below w1.heap.size w1 W ∧ w1.heap.size + 2 ≤ W.heap.size)
    (fun _ _ _ => False) ?hI (fun _ _ _ _ _ hs _ _ => hs) ⟨⟨_, bO', World.ownsRow_nil _ _ _ _⟩, hB0, by omega⟩ ?a₁ ?assign ?body ?done ?stop)
  case hI =>
    intro s X Y row hs hg hr
    obtain ⟨⟨u, hu, hrow⟩, hB, hs2⟩ := hs
    exact ⟨⟨u, box_kept hu hg (fun r e => (hr r e).2), row_kept hrow hg (fun r e => (hr r e).2)⟩, hB.grown hg hB.size (fun k e => by have := (hr k e).1; omega), Nat.le_trans hs2 hg.size⟩
  case assign =>
    intro l x W K hK
    gi_wp2
    exact hK
  case body =>
    rintro l pre x W ⟨⟨u, hu, hrow⟩, hB, hs2⟩ hlt
    have hc := hu.cell
    gi_wp2_with (gi_at_builtin; refine wpListIn_append_own _ rfl _ _ 24 rfl (w1.heap.size + 2) 22 i0 (.slice none 0 0) 1 24 Try.underlying24 hi hz0 hz1 hz2 rfl (by decide) _ _ _ rfl (hrow.alloc _) ⟨W.heap.size, 0, none⟩ 1 1 [.slice (some ⟨b, o + 8 * x, none⟩) 8 (C - 8 * x)] rfl rfl (cell_one_new _ _ _) (by simp [Value.oneCell']) (by unfold maxLen; omega) (by omega) (by simp; omega) ?_; intro v' w3 hown' hgrow _; obtain ⟨g', cap', rfl⟩ := ownsRow_succ hown'; obtain ⟨hv1, hv2, hr2, hk2, hs3⟩ := appended hu (by omega) hs2 hrow hown' hgrow; have hc1 := hv1.cell; have hf1 := hv1.frozen)
    refine ⟨hk2.from _, hs3.block _ (by omega) (by simp), ⟨_, hv2, ?_⟩, hB.trans (hs3.below (by omega) (by simp)), Nat.le_trans hs2 hs3.size⟩
    rw [List.length_append, List.map_append]
    exact hr2
  case done =>
    rintro D ys W hD rfl ⟨⟨u, hu, hrow⟩, hB, hs2⟩ hK
    have hc := hu.cell
    go_wp2_with fail
    have hTW : Tab W (.slice A1 L C1) (codeT K M) := by rw [← hL']; exact hT.below hB
    refine (timesOk (codeT K M) (partsOf K d) _ _ _ hTW (rows_tab hlen ((hd.below hB1).below hB) hrow) (can_enc hK0 hlen) (by rw [codeT_len]; omega) (by rw [(fit_parts hK0 hlen).2]; omega)).mono ?_
    rintro _ w4 ⟨v4, rfl, hT4, hB4⟩
    have hK4 := (hB4.block D (by have := (Array.getElem?_eq_some_iff.1 hK).1; exact this)).trans hK
    go_wp2_with fail
    refine ⟨by simp, .inl ⟨_, _, rfl, run_takeDeferred hK4, ?_⟩⟩
    have hs1 := hB1.size
    have hs4 := hB.size
    exact ⟨_, results_tmp2 rfl _ _ _, v4, rfl, hT4.put _ hK4 rfl, below_put ((hB1.trans (hB.mono hs1)).trans (hB4.mono (Nat.le_trans hs1 hs4))) _ (Nat.le_refl _) (by omega)⟩
  case stop =>
    rintro D c pre W _ _ h _
    exact h.elim
set_option maxHeartbeats 1000000 in
theorem refEncode (K M : Nat) (d : List Nat) (v : Value) (w : World) (hd : Bytes w v d) (hK0 : 1 ≤ K) (hK : K ≤ 4) (hM : M ≤ 3) (hlen : d.length = 8 * K) :
    Calls Try.prog 12 #[.int .i64 K, .int .i64 M, v] w fun e w' => ∃ u, e = .returned u ∧ Tab w' u (encT K M d) ∧ Below w.heap.size w w' := by
  obtain ⟨A, C, rfl, h1, h2, _⟩ := hd.shape
  obtain ⟨b, o, rfl, _, _⟩ := hd.at (i := 0) (by omega)
  rw [hlen] at hd h1 ⊢
  go_enter Try.func12, Try.ntmps12
  go_wp2_with fail
  go_loopw [7, 8] (fun u c wr => ∃ k : Nat, k ≤ K ∧ c = .int .i64 (k : Nat) ∧ Built (fun _ c (y : Value) => c = y) wr w.heap.size 22 u ((List.range k).map (partV b o C)) ∧ Below w.heap.size w wr) (fun _ c _ => K - (intOf c).toNat)
  case atStart => exact ⟨0, Nat.zero_le _, rfl, Built.start _ _ _, Below.refl _ _⟩
  case round =>
    obtain ⟨k, hk, rfl, hbu, hbr⟩ := hrel
    by_cases hlt : k < K
    · have HB := Lib.hid hbu
      have HS := Lib.hid hbr.size
      have q1 : (8 * (k : Int)).toNat = 8 * k := by omega
      have q2 : (8 * (k : Int) + 8).toNat = 8 * k + 8 := by omega
      have q3 : 8 * k + 8 ≤ C := by omega
      have q4 : 8 * (k : Int) + 8 ≤ (C : Int) := by omega
      have q5 : 8 * k + 8 - 8 * k = 8 := by omega
      go_wp2_with (at_builtin; refine wpList_append_built (R := fun _ c (y : Value) => c = y) _ rfl (.tmp 14) (.tmp 22) 24 rfl w.heap.size 22 (.slice none 0 0) 24 Try.underlying24 infoRow rfl _ _ rfl HB.out _ (partV b o C k) _ rfl rfl rfl (fun _ _ => rfl) (by simp; omega) HS.out ?_; intro v' w' hbu' hg' hb')
      go_roundw
      case rel => exact ⟨k + 1, by omega, by go_num, by rw [List.range_succ, List.map_append]; exact hbu', hbr.trans hb'⟩
      case measure => simp [intOf]; omega
    · obtain rfl : k = K := by omega
      have HT := Lib.hid (show Tab wr _ (partsOf k d) from slice_of_built hbu (by simp [partsOf_len]) (part_bytes hlen (hd.below hbr)))
      go_wp2_with fail
      refine (refCode k M wr hK0 hK hM).mono ?_
      rintro _ w1 ⟨v1, rfl, hT1, hB1⟩
      have HT1 := Lib.hid hT1
      clear hT1
      have HB1 := Lib.hid hB1
      clear hB1
      go_wp2_with fail
      refine (refTimes (codeT k M) (partsOf k d) _ _ _ HT1.out (HT.out.below HB1.out) (can_enc hK0 hlen) (by rw [codeT_len]; omega) (by rw [(fit_parts hK0 hlen).2]; omega)).mono ?_
      rintro _ w4 ⟨v4, rfl, hT4, hB4⟩
      go_wp2_with fail
      go_ret
      exact ⟨_, rfl, hT4, (hbr.trans (HB1.out.mono hbr.size)).trans (hB4.mono (Nat.le_trans hbr.size HB1.out.size))⟩
/-- what is none: no code, or data of another length -/
def NoEnc (k m : Int) (n : Nat) : Prop := NoCode k m ∨ ¬ ((n : Int) = 8 * k)
set_option maxHeartbeats 1000000 in
theorem encodeNo (k m : Int) (d : List Nat) (v : Value) (w : World) (hd : Bytes w v d) (h : NoEnc k m d.length) :
    Calls Try.prog 10 #[.int .i64 k, .int .i64 m, v] w fun e w' => e = .returned (.tuple #[.slice none 0 0, .int .i64 1]) ∧ Below w.heap.size w w' := by
  obtain ⟨A, C, rfl, h1, h2, _⟩ := hd.shape
  by_cases hno : NoCode k m
  · have HN := Lib.hid hno
    clear h hno
    go_enter Try.func10, Try.ntmps10
    go_wp2_with fail
    refine (codeNo k m w HN.out).mono ?_
    rintro _ w1 ⟨rfl, rfl⟩
    go_wp2_with fail
    go_ret2
    exact ⟨rfl, Below.refl _ _⟩
  · have hne : ¬ ((d.length : Int) = 8 * k) := by rcases h with h | h; exact absurd h hno; exact h
    clear h
    unfold NoCode at hno
    obtain ⟨K, rfl⟩ := Int.eq_ofNat_of_zero_le (show 0 ≤ k by omega)
    obtain ⟨M, rfl⟩ := Int.eq_ofNat_of_zero_le (show 0 ≤ m by omega)
    have hK0 : 1 ≤ K := by omega
    have hK : K ≤ 4 := by omega
    have hM : M ≤ 3 := by omega
    clear hno
    obtain ⟨D, hD⟩ : ∃ D, d.length = D := ⟨_, rfl⟩
    rw [hD] at h1 hne ⊢
    go_enter Try.func10, Try.ntmps10
    go_wp2_with fail
    refine (codeC K M w hK0 hK hM).mono ?_
    rintro _ w1 ⟨v1, rfl, hT1, hB1⟩
    obtain ⟨A1, C1, rfl, g1, g2, _⟩ := hT1.shape
    obtain ⟨L, hL⟩ : ∃ L, (codeT K M).length = L := ⟨_, rfl⟩
    clear hT1
    rw [hL] at g1 ⊢
    rw [codeT_len] at hL
    have q3 : ¬ ((L : Int) = 0) := by omega
    have q4 : ((D : Int) != 8 * (K : Int)) = true := by simpa using hne
    have q5 : ((L : Int) == 0) = false := by simpa using q3
    go_wp2_with fail
    go_ret2
    exact ⟨rfl, hB1⟩
end Go.Proofs.Ytmcodfjaeaociaa.Rs
