/- rs.Decode: its loop -/
import Derived.Test.YtmcodfjaeaociaaRsDec
import Derived.Test.YtmcodfjaeaociaaRsPair
import Derived.Test.YtmcodfjaeaociaaRsMath
namespace Go.Proofs.Ytmcodfjaeaociaa.Rs
open Go.RowKit Go.Shelf
open Go.Mem Mat
attribute [local go_sem] Oper.semAt_some
theorem rightAll_len {S : List (List Nat)} (h : rightAll S = true) (i : Nat) (hi : 0 < (S.getD i []).length) : (S.getD i []).length = 8 := by
  unfold rightAll at h
  rw [List.all_eq_true] at h
  by_cases hlt : i < S.length
  · have h1 := h (S.getD i []) (by rw [List.getD_eq_getElem?_getD, List.getElem?_eq_getElem hlt]; exact List.getElem_mem hlt)
    unfold rightB at h1
    rw [Bool.or_eq_true, decide_eq_true_eq, decide_eq_true_eq] at h1
    omega
  · rw [List.getD_eq_getElem?_getD, List.getElem?_eq_none (by omega)] at hi
    simp at hi
/-- a table's rows, as values -/
theorem Tab.values {w : World} {A : Option Addr} {n C : Nat} {M : List (List Nat)} (h : Tab w (.slice A n C) M) : ∃ (gA : Nat → Option Addr) (gC : Nat → Nat), ∀ i, i < M.length → ∃ b o, A = some ⟨b, o, none⟩ ∧ b < w.heap.size ∧ w.cell? ⟨b, o + i, none⟩ = some (.slice (gA i) (shardLen M i) (gC i)) ∧ shardLen M i ≤ 9223372036854775807 ∧ Bytes w (.slice (gA i) (shardLen M i) (gC i)) (M.getD i []) := by
  have each : ∀ i, i < M.length → ∃ g : Option Addr × Nat, ∃ b o, A = some ⟨b, o, none⟩ ∧ b < w.heap.size ∧ w.cell? ⟨b, o + i, none⟩ = some (.slice g.1 (shardLen M i) g.2) ∧ shardLen M i ≤ 9223372036854775807 ∧ Bytes w (.slice g.1 (shardLen M i) g.2) (M.getD i []) := by
    intro i hi
    obtain ⟨b, o, A', C', e, hc, hl, hb⟩ := h.at hi
    have hg : M.getD i [] = M[i] := by simp [hi]
    unfold shardLen
    rw [hg]
    exact ⟨⟨A', C'⟩, b, o, e, World.block_lt_of_cell? _ _ hc, hc, hl, hb⟩
  obtain ⟨f, hf⟩ : ∃ f : Nat → Option Addr × Nat, ∀ i, i < M.length → ∃ b o, A = some ⟨b, o, none⟩ ∧ b < w.heap.size ∧ w.cell? ⟨b, o + i, none⟩ = some (.slice (f i).1 (shardLen M i) (f i).2) ∧ shardLen M i ≤ 9223372036854775807 ∧ Bytes w (.slice (f i).1 (shardLen M i) (f i).2) (M.getD i []) := by
    refine ⟨fun i => if hi : i < M.length then Classical.choose (each i hi) else (none, 0), fun i hi => ?_⟩
    simp only [dif_pos hi]
    exact Classical.choose_spec (each i hi)
  exact ⟨fun i => (f i).1, fun i => (f i).2, hf⟩
/-- what Decode answers -/
def DecPost (K M : Nat) (S : List (List Nat)) (e : Ending) (w' : World) : Prop :=
  ((idx S S.length).length < K ∧ e = .returned (.tuple #[.slice none 0 0, .int .i64 8])) ∨
  (K ≤ (idx S S.length).length ∧ ∃ u B, e = .returned (.tuple #[u, .int .i64 0]) ∧ Undoes (rowsAt (codeT K M) (firstK S K)) B K ∧ Bytes w' u (catTo (times B (rowsAt S (firstK S K))) K))
/-- the shards at some places, in a row that the call owns -/
theorem places_tab {T : List (List Nat)} {S : List (List Nat)} {W : World} {n : Nat} {u : Value} {A : Place S → Option Addr} {B C : Place S → Nat} {q : List (Place S)} (h : W.ownsRow n 22 1 u (q.map fun x => Value.slice (A x) (B x) (C x)).length (q.map fun x => Value.slice (A x) (B x) (C x)))
    (hb : ∀ x : Place S, Bytes W (.slice (A x) (B x) (C x)) (T.getD x.1 [])) : Tab W u (rowsAt T (q.map (·.1))) := by
  refine slice_of_row h (by simp [rowsAt]) fun i hi => ?_
  have hi' : i < q.length := by simpa [rowsAt] using hi
  exact ⟨.slice (A q[i]) (B q[i]) (C q[i]), by simp [hi'], by simpa [rowsAt] using hb q[i]⟩
set_option maxRecDepth 100000 in
set_option maxHeartbeats 1500000 in
theorem decodeYes (K M : Nat) (S : List (List Nat)) (v : Value) (w : World) (hS : Tab w v S) (hK0 : 1 ≤ K) (hK : K ≤ 4) (hM : M ≤ 3) (hlen : S.length = K + M) (hra : rightAll S = true) :
    Calls Try.prog 13 #[.int .i64 K, .int .i64 M, v] w fun e w' => Below w.heap.size w w' ∧ DecPost K M S e w' := by
  obtain ⟨A, C, rfl, h1, h2, _⟩ := hS.shape
  obtain ⟨gA, gC, hfS⟩ := Tab.values hS
  have hcl : (codeT K M).length = K + M := codeT_len K M
  refine (callsIn_wide (n := 3)).1 (callsIn_of_wp_marks Try.func13 rfl trivial ?_ rfl)
  simp only [Try.ntmps13, List.size_toArray, List.length_cons, List.length_nil, Nat.reduceAdd, Nat.reduceSub, Array.replicate_succ, Array.replicate_zero, List.push_toArray, List.append_toArray, List.nil_append, List.cons_append]
  refine wpIn_wide.2 ?_
  rw [hlen] at h1 ⊢
  have bK := Boxed.new w 3 (.int .i64 K)
  have hB00 : Below w.heap.size w (w.alloc (.cells #[.int .i64 K] 3)) := (Below.refl _ w).alloc (Nat.le_refl _) _
  obtain ⟨wk, hwk⟩ : ∃ wk, w.alloc (.cells #[.int .i64 K] 3) = wk := ⟨_, rfl⟩
  have hszk : wk.heap.size = w.heap.size + 1 := by rw [← hwk]; simp
  rw [hwk] at bK hB00
  have hcK := bK.cell
  go_wp2_with fail
  refine (codeC K M wk hK0 hK hM).mono ?_
  rintro _ w1 ⟨v1, rfl, hT1, hB1⟩
  obtain ⟨A1, C1, rfl, g1, g2, _⟩ := hT1.shape
  have hT := Lib.hid hT1
  clear hT1
  rw [hcl] at g1 ⊢
  clear hcK
  have q3 : ¬ (((K + M : Nat) : Int) = 0) := by omega
  have q3' : ¬ ((K : Int) + (M : Int) = 0) := by omega
  go_wp2_with fail
  have hBa : Below w.heap.size w (w1.alloc (.cells #[.slice A1 (K + M) C1] 24)) := (hB00.trans (hB1.mono hB00.size)).alloc (by have := hB00.size; have := hB1.size; omega) _
  refine (wrongAnyC S _ _ (by have h := hS.below hBa; rwa [hlen] at h)).mono ?_
  rw [hra]
  rintro _ w2 ⟨rfl, rfl⟩
  go_wp2_with fail
  refine (thereC _ _ _ _).mono ?_
  rintro _ w2 ⟨rfl, rfl⟩
  go_wp2_with fail
  obtain ⟨p, hp⟩ : ∃ p, w1.heap.size = p := ⟨_, rfl⟩
  have b8 := Boxed.new w1 24 (.slice A1 (K + M) C1)
  obtain ⟨w8, hw8⟩ : ∃ w8, w1.alloc (.cells #[.slice A1 (K + M) C1] 24) = w8 := ⟨_, rfl⟩
  have hs8 : w8.heap.size = p + 1 := by rw [← hw8, ← hp]; simp
  have hBk : Below wk.heap.size wk w8 := by rw [← hw8]; exact hB1.alloc hB1.size _
  have hT8 : Tab w8 (.slice A1 (codeT K M).length C1) (codeT K M) := hT.out.below (by rw [← hw8]; exact (Below.refl _ w1).alloc (Nat.le_refl _) _)
  rw [hw8] at b8 hBa ⊢
  rw [hp] at b8 ⊢
  have b10 := Boxed.new w8 24 (.slice none 0 0)
  have b11 := Boxed.new (w8.alloc (.cells #[.slice none 0 0] 24)) 24 (.slice none 0 0)
  have bS := Boxed.new ((w8.alloc (.cells #[.slice none 0 0] 24)).alloc (.cells #[.slice none 0 0] 24)) 24 (.slice A (K + M) C)
  rw [hs8] at b10
  rw [World.size_alloc, hs8] at b11
  rw [World.size_alloc, World.size_alloc, hs8] at bS
  obtain ⟨W0, hW0⟩ : ∃ W0, ((w8.alloc (.cells #[.slice none 0 0] 24)).alloc (.cells #[.slice none 0 0] 24)).alloc (.cells #[.slice A (K + M) C] 24) = W0 := ⟨_, rfl⟩
  have hs0 : W0.heap.size = p + 4 := by rw [← hW0]; simp; omega
  have hB0 : Below w8.heap.size w8 W0 := by rw [← hW0]; exact (((Below.refl _ w8).alloc (Nat.le_refl _) _).alloc (by simp) _).alloc (by simp; omega) _
  have b10' := (b10.alloc (.cells #[.slice none 0 0] 24)).alloc (.cells #[.slice A (K + M) C] 24)
  have b11' := b11.alloc (.cells #[.slice A (K + M) C] 24)
  rw [hW0] at bS b10' b11' ⊢
  clear b10 b11 hW0 hw8
  have hsw : w.heap.size + 1 ≤ p := by have := hB1.size; omega
  have hcK : w8.cell? ⟨w.heap.size, 0, none⟩ = some (.int .i64 K) := (hBk.cell (p := ⟨w.heap.size, 0, none⟩) (by show w.heap.size < wk.heap.size; omega)).trans bK.cell
  obtain ⟨hA, hC, hfT⟩ := Tab.values hT8
  have hTA := Lib.hid hfT
  have hSA := Lib.hid hfS
  clear hfT hfS
  have hpl0 := places_val S S.length (Nat.le_refl _)
  have hBS : ∀ W, Below (p + 1) w8 W → ∀ x : Place S, Bytes W (.slice (gA x.1) (shardLen S x.1) (gC x.1)) (S.getD x.1 []) := fun W hB x => by
    obtain ⟨b, o, e1, e2, e3, e4, e5⟩ := hSA.out x.1 x.2.1
    exact e5.below (hBa.trans (hB.mono (by omega)))
  have hBT : ∀ W, Below (p + 1) w8 W → ∀ x : Place S, Bytes W (.slice (hA x.1) K (hC x.1)) ((codeT K M).getD x.1 []) := fun W hB x => by
    have hxS : x.1 < K + M := by have := x.2.1; omega
    obtain ⟨b, o, e1, e2, e3, e4, e5⟩ := hTA.out x.1 (by rw [hcl]; exact hxS)
    have hKx : shardLen (codeT K M) x.1 = K := codeT_rows _ (by rw [List.getD_eq_getElem?_getD, List.getElem?_eq_getElem (by rw [hcl]; exact hxS)]; exact List.getElem_mem _)
    rw [hKx] at e5
    exact e5.below (hs8 ▸ hB)
  refine wpIn_wide.1 (wpIn_rangeFunc_ownG (n := 3) (F := Fence.wide) rfl (by omega) (gf := 35) (lb := #[.pointer (some ⟨p + 1 + 1 + 1, 0, none⟩)]) rfl trivial (enters_of Try.func35 (by kernel_rfl) rfl)
    (there_stops Fence.wide (3 - 1) trivial rfl (by omega) (p + 1 + 1 + 1) (p + 1) A C S gA gC (by omega) W0 (by omega) (by omega) (by rw [hlen]; exact bS.cell) ?hc) belowK_t (belowK_b (by omega)) (Below.refl _ _) (fun _ => rfl)
    (fun pre W => Two (p + 4) (p + 1) (p + 1 + 1) 24 22 (pre.map fun x => .slice (hA x.1) K (hC x.1)) (pre.map fun x => .slice (gA x.1) (shardLen S x.1) (gC x.1)) W ∧ pre.length ≤ K ∧ Below (p + 1) w8 W ∧ p + 4 ≤ W.heap.size)
    (fun c ps W => c = .exit 0 ∧ ∃ q x, ps = q ++ [x] ∧ q.length = K ∧ Two (p + 4) (p + 1) (p + 1 + 1) 24 22 (q.map fun x => .slice (hA x.1) K (hC x.1)) (q.map fun x => .slice (gA x.1) (shardLen S x.1) (gC x.1)) W ∧ Below (p + 1) w8 W ∧ p + 4 ≤ W.heap.size)
    ?hI ?hIx ⟨⟨_, _, b10', b11', World.ownsRow_nil _ _ _ _, World.ownsRow_nil _ _ _ _, .inl rfl⟩, Nat.zero_le _, hs8 ▸ hB0, by omega⟩ ?a₁ ?assign ?body ?done ?stop)
  case hc =>
    intro i hi
    obtain ⟨b, o, e1, e2, e3, e4, _⟩ := hSA.out i hi
    exact ⟨b, o, e1, by omega, ((hBa.trans (hB0.mono (by omega))).cell (p := ⟨b, o + i, none⟩) e2).trans e3, e4⟩
  case hI =>
    intro s X Y row hs hg hr
    obtain ⟨h3, h4, h5, h6⟩ := hs
    exact ⟨h3.kept hg (fun r e => (hr r e).2), h4, h5.grown hg (by have := h5.size; omega) (fun k e => by have := (hr k e).1; omega), Nat.le_trans h6 hg.size⟩
  case hIx =>
    intro c s X Y row hs hg hr
    obtain ⟨h1, p, x, h2, h3, h4, h5, h6⟩ := hs
    exact ⟨h1, p, x, h2, h3, h4.kept hg (fun r e => (hr r e).2), h5.grown hg (by have := h5.size; omega) (fun k e => by have := (hr k e).1; omega), Nat.le_trans h6 hg.size⟩
  case assign =>
    intro l x W K hK
    gi_wp2
    exact hK
  case body =>
    rintro l pre x W ⟨htwo, hpl, hB, hs2⟩ hlt
    obtain ⟨u10, u11, q10, q11, r10, r11, hdis⟩ := htwo
    have c10 := q10.cell
    have c11 := q11.cell
    have cK : W.cell? ⟨w.heap.size, 0, none⟩ = some (.int .i64 K) := (hB.cell (p := ⟨w.heap.size, 0, none⟩) (by show w.heap.size < p + 1; omega)).trans hcK
    have r11' := r11
    rw [List.length_map] at r11'
    obtain ⟨A11, C11, rfl⟩ := row_shape r11'
    have e2 : ((x.1 : Nat) : Int) < (K : Int) + (M : Int) := by have := x.2.1; omega
    have hxS : x.1 < K + M := by have := x.2.1; omega
    obtain ⟨cb, co, rfl, hcb, hcx, _, _⟩ := hTA.out x.1 (by rw [hcl]; exact hxS)
    have hKx : shardLen (codeT K M) x.1 = K := codeT_rows _ (by rw [List.getD_eq_getElem?_getD, List.getElem?_eq_getElem (by rw [hcl]; exact hxS)]; exact List.getElem_mem _)
    rw [hKx] at hcx
    rw [hs8] at hcb
    have c8 : W.cell? ⟨p, 0, none⟩ = some (.slice (some ⟨cb, co, none⟩) (K + M) C1) := (hB.cell (p := ⟨p, 0, none⟩) (by show p < p + 1; omega)).trans b8.cell
    have cX : W.cell? ⟨cb, co + x.1, none⟩ = some (.slice (hA x.1) K (hC x.1)) := (hB.cell (p := ⟨cb, co + x.1, none⟩) hcb).trans hcx
    by_cases hfull : pre.length = K
    · have e1 : ((pre.length : Nat) : Int) = (K : Int) := by omega
      gi_wp2
      exact ⟨KeepsFrom.refl _ _, rfl, pre, x, rfl, hfull, ⟨u10, _, q10, q11, r10, r11, hdis⟩, hB, hs2⟩
    · have e1 : ¬ (((pre.length : Nat) : Int) = (K : Int)) := by omega
      have hD0 : Duo (p + 4) (p + 1) (p + 1 + 1) 24 22 W.drew u10 _ W.drew u10 _ _ _ [] := ⟨q10, q11, r10, r11, hdis, Sole.refl _ _ _, KeepsOthers.refl _, fun _ h => by cases h⟩
      have hkey : ∀ w', Sole (p + 4) [] W.drew w' → w'.cell? ⟨p + 1, 0, none⟩ = some u10 ∧ w'.cell? ⟨p, 0, none⟩ = some (.slice (some ⟨cb, co, none⟩) (K + M) C1) ∧ w'.cell? ⟨cb, co + x.1, none⟩ = some (.slice (hA x.1) K (hC x.1)) := fun w' h =>
        ⟨(World.cell?_of_block (w := W.drew) (a := ⟨p + 1, 0, none⟩) (h.block (p + 1) (by omega) (by simp))).trans c10, (World.cell?_of_block (w := W.drew) (a := ⟨p, 0, none⟩) (h.block p (by omega) (by simp))).trans c8, (World.cell?_of_block (w := W.drew) (a := ⟨cb, co + x.1, none⟩) (h.block cb (by omega) (by simp))).trans cX⟩
      gi_wp2
      refine wpIn_round_any (by kernel_rfl) (by rintro ⟨_, _, h⟩; exact h) (by kernel_rfl) (wpAny_of_U (Us := TwoHeld (p + 4) (p + 1 + 1) 11 12 W.drew (.slice A11 pre.length C11)) _ _ _ _ ?_)
      have hUs : ∀ L, HeldBy (TwoHeld (p + 4) (p + 1 + 1) 11 12 W.drew (.slice A11 pre.length C11)) L W.drew := hD0.held
      have hne : ∀ i, i ≠ 11 → i ≠ 12 → ∀ q ∈ TwoHeld (p + 4) (p + 1 + 1) 11 12 W.drew (.slice A11 pre.length C11), q.1 ≠ i := by
        intro i h1 h2 q hq
        rcases List.mem_cons.1 hq with rfl | hq
        · exact h1.symm
        · rcases List.mem_cons.1 hq with rfl | hq
          · exact h2.symm
          · cases hq
      refine wpAnyU_take 11 (Sole (p + 4) [] W.drew) (i := 0) (v := u10) (List.mem_cons_self ..) rfl (by kernel_rfl) (by kernel_rfl) (by kernel_rfl) (by kernel_rfl) (hne 0 (by omega) (by omega)) (by kernel_rfl) (fun _ _ _ h => h) (.inl ⟨by kernel_rfl, fun w' hw' => by obtain ⟨k1, k2, k3⟩ := hkey w' hw'; go_simp⟩) (hUs _) ?_
      refine wpAnyU_take 11 (Sole (p + 4) [] W.drew) (i := 1) (v := .slice (some ⟨cb, co, none⟩) (K + M) C1) (List.mem_cons_self ..) rfl (by kernel_rfl) (by kernel_rfl) (by kernel_rfl) (by kernel_rfl) (hne 1 (by omega) (by omega)) (by kernel_rfl) (fun _ _ _ h => h) (.inl ⟨by kernel_rfl, fun w' hw' => by obtain ⟨k1, k2, k3⟩ := hkey w' hw'; go_simp⟩) (hUs _) ?_
      refine wpAnyU_take 11 (Sole (p + 4) [] W.drew) (i := 2) (v := .int .i64 ((x.1 : Nat) : Int)) (List.mem_cons_self ..) rfl (by kernel_rfl) (by kernel_rfl) (by kernel_rfl) (by kernel_rfl) (hne 2 (by omega) (by omega)) (by kernel_rfl) (fun _ _ _ h => h) (.inl ⟨by kernel_rfl, fun w' hw' => by go_simp⟩) (hUs _) ?_
      refine wpAnyU_take 11 (Sole (p + 4) [] W.drew) (i := 3) (v := .pointer (some ⟨cb, co + x.1, none⟩)) (List.mem_cons_self ..) rfl (by kernel_rfl) (by kernel_rfl) (by kernel_rfl) (by kernel_rfl) (hne 3 (by omega) (by omega)) (by kernel_rfl) (fun _ _ _ h => h) (.inl ⟨by kernel_rfl, fun w' hw' => by go_simp⟩) (hUs _) ?_
      refine wpAnyU_take 11 (Sole (p + 4) [] W.drew) (i := 4) (v := .slice (hA x.1) K (hC x.1)) (List.mem_cons_self ..) rfl (by kernel_rfl) (by kernel_rfl) (by kernel_rfl) (by kernel_rfl) (hne 4 (by omega) (by omega)) (by kernel_rfl) (fun _ _ _ h => h) (.inl ⟨by kernel_rfl, fun w' hw' => by obtain ⟨k1, k2, k3⟩ := hkey w' hw'; go_simp⟩) (hUs _) ?_
      refine wpAnyU_take 12 (fun w' => w'.cell? ⟨p + 1 + 1, 0, none⟩ = some (.slice A11 pre.length C11)) (i := 7) (v := .slice A11 pre.length C11) (List.mem_cons_of_mem _ (List.mem_cons_self ..)) rfl (by kernel_rfl) (by kernel_rfl) (by kernel_rfl) (by kernel_rfl) (hne 7 (by omega) (by omega)) (by kernel_rfl) (fun _ _ _ h => h) (.inl ⟨by kernel_rfl, fun w' hw' => by have k1 : w'.cell? ⟨p + 1 + 1, 0, none⟩ = some (.slice A11 pre.length C11) := hw'; go_simp⟩) (hUs _) ?_
      refine wpAnyU_take 12 (fun w' => w'.cell? ⟨p + 1 + 1, 0, none⟩ = some (.slice A11 pre.length C11)) (i := 8) (v := .slice (gA x.1) (shardLen S x.1) (gC x.1)) (List.mem_cons_of_mem _ (List.mem_cons_self ..)) rfl (by kernel_rfl) (by kernel_rfl) (by kernel_rfl) (by kernel_rfl) (hne 8 (by omega) (by omega)) (by kernel_rfl) (fun _ _ _ h => h) (.inl ⟨by kernel_rfl, fun w' hw' => by go_simp⟩) (hUs _) ?_
      refine grow_pair (c1 := .slice (hA x.1) K (hC x.1)) (c2 := .slice (gA x.1) (shardLen S x.1) (gC x.1)) ?hp (by omega) (by omega) (by omega) hs2 rfl rfl (by rw [List.length_map]; omega) (by rw [List.length_map]; omega) hD0 ?hr ?hs (by kernel_rfl) (by kernel_rfl) (by kernel_rfl) (by kernel_rfl) (by kernel_rfl) (by kernel_rfl) ⟨by kernel_rfl, by kernel_rfl, by kernel_rfl, by kernel_rfl⟩ ⟨by kernel_rfl, by kernel_rfl, by kernel_rfl, by kernel_rfl⟩ ⟨by kernel_rfl, by kernel_rfl, by kernel_rfl, by kernel_rfl⟩ ?hfin
      case hp =>
        refine ⟨⟨_, rfl, rfl, rfl, fun ρ w' h => ?_⟩, ⟨_, rfl, rfl, rfl, rfl⟩, ⟨_, rfl, rfl, rfl, fun ρ w' h => ?_⟩, ⟨_, rfl, rfl, rfl, rfl⟩, ⟨_, rfl, rfl, rfl, fun ρ w' u A' n' C' h1 h2 h3 h4 => ?_⟩, ⟨_, rfl, rfl, rfl, fun ρ w' u A' n' C' h1 h2 h3 h4 => ?_⟩⟩
        all_goals go_simp
      case hr =>
        intro q hq
        simp only [List.mem_cons, List.not_mem_nil, or_false] at hq
        rcases hq with rfl | rfl | rfl | rfl | rfl | rfl <;> kernel_rfl
      case hs => simp only [put_size]; exact Nat.le_of_ble_eq_true (by kernel_rfl)
      case hfin =>
        intro a w' t1 t2 t3
        have hb : Below (p + 1) W w' := by
          have := t2.below (m := p + 1) (by omega) (by simp)
          exact ⟨this.os, this.tape, this.output, this.size, this.block⟩
        have hk : KeepsOthers W w' := (KeepsOthers.drew W).trans t3
        exact ⟨hk.from _, hb, by rw [List.map_append, List.map_append]; exact t1, by simp; omega, hB.trans hb, Nat.le_trans hs2 t2.size⟩
  case done =>
    rintro D _ W hD rfl ⟨htwo, hpl, hB, hs2⟩ hK'
    obtain ⟨ys, hys⟩ : ∃ ys, places S S.length (Nat.le_refl _) = ys := ⟨_, rfl⟩
    rw [hys] at htwo hpl hpl0
    by_cases hfew : ys.length < K
    · have e1 : ((ys.length : Nat) : Int) < (K : Int) := by omega
      obtain ⟨u10, u11, q10, q11, r10, r11, hdis⟩ := htwo
      have HTR := Lib.hid (places_tab r10 (hBT W hB))
      have HTS := Lib.hid (places_tab r11 (hBS W hB))
      have r11' := r11
      rw [List.length_map] at r11'
      obtain ⟨A11, C11, rfl⟩ := row_shape r11'
      have c10 := q10.cell
      have c11 := q11.cell
      have cK : W.cell? ⟨w.heap.size, 0, none⟩ = some (.int .i64 K) := (hB.cell (p := ⟨w.heap.size, 0, none⟩) (by show w.heap.size < p + 1; omega)).trans hcK
      go_wp2_with fail
      refine ⟨by simp, .inl ⟨_, _, rfl, run_takeDeferred hK', ?_⟩⟩
      have hh := hBa.trans (hB.mono (by omega))
      exact ⟨_, results_tmp2 rfl _ _ _, below_put hh _ (Nat.le_refl _) (by omega), .inl ⟨by rw [← hpl0, List.length_map]; exact hfew, rfl⟩⟩
    · have e1 : ¬ (((ys.length : Nat) : Int) < (K : Int)) := by omega
      have HLE := Lib.hid (show K ≤ (idx S S.length).length by rw [← hpl0, List.length_map]; omega)
      have HQ := Lib.hid (show ys.map (·.1) = firstK S K by unfold firstK; rw [← hpl0]; exact (List.take_of_length_le (by rw [List.length_map]; omega)).symm)
      obtain ⟨u10, u11, q10, q11, r10, r11, hdis⟩ := htwo
      have HTR := Lib.hid (places_tab r10 (hBT W hB))
      have HTS := Lib.hid (places_tab r11 (hBS W hB))
      have r11' := r11
      rw [List.length_map] at r11'
      obtain ⟨A11, C11, rfl⟩ := row_shape r11'
      have c10 := q10.cell
      have c11 := q11.cell
      have cK : W.cell? ⟨w.heap.size, 0, none⟩ = some (.int .i64 K) := (hB.cell (p := ⟨w.heap.size, 0, none⟩) (by show w.heap.size < p + 1; omega)).trans hcK
      have hRm := first_subs (T := codeT K M) (S := S) (K := K) (by omega) HLE.out
      have hdet := code_det hK0 hK hM hRm
      have hRl : (rowsAt (codeT K M) (firstK S K)).length = K := by unfold rowsAt; rw [List.length_map]; exact first_len HLE.out
      have hRr : ∀ r ∈ rowsAt (codeT K M) (firstK S K), r.length = K := fun r hr => codeT_rows r (subs_mem hRm r hr)
      have HF := Lib.hid (fit_of (by omega) hRr)
      have HTR' := Lib.hid (show Tab W u10 (rowsAt (codeT K M) (firstK S K)) by have := HTR.out; rw [HQ.out] at this; exact this)
      have HTS' := Lib.hid (show Tab W (.slice A11 ys.length C11) (rowsAt S (firstK S K)) by have := HTS.out; rw [HQ.out] at this; exact this)
      have HBY := Lib.hid (Tab_bd HTR'.out)
      have HLR := Lib.hid (show (rowsAt (codeT K M) (firstK S K)).length ≤ 7 by omega)
      have HD := Lib.hid hdet
      have HRR := Lib.hid hRr
      have HRL := Lib.hid hRl
      clear hRm hdet hRr hRl
      go_wp2_with fail
      refine (invertGo _ _ _ HTR'.out HF.out.1 (HF.out.2.trans HRL.out.symm) HLR.out).mono ?_
      rintro e w2 ⟨hb2, hp2⟩
      rcases hp2 with ⟨_, qq, F, hqq, hRe, hz⟩ | ⟨v2, F, rfl, hRe, ht2⟩
      · exact absurd (inv_stuck HBY.out (fun r hr => by rw [show (rowsAt (codeT K M) (firstK S K)).getD r [] = (rowsAt (codeT K M) (firstK S K))[r] by simp [hr]]; rw [HRL.out]; exact HRR.out _ (List.getElem_mem hr)) hqq hRe hz) HD.out
      · have HU := Lib.hid (undoes (by omega) HRL.out HRR.out HBY.out hRe)
        obtain ⟨BB, hBB⟩ : ∃ BB, tabOf (rowsAt (codeT K M) (firstK S K)).length (rowsAt (codeT K M) (firstK S K)).length (fun j i => F j ((rowsAt (codeT K M) (firstK S K)).length + i)) = BB := ⟨_, rfl⟩
        rw [hBB] at ht2 HU
        clear hBB hRe
        have HTB := Lib.hid ht2
        clear ht2
        have hK2 := (hb2.block D (Array.getElem?_eq_some_iff.1 hK').1).trans hK'
        have HSr := Lib.hid (show ∀ r ∈ rowsAt S (firstK S K), r.length = 8 from fun r hr => by
          obtain ⟨i, hi, rfl⟩ := List.mem_map.1 hr
          exact rightAll_len hra i (first_mem hi).2)
        have HSl := Lib.hid (show (rowsAt S (firstK S K)).length = K by unfold rowsAt; rw [List.length_map]; exact first_len HLE.out)
        have HSf := Lib.hid (fit_of (by rw [HSl.out]; omega) HSr.out)
        have HBf := Lib.hid (fit_of (by rw [HU.out.len]; omega) HU.out.rows)
        have c11' : w2.cell? ⟨p + 1 + 1, 0, none⟩ = some (.slice A11 ys.length C11) := below_cell hb2 _ _ c11
        go_wp2_with fail
        refine (timesOk BB (rowsAt S (firstK S K)) _ _ _ HTB.out (HTS'.out.below hb2) (can_intro HBf.out.1 HSf.out.1 (HBf.out.2.trans HSl.out.symm)) (by rw [HU.out.len]; omega) (by rw [HSf.out.2]; omega)).mono ?_
        rintro _ w3 ⟨v3, rfl, ht3, hb3⟩
        have HT3 := Lib.hid ht3
        clear ht3
        have hK3 := (hb3.block D (Array.getElem?_eq_some_iff.1 hK2).1).trans hK2
        have HL3 := Lib.hid (show (times BB (rowsAt S (firstK S K))).length = K by rw [times_len, HU.out.len])
        go_wp2_with fail
        refine (concatC (times BB (rowsAt S (firstK S K))) _ _ HT3.out (by rw [lens_rows (c := 8) _ (Nat.le_refl _) (fun r hr => (times_rows r hr).trans HSf.out.2), HL3.out]; omega)).mono ?_
        rintro _ w4 ⟨v4, rfl, hbu, hb4⟩
        have hK4 := (hb4.block D (Array.getElem?_eq_some_iff.1 hK3).1).trans hK3
        have HB4 := Lib.hid hbu.slice
        clear hbu
        go_wp2_with fail
        refine ⟨by simp, .inl ⟨_, _, rfl, run_takeDeferred hK4, ?_⟩⟩
        have hh1 := hBa.trans (hB.mono (by omega))
        have hh2 := hh1.trans (hb2.mono hh1.size)
        have hh3 := hh2.trans (hb3.mono hh2.size)
        have hh4 := hh3.trans (hb4.mono hh3.size)
        exact ⟨_, results_tmp2 rfl _ _ _, below_put hh4 _ (Nat.le_refl _) (by omega), .inr ⟨HLE.out, v4, BB, rfl, HU.out, Bytes.put (by have h := HB4.out; rw [HL3.out] at h; exact h) _ hK4 rfl⟩⟩
  case stop =>
    rintro D c pre W hD ⟨k, hk, hpre⟩ ⟨rfl, ys, x, hys, hyl, htwo, hB, hs2⟩ hK'
    have hsplit : idx S k = ys.map (·.1) ++ [x.1] := by rw [← places_val S k hk, ← hpre, hys, List.map_append, List.map_singleton]
    have hfs := first_split (K := K) hk hsplit (by rw [List.length_map]; exact hyl)
    have HLE := Lib.hid hfs.1
    have HQ := Lib.hid hfs.2
    have e1 : ¬ (((ys.length : Nat) : Int) < (K : Int)) := by omega
    clear hfs hsplit hys hpre hyl
    · skip
      obtain ⟨u10, u11, q10, q11, r10, r11, hdis⟩ := htwo
      have HTR := Lib.hid (places_tab r10 (hBT W hB))
      have HTS := Lib.hid (places_tab r11 (hBS W hB))
      have r11' := r11
      rw [List.length_map] at r11'
      obtain ⟨A11, C11, rfl⟩ := row_shape r11'
      have c10 := q10.cell
      have c11 := q11.cell
      have cK : W.cell? ⟨w.heap.size, 0, none⟩ = some (.int .i64 K) := (hB.cell (p := ⟨w.heap.size, 0, none⟩) (by show w.heap.size < p + 1; omega)).trans hcK
      refine wpIn_wide.2 ?_
      have hRm := first_subs (T := codeT K M) (S := S) (K := K) (by omega) HLE.out
      have hdet := code_det hK0 hK hM hRm
      have hRl : (rowsAt (codeT K M) (firstK S K)).length = K := by unfold rowsAt; rw [List.length_map]; exact first_len HLE.out
      have hRr : ∀ r ∈ rowsAt (codeT K M) (firstK S K), r.length = K := fun r hr => codeT_rows r (subs_mem hRm r hr)
      have HF := Lib.hid (fit_of (by omega) hRr)
      have HTR' := Lib.hid (show Tab W u10 (rowsAt (codeT K M) (firstK S K)) by have := HTR.out; rw [HQ.out] at this; exact this)
      have HTS' := Lib.hid (show Tab W (.slice A11 ys.length C11) (rowsAt S (firstK S K)) by have := HTS.out; rw [HQ.out] at this; exact this)
      have HBY := Lib.hid (Tab_bd HTR'.out)
      have HLR := Lib.hid (show (rowsAt (codeT K M) (firstK S K)).length ≤ 7 by omega)
      have HD := Lib.hid hdet
      have HRR := Lib.hid hRr
      have HRL := Lib.hid hRl
      clear hRm hdet hRr hRl
      go_wp2_with fail
      refine (invertGo _ _ _ HTR'.out HF.out.1 (HF.out.2.trans HRL.out.symm) HLR.out).mono ?_
      rintro e w2 ⟨hb2, hp2⟩
      rcases hp2 with ⟨_, qq, F, hqq, hRe, hz⟩ | ⟨v2, F, rfl, hRe, ht2⟩
      · exact absurd (inv_stuck HBY.out (fun r hr => by rw [show (rowsAt (codeT K M) (firstK S K)).getD r [] = (rowsAt (codeT K M) (firstK S K))[r] by simp [hr]]; rw [HRL.out]; exact HRR.out _ (List.getElem_mem hr)) hqq hRe hz) HD.out
      · have HU := Lib.hid (undoes (by omega) HRL.out HRR.out HBY.out hRe)
        obtain ⟨BB, hBB⟩ : ∃ BB, tabOf (rowsAt (codeT K M) (firstK S K)).length (rowsAt (codeT K M) (firstK S K)).length (fun j i => F j ((rowsAt (codeT K M) (firstK S K)).length + i)) = BB := ⟨_, rfl⟩
        rw [hBB] at ht2 HU
        clear hBB hRe
        have HTB := Lib.hid ht2
        clear ht2
        have hK2 := (hb2.block D (Array.getElem?_eq_some_iff.1 hK').1).trans hK'
        have HSr := Lib.hid (show ∀ r ∈ rowsAt S (firstK S K), r.length = 8 from fun r hr => by
          obtain ⟨i, hi, rfl⟩ := List.mem_map.1 hr
          exact rightAll_len hra i (first_mem hi).2)
        have HSl := Lib.hid (show (rowsAt S (firstK S K)).length = K by unfold rowsAt; rw [List.length_map]; exact first_len HLE.out)
        have HSf := Lib.hid (fit_of (by rw [HSl.out]; omega) HSr.out)
        have HBf := Lib.hid (fit_of (by rw [HU.out.len]; omega) HU.out.rows)
        have c11' : w2.cell? ⟨p + 1 + 1, 0, none⟩ = some (.slice A11 ys.length C11) := below_cell hb2 _ _ c11
        go_wp2_with fail
        refine (timesOk BB (rowsAt S (firstK S K)) _ _ _ HTB.out (HTS'.out.below hb2) (can_intro HBf.out.1 HSf.out.1 (HBf.out.2.trans HSl.out.symm)) (by rw [HU.out.len]; omega) (by rw [HSf.out.2]; omega)).mono ?_
        rintro _ w3 ⟨v3, rfl, ht3, hb3⟩
        have HT3 := Lib.hid ht3
        clear ht3
        have hK3 := (hb3.block D (Array.getElem?_eq_some_iff.1 hK2).1).trans hK2
        have HL3 := Lib.hid (show (times BB (rowsAt S (firstK S K))).length = K by rw [times_len, HU.out.len])
        go_wp2_with fail
        refine (concatC (times BB (rowsAt S (firstK S K))) _ _ HT3.out (by rw [lens_rows (c := 8) _ (Nat.le_refl _) (fun r hr => (times_rows r hr).trans HSf.out.2), HL3.out]; omega)).mono ?_
        rintro _ w4 ⟨v4, rfl, hbu, hb4⟩
        have hK4 := (hb4.block D (Array.getElem?_eq_some_iff.1 hK3).1).trans hK3
        have HB4 := Lib.hid hbu.slice
        clear hbu
        go_wp2_with fail
        refine ⟨by simp, .inl ⟨_, _, rfl, run_takeDeferred hK4, ?_⟩⟩
        have hh1 := hBa.trans (hB.mono (by omega))
        have hh2 := hh1.trans (hb2.mono hh1.size)
        have hh3 := hh2.trans (hb3.mono hh2.size)
        have hh4 := hh3.trans (hb4.mono hh3.size)
        exact ⟨_, results_tmp2 rfl _ _ _, below_put hh4 _ (Nat.le_refl _) (by omega), .inr ⟨HLE.out, v4, BB, rfl, HU.out, Bytes.put (by have h := HB4.out; rw [HL3.out] at h; exact h) _ hK4 rfl⟩⟩
end Go.Proofs.Ytmcodfjaeaociaa.Rs
