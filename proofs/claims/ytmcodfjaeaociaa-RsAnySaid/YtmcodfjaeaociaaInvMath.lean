/- What the changes of mat.Invert come to: the inverse, or that the determinant is none. -/
import Derived.Test.YtmcodfjaeaociaaInvert
import Derived.Test.YtmcodfjaeaociaaElim
namespace Go.Proofs.Ytmcodfjaeaociaa.Mat
open Go.Mem GfPlain Gf GfLin
def toM (F : Nat → Nat → Nat) : Nat → Nat → GF := fun r c => tg (F r c)
def Bnd (F : Nat → Nat → Nat) : Prop := ∀ r c, F r c < 256
/-- a table's numbers -/
def entry (a : List (List Nat)) : Nat → Nat → Nat := fun r c => (a.getD r []).getD c 0
/-- all of a table's numbers are bytes -/
def Byt (a : List (List Nat)) : Prop := ∀ r ∈ a, ∀ x ∈ r, x < 256
theorem Bytes_bd {w : World} {v : Value} {l : List Nat} (h : Bytes w v l) : ∀ x ∈ l, x < 256 := by
  obtain ⟨A, C, rfl, _⟩ := h.shape
  intro x hx
  obtain ⟨i, hi, rfl⟩ := List.mem_iff_getElem.1 hx
  obtain ⟨_, _, _, _, hb⟩ := h.at hi
  exact hb
theorem Tab_bd {w : World} {v : Value} {M : List (List Nat)} (h : Tab w v M) : Byt M := by
  obtain ⟨A, C, rfl, _⟩ := h.shape
  intro r hr
  obtain ⟨i, hi, rfl⟩ := List.mem_iff_getElem.1 hr
  obtain ⟨_, _, _, _, _, _, _, hb⟩ := h.at hi
  exact Bytes_bd hb
theorem getD_bd {l : List Nat} (h : ∀ x ∈ l, x < 256) (i : Nat) : l.getD i 0 < 256 := by
  by_cases hi : i < l.length
  · rw [show l.getD i 0 = l[i] by simp [hi]]; exact h _ (List.getElem_mem hi)
  · rw [show l.getD i 0 = 0 by simp [Nat.le_of_not_lt hi]]; omega
theorem row_bd {a : List (List Nat)} (h : Byt a) (r : Nat) : ∀ x ∈ a.getD r [], x < 256 := by
  by_cases hr : r < a.length
  · rw [show a.getD r [] = a[r] by simp [hr]]; exact h _ (List.getElem_mem hr)
  · rw [show a.getD r [] = [] by simp [Nat.le_of_not_lt hr]]; intro x hx; cases hx
theorem entry_bd {a : List (List Nat)} (h : Byt a) : Bnd (entry a) := fun r c => getD_bd (row_bd h r) c
theorem unitF_bd : Bnd unitF := fun r c => by unfold unitF; split <;> omega
theorem F0_bd {a : List (List Nat)} (h : Byt a) : Bnd (F0 a) := fun r c => getD_bd (fun x hx => by
  unfold besides at hx
  rw [show catTo [a.getD r [], (List.range a.length).map (unitF r)] 2 = [] ++ a.getD r [] ++ (List.range a.length).map (unitF r) from rfl, List.nil_append, List.mem_append] at hx
  rcases hx with hx | hx
  · exact row_bd h r x hx
  · obtain ⟨i, _, rfl⟩ := List.mem_map.1 hx
    exact unitF_bd r i) c
theorem F0_left {a : List (List Nat)} (hl : ∀ r, r < a.length → (a.getD r []).length = a.length) {r c : Nat} (hr : r < a.length) (hc : c < a.length) : F0 a r c = entry a r c := by
  unfold F0 entry besides
  rw [show catTo [a.getD r [], (List.range a.length).map (unitF r)] 2 = [] ++ a.getD r [] ++ (List.range a.length).map (unitF r) from rfl, List.nil_append, List.getD_eq_getElem?_getD, List.getElem?_append_left (by rw [hl r hr]; exact hc)]
  simp
theorem F0_right {a : List (List Nat)} (hl : ∀ r, r < a.length → (a.getD r []).length = a.length) {r c : Nat} (hr : r < a.length) (hc : c < a.length) : F0 a r (a.length + c) = unitF r c := by
  unfold F0 besides
  rw [show catTo [a.getD r [], (List.range a.length).map (unitF r)] 2 = [] ++ a.getD r [] ++ (List.range a.length).map (unitF r) from rfl, List.nil_append, List.getD_eq_getElem?_getD, List.getElem?_append_right (by rw [hl r hr]; omega), hl r hr,
    Nat.add_sub_cancel_left]
  simp [hc]
theorem tg_unit (r c : Nat) : tg (unitF r c) = eye r c := by
  unfold unitF eye
  by_cases e : c = r
  · rw [if_pos e, if_pos e.symm]; rfl
  · rw [if_neg e, if_neg (fun q => e q.symm)]; rfl
theorem ginv_nat (x : Nat) : (ginv (x : Int)).toNat = inv x := by unfold ginv; rw [Int.toNat_natCast, Int.toNat_natCast]
theorem solve_toM {F : Nat → Nat → Nat} (hF : Bnd F) (n q f : Nat) : toM (solveF F n q f) = clG (scG (swG (toM F) q (q + f)) q (gi (toM F (q + f) q))) q n ∧ Bnd (solveF F n q f) := by
  have b1 : Bnd (swapF F q (q + f)) := fun r c => by rw [swapF_sw]; exact hF _ _
  have e1 : ∀ r c, tg (swapF F q (q + f) r c) = swG (toM F) q (q + f) r c := fun r c => by
    unfold swapF swG toM
    by_cases e : r = q
    · rw [if_pos e, if_pos e]
    · rw [if_neg e, if_neg e]
      by_cases e' : r = q + f
      · rw [if_pos e', if_pos e']
      · rw [if_neg e', if_neg e']
  have p1 : swapF F q (q + f) q q = F (q + f) q := by unfold swapF; rw [if_pos rfl]
  have b2 : Bnd (scaleRow (swapF F q (q + f)) q) := fun r c => by
    unfold scaleRow
    by_cases e : r = q
    · rw [if_pos e, ginv_nat]; exact GfPlain.mul_lt _ _ (inv_lt _)
    · rw [if_neg e]; exact b1 r c
  have e2 : ∀ r c, tg (scaleRow (swapF F q (q + f)) q r c) = scG (swG (toM F) q (q + f)) q (gi (toM F (q + f) q)) r c := fun r c => by
    unfold scaleRow scG
    by_cases e : r = q
    · rw [if_pos e, if_pos e, ginv_nat, tg_mul (inv_lt _) (b1 _ _), tg_inv (b1 _ _), p1, e1]; rfl
    · rw [if_neg e, if_neg e]; exact e1 r c
  refine ⟨?_, fun r c => ?_⟩
  · funext r c
    show tg (clearTo (scaleRow (swapF F q (q + f)) q) q n r c) = _
    unfold clearTo clG
    by_cases e : r < n ∧ r ≠ q
    · rw [if_pos e, if_pos e, tg_xor, tg_mul (b2 _ _) (b2 _ _), e2, e2, e2]
    · rw [if_neg e, if_neg e]; exact e2 r c
  · unfold solveF clearTo
    by_cases e : r < n ∧ r ≠ q
    · rw [if_pos e]; exact xor_lt (b2 _ _) (GfPlain.mul_lt _ _ (b2 _ _))
    · rw [if_neg e]; exact b2 r c
theorem keeps_start {a : List (List Nat)} (hl : ∀ r, r < a.length → (a.getD r []).length = a.length) : Keeps a.length (toM (entry a)) (toM (F0 a)) := by
  have hr : ∀ r, r < a.length → ∀ c, c < a.length → toM (F0 a) r (a.length + c) = eye r c := fun r hr c hc => by unfold toM; rw [F0_right hl hr hc, tg_unit]
  have hll : ∀ r, r < a.length → ∀ c, c < a.length → toM (F0 a) r c = toM (entry a) r c := fun r hr c hc => by unfold toM; rw [F0_left hl hr hc]
  refine ⟨fun r h c h' => ?_, ⟨eye, fun r h c h' => ?_⟩, by rw [det_congr (fun r h c h' => hll r h c h')]⟩
  · rw [S_congr (g := fun k => eye r k * toM (entry a) k c) (fun k hk => by rw [hr r h k hk]), S_one h (fun i _ hne => by rw [eye_off (fun q => hne q.symm), zmul]), show eye r r = g1 from if_pos rfl, omul, hll r h c h']
  · rw [S_congr (g := fun k => eye r k * eye k c) (fun k hk => by rw [hr k hk c h']), S_one h (fun i _ hne => by rw [eye_off (fun q => hne q.symm), zmul]), show eye r r = g1 from if_pos rfl, omul]
theorem reach_keeps {a : List (List Nat)} (hb : Byt a) (hl : ∀ r, r < a.length → (a.getD r []).length = a.length) {q : Nat} {F : Nat → Nat → Nat} (h : Reach a.length (F0 a) q F) :
    Bnd F ∧ Keeps a.length (toM (entry a)) (toM F) ∧ GfLin.Clean a.length (toM F) q := by
  induction h with
  | none => exact ⟨F0_bd hb, keeps_start hl, fun c hc => absurd hc (by omega)⟩
  | @step q f F' _ hf hne ih =>
    obtain ⟨h1, h2, h3⟩ := ih
    have hq : q < a.length := by omega
    have hn := tg_ne (h1 (q + f) q) hne
    obtain ⟨e, hb'⟩ := solve_toM h1 a.length q f
    rw [e]
    refine ⟨hb', ?_, clean_step h3 hf hn⟩
    exact ((h2.swap hq hf).scale hq (gi_mul _ hn)).clear hq
/-- a table's determinant -/
def detM (a : List (List Nat)) : GF := det a.length (toM (entry a))
theorem inv_stuck {a : List (List Nat)} (hb : Byt a) (hl : ∀ r, r < a.length → (a.getD r []).length = a.length) {q : Nat} {F : Nat → Nat → Nat} (hq : q < a.length) (h : Reach a.length (F0 a) q F) (hz : ∀ i, q ≤ i → i < a.length → F i q = 0) : detM a = g0 := by
  obtain ⟨_, h2, h3⟩ := reach_keeps hb hl h
  refine h2.det0.1 (stuck_det h3 hq fun r hr hr' => ?_)
  show tg (F r q) = g0
  rw [hz r hr hr']; rfl
theorem inv_done {a : List (List Nat)} (hb : Byt a) (hl : ∀ r, r < a.length → (a.getD r []).length = a.length) {F : Nat → Nat → Nat} (h : Reach a.length (F0 a) a.length F) :
    detM a ≠ g0 ∧ Bnd F ∧ (∀ r, r < a.length → ∀ c, c < a.length → S a.length (fun i => tg (F r (a.length + i)) * tg (entry a i c)) = eye r c) ∧ ∀ r, r < a.length → ∀ c, c < a.length → S a.length (fun i => tg (entry a r i) * tg (F i (a.length + c))) = eye r c := by
  obtain ⟨h1, h2, h3⟩ := reach_keeps hb hl h
  have hl1 := done_left h2 h3
  have hr1 := done_right h2 h3
  have hd := done_det h3
  simp only [toM] at hl1 hr1
  exact ⟨fun e => g10 (hd.symm.trans (h2.det0.2 e)), h1, hl1, hr1⟩
theorem tg_dot {r : List Nat} {M : List (List Nat)} (hr : ∀ x ∈ r, x < 256) (hM : Byt M) (c : Nat) : ∀ j, tg (dot r M c j) = S j (fun k => tg (r.getD k 0) * tg (entry M k c))
  | 0 => rfl
  | j + 1 => by
    rw [dot, tg_xor, tg_dot hr hM c j, tg_mul (getD_bd hr j) (getD_bd (row_bd hM j) c)]; rfl
theorem dot_bd {r : List Nat} {M : List (List Nat)} (hr : ∀ x ∈ r, x < 256) (c : Nat) : ∀ j, dot r M c j < 256
  | 0 => by show 0 < 256; omega
  | j + 1 => xor_lt (dot_bd hr c j) (GfPlain.mul_lt _ _ (getD_bd hr j))
theorem tg_inj {x y : Nat} (hx : x < 256) (hy : y < 256) (h : tg x = tg y) : x = y := by
  have := congrArg GF.val h
  rwa [tg_val hx, tg_val hy] at this
theorem tab_ext {n m : Nat} {F F' : Nat → Nat → Nat} (h : ∀ r, r < n → ∀ c, c < m → F r c = F' r c) : tabOf n m F = tabOf n m F' := by
  unfold tabOf
  exact List.map_congr_left fun r hr => List.map_congr_left fun c hc => h r (List.mem_range.1 hr) c (List.mem_range.1 hc)
theorem times_entry {a b : List (List Nat)} (ha : Byt a) (hb : Byt b) (r c : Nat) : tg (prodF a b r c) = S b.length (fun k => tg (entry a r k) * tg (entry b k c)) := tg_dot (row_bd ha r) hb c b.length
/-- a product is a unit when its sums are -/
theorem times_unit {a b : List (List Nat)} {n : Nat} (ha : Byt a) (hb : Byt b) (h1 : a.length = n) (h2 : width b = n) (h3 : b.length = n) (h : ∀ r, r < n → ∀ c, c < n → S n (fun k => tg (entry a r k) * tg (entry b k c)) = eye r c) : times a b = unitT n := by
  unfold times unitT
  rw [h1, h2]
  refine tab_ext fun r hr c hc => tg_inj (dot_bd (row_bd ha r) c _) (unitF_bd r c) ?_
  rw [times_entry ha hb, h3, h r hr c hc, tg_unit]
theorem entry_tab {n m : Nat} {F : Nat → Nat → Nat} {r c : Nat} (hr : r < n) (hc : c < m) : entry (tabOf n m F) r c = F r c := by unfold entry tabOf; simp [hr, hc]
theorem width_tab {n m : Nat} {F : Nat → Nat → Nat} (h : 0 < n) : width (tabOf n m F) = m := by
  rw [width_get (by rw [tabOf_len]; exact h), tabOf_row]
theorem fit_tab {n m : Nat} {F : Nat → Nat → Nat} (h : 0 < n) : fitB (tabOf n m F) = true :=
  fitB_yes (by rw [tabOf_len]; exact h) fun i hi _ => by rw [tabOf_row, width_tab h]
theorem byt_tab {n m : Nat} {F : Nat → Nat → Nat} (h : ∀ r, r < n → ∀ c, c < m → F r c < 256) : Byt (tabOf n m F) := by
  intro r hr x hx
  obtain ⟨i, hi, rfl⟩ := List.mem_map.1 hr
  obtain ⟨c, hc, rfl⟩ := List.mem_map.1 hx
  exact h i (List.mem_range.1 hi) c (List.mem_range.1 hc)
end Go.Proofs.Ytmcodfjaeaociaa.Mat
