/- A drive told slot by slot, as plain mathematics: what a slot has, what of it lasts, and its loose writes by their numbers. No program is named here. -/
import Derived.Test.YthlonnbafekjbaaDrvSt
namespace Drv
structure Ce where
  now : List Nat
  lasts : List Nat
  loose : List (Nat × List Nat)
/-- of the first k loose writes those of slot i that a crash can keep, with their numbers -/
def St.lwN (s : St) (i : Nat) : Nat → List (Nat × List Nat)
  | 0 => []
  | k + 1 => if (s.loose.getD k (0, [])).1 = i ∧ k < 64 then s.lwN i k ++ [(k, (s.loose.getD k (0, [])).2)] else s.lwN i k
def St.lw (s : St) (i : Nat) : List (Nat × List Nat) := s.lwN i s.loose.length
def St.cell (s : St) (i : Nat) : Ce := ⟨s.get i, s.slots.getD i [], s.lw i⟩
/-- what lasts behind a crash, by a slot's own loose writes -/
def lastL (keep : Nat) (l : List (Nat × List Nat)) (b : List Nat) : List Nat := l.foldl (fun b x => if keep / 2 ^ x.1 % 2 = 1 then x.2 else b) b
def Ce.put (c : Ce) (k : Nat) (b : List Nat) : Ce := ⟨b, c.lasts, if k < 64 then c.loose ++ [(k, b)] else c.loose⟩
def Ce.flush (c : Ce) : Ce := ⟨c.now, c.now, []⟩
def Ce.crash (c : Ce) (keep : Nat) : Ce := ⟨lastL keep c.loose c.lasts, lastL keep c.loose c.lasts, []⟩
theorem lwN_len (s : St) (i : Nat) : ∀ k, (s.lwN i k).length ≤ k
  | 0 => Nat.le_refl _
  | k + 1 => by
    have := lwN_len s i k
    rw [St.lwN]
    split
    · rw [List.length_append]; simp; omega
    · omega
theorem lwN_mem {s : St} {i : Nat} {x : Nat × List Nat} : ∀ {k}, x ∈ s.lwN i k → x.1 < 64 ∧ ∃ j, x.2 = (s.loose.getD j (0, [])).2
  | 0, h => absurd h (by simp [St.lwN])
  | k + 1, h => by
    rw [St.lwN] at h
    split at h
    · rename_i hc
      rcases List.mem_append.1 h with q | q
      · exact lwN_mem q
      · rw [List.mem_singleton] at q
        subst q
        exact ⟨hc.2, k, rfl⟩
    · exact lwN_mem h
theorem getN_congr {s t : St} (i : Nat) (hs : s.slots = t.slots) : ∀ k, (∀ j, j < k → s.loose.getD j (0, []) = t.loose.getD j (0, [])) → s.getN i k = t.getN i k
  | 0, _ => by rw [St.getN, St.getN, hs]
  | k + 1, h => by rw [St.getN, St.getN, h k (by omega), getN_congr i hs k (fun j hj => h j (by omega))]
theorem lwN_congr {s t : St} (i : Nat) : ∀ k, (∀ j, j < k → s.loose.getD j (0, []) = t.loose.getD j (0, [])) → s.lwN i k = t.lwN i k
  | 0, _ => rfl
  | k + 1, h => by rw [St.lwN, St.lwN, h k (by omega), lwN_congr i k (fun j hj => h j (by omega))]
/-- one loose write more -/
theorem cell_push (s : St) (q : Nat) (l : List Nat) (i : Nat) : ({ s with loose := s.loose ++ [(q, l)] } : St).cell i = if i = q then (s.cell i).put s.loose.length l else s.cell i := by
  have hl : ∀ j, j < s.loose.length → (s.loose ++ [(q, l)]).getD j (0, []) = s.loose.getD j (0, []) := fun j hj => by
    rw [List.getD_eq_getElem?_getD, List.getD_eq_getElem?_getD, List.getElem?_append_left hj]
  have hh : (s.loose ++ [(q, l)]).getD s.loose.length (0, []) = (q, l) := by
    rw [List.getD_eq_getElem?_getD, List.getElem?_append_right (Nat.le_refl _)]; simp
  have hn : (s.loose ++ [(q, l)]).length = s.loose.length + 1 := by simp
  have hg : ({ s with loose := s.loose ++ [(q, l)] } : St).get i = if q = i then l else s.get i := by
    unfold St.get
    show St.getN _ i (s.loose ++ [(q, l)]).length = _
    rw [hn, St.getN]
    show (if ((s.loose ++ [(q, l)]).getD s.loose.length (0, [])).1 = i then ((s.loose ++ [(q, l)]).getD s.loose.length (0, [])).2 else _) = _
    rw [hh, getN_congr (s := { s with loose := s.loose ++ [(q, l)] }) (t := s) i rfl s.loose.length hl]
  have hw : ({ s with loose := s.loose ++ [(q, l)] } : St).lw i = if q = i ∧ s.loose.length < 64 then s.lw i ++ [(s.loose.length, l)] else s.lw i := by
    unfold St.lw
    show St.lwN _ i (s.loose ++ [(q, l)]).length = _
    rw [hn, St.lwN]
    show (if ((s.loose ++ [(q, l)]).getD s.loose.length (0, [])).1 = i ∧ _ then _ ++ [(s.loose.length, ((s.loose ++ [(q, l)]).getD s.loose.length (0, [])).2)] else _) = _
    rw [hh, lwN_congr (s := { s with loose := s.loose ++ [(q, l)] }) (t := s) i s.loose.length hl]
  unfold St.cell
  rw [hg, hw]
  by_cases e : i = q
  · subst e
    unfold Ce.put
    simp
  · rw [if_neg e, if_neg (fun z => e z.symm), if_neg (fun z => e z.1.symm)]
theorem getD_set_self {α : Type} (l : List α) (i : Nat) (x d : α) (h : i < l.length) : (l.set i x).getD i d = x := by
  rw [List.getD_eq_getElem?_getD, List.getElem?_set_self h]; rfl
theorem getD_set_ne {α : Type} (l : List α) (i j : Nat) (x d : α) (h : i ≠ j) : (l.set i x).getD j d = l.getD j d := by
  rw [List.getD_eq_getElem?_getD, List.getD_eq_getElem?_getD, List.getElem?_set_ne h]
theorem flushN_get {s : St} (h : s.ok) (i : Nat) : ∀ k, k ≤ s.loose.length → (s.flushN k).getD i [] = s.getN i k
  | 0, _ => rfl
  | k + 1, hk => by
    have hi := h.lt k (by omega)
    have e : s.loose.getD k (0, []) = s.loose[k] := by rw [List.getD_eq_getElem?_getD, List.getElem?_eq_getElem (by omega)]; rfl
    rw [St.flushN, St.getN, e]
    by_cases q : s.loose[k].1 = i
    · rw [if_pos q, ← q, getD_set_self _ _ _ _ (by rw [flushN_len]; exact hi)]
    · rw [if_neg q, getD_set_ne _ _ _ _ _ q]
      exact flushN_get h i k (by omega)
theorem crashN_get {s : St} (h : s.ok) (keep i : Nat) : ∀ k, k ≤ s.loose.length → (s.crashN keep k).getD i [] = lastL keep (s.lwN i k) (s.slots.getD i [])
  | 0, _ => rfl
  | k + 1, hk => by
    have hi := h.lt k (by omega)
    have e : s.loose.getD k (0, []) = s.loose[k] := by rw [List.getD_eq_getElem?_getD, List.getElem?_eq_getElem (by omega)]; rfl
    have ih := crashN_get h keep i k (by omega)
    have hkd : kept keep k = (decide (k < 64) && decide (keep / 2 ^ k % 2 = 1)) := rfl
    have hC : s.crashN keep (k + 1) = if kept keep k = true then (s.crashN keep k).set s.loose[k].1 s.loose[k].2 else s.crashN keep k := by rw [St.crashN, e]
    have hL : s.lwN i (k + 1) = if s.loose[k].1 = i ∧ k < 64 then s.lwN i k ++ [(k, s.loose[k].2)] else s.lwN i k := by rw [St.lwN, e]
    have hs := getD_set_self (s.crashN keep k) s.loose[k].1 s.loose[k].2 [] (by rw [crashN_len]; exact hi)
    by_cases q : s.loose[k].1 = i
    · rw [q] at hs
      by_cases hk6 : k < 64
      · rw [hL, if_pos ⟨q, hk6⟩, hC]
        unfold lastL at ih ⊢
        rw [List.foldl_append]
        simp only [List.foldl_cons, List.foldl_nil]
        rw [← ih]
        by_cases hb : keep / 2 ^ k % 2 = 1
        · rw [if_pos (by rw [hkd]; simp [hk6, hb]), if_pos hb, q, hs]
        · rw [if_neg (by rw [hkd]; simp [hb]), if_neg hb]
      · rw [hL, if_neg (fun z => hk6 z.2), hC, if_neg (by rw [hkd]; simp [hk6])]
        exact ih
    · rw [hL, if_neg (fun z => q z.1), hC]
      split
      · rw [getD_set_ne _ _ _ _ _ q]; exact ih
      · exact ih
theorem cell_flush {s : St} (h : s.ok) (hl : s.lost = false) (i : Nat) : s.flush.cell i = (s.cell i).flush := by
  have e : s.flush = ⟨s.flushN s.loose.length, [], false⟩ := by unfold St.flush; rw [if_neg (by simp [hl])]
  have hg := flushN_get h i s.loose.length (Nat.le_refl _)
  rw [e]
  unfold St.cell Ce.flush
  show Ce.mk ((s.flushN s.loose.length).getD i []) ((s.flushN s.loose.length).getD i []) [] = _
  rw [hg]
  rfl
theorem cell_crash {s : St} (h : s.ok) (keep i : Nat) : (s.crash keep).cell i = (s.cell i).crash keep := by
  have hg := crashN_get h keep i s.loose.length (Nat.le_refl _)
  unfold St.cell Ce.crash
  show Ce.mk ((s.crashN keep s.loose.length).getD i []) ((s.crashN keep s.loose.length).getD i []) [] = _
  rw [hg]
  rfl
theorem cell_fresh (n : Int) (i : Nat) : (fresh n).cell i = ⟨[], [], []⟩ := by
  have h : (List.replicate (clamp n) ([] : List Nat)).getD i [] = [] := by
    rw [List.getD_eq_getElem?_getD, List.getElem?_replicate]
    split <;> rfl
  show Ce.mk ((List.replicate (clamp n) ([] : List Nat)).getD i []) ((List.replicate (clamp n) ([] : List Nat)).getD i []) [] = _
  rw [h]
/-- the bounds of a slot -/
theorem cell_sm {s : St} (h : s.ok) (i : Nat) : (s.cell i).now.length ≤ 64 ∧ (s.cell i).lasts.length ≤ 64 ∧ (s.cell i).loose.length ≤ s.loose.length ∧ ∀ x ∈ (s.cell i).loose, x.1 < 64 ∧ x.2.length ≤ 64 := by
  refine ⟨getN_sl h i _, getN_sl (s := ⟨s.slots, [], s.lost⟩) ⟨fun j hj => absurd hj (by simp), h.sm, h.em, h.sl, fun x hx => absurd hx (by simp)⟩ i 0, lwN_len s i _, fun x hx => ?_⟩
  obtain ⟨h1, j, h2⟩ := lwN_mem hx
  exact ⟨h1, by rw [h2]; exact getD_ll h j⟩
theorem lastL_snoc (keep : Nat) (l : List (Nat × List Nat)) (x : Nat × List Nat) (b : List Nat) : lastL keep (l ++ [x]) b = if keep / 2 ^ x.1 % 2 = 1 then x.2 else lastL keep l b := by
  unfold lastL
  rw [List.foldl_append]
  rfl
end Drv
