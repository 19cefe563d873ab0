/- Drives in the order of their nearness, as they stand in memory while they are put in order, plain. -/
import Derived.Test.YtcgjoidfmigpnaaDoorRkMath
import Derived.Test.YtcgjoidfmigpnaaDoorZeros
namespace Go.Proofs.YtcgjoidfmigpnaaDoor.Rk
set_option linter.unusedVariables false
open Go.ChangeShapes Go.WideShapes Go.ChangeAt Go.RowKit
open Go.Mem Sha Hash
/-- ints that may be written, from the head of block b on -/
structure RowZ (w : World) (b : Nat) (m : List Int) : Prop where
  cell : ∀ i, i < m.length → w.cell? ⟨b, i, none⟩ = some (.int .i64 (m.getD i 0))
  free : ∀ i, i < m.length → w.frozen? ⟨b, i, none⟩ = false
theorem RowZ.lt {w : World} {b : Nat} {m : List Int} (h : RowZ w b m) (hn : 0 < m.length) : b < w.heap.size := World.block_lt_of_cell? _ _ (h.cell 0 hn)
theorem RowZ.keep {w w' : World} {b : Nat} {m : List Int} (h : RowZ w b m) (e : w'.heap[b]? = w.heap[b]?) : RowZ w' b m :=
  ⟨fun i hi => (World.cell?_of_block (w := w) (a := ⟨b, i, none⟩) e).trans (h.cell i hi), fun i hi => (World.frozen?_of_block (w := w) (a := ⟨b, i, none⟩) e).trans (h.free i hi)⟩
theorem RowZ.below {w w' : World} {b : Nat} {m : List Int} (h : RowZ w b m) (hn : 0 < m.length) (hb : Below w.heap.size w w') : RowZ w' b m := h.keep (hb.block b (h.lt hn))
theorem RowZ.set {w : World} {b : Nat} {m : List Int} (h : RowZ w b m) (k : Nat) (x : Int) : RowZ (w.setCell ⟨b, k, none⟩ (.int .i64 x)) b (m.set k x) := by
  refine ⟨fun i hi => ?_, fun i hi => ?_⟩
  · have hi' : i < m.length := by simpa using hi
    by_cases e : i = k
    · subst e
      rw [show (m.set i x).getD i 0 = x by simp [List.getD, hi']]
      exact World.cell?_setCell_same _ _ _ (h.cell i hi')
    · rw [World.cell?_setCell_other _ _ _ _ (fun q => by injection q; omega), show (m.set k x).getD i 0 = m.getD i 0 by simp [List.getD, Ne.symm e]]
      exact h.cell i hi'
  · rw [World.frozen?_setCell]
    exact h.free i (by simpa using hi)
theorem intR_world : ∀ (w1 w2 : World) (c : Value) (x : Int), IntR w1 c x → IntR w2 c x := fun _ _ _ _ h => h
theorem intR_one : ∀ (w : World) (c : Value) (x : Int), IntR w c x → c.oneCell' = true := fun _ _ _ h => by rw [h.1]; rfl
theorem built_rowZ {w : World} {base t : Nat} {v : Value} {L : List Int} (h : Built IntR w base t v L) (h0 : 0 < L.length) : ∃ g C, v = .slice (some ⟨g, 0, none⟩) L.length C ∧ L.length ≤ C ∧ C ≤ 9223372036854775807 ∧ base ≤ g ∧ RowZ w g L := by
  obtain ⟨xs, h1, h2⟩ := h
  have hs := Built.slice ⟨xs, h1, h2⟩
  rcases h1.2 with ⟨_, e⟩ | ⟨g, cap, cur, e, hb, hg, h3, h4, _, _⟩
  · omega
  · subst e
    refine ⟨g, cap, rfl, h3, by unfold maxLen at h4; exact h4, hb, fun i hi => ?_, fun i hi => by simp [World.frozen?, hg]⟩
    have hI : Ints w (.slice (some ⟨g, 0, none⟩) L.length cap) L := hs
    have := (hI.here hi).1
    rw [Nat.zero_add] at this
    rw [this]
    simp [List.getD, hi]
theorem RowZ.ints {w : World} {b C : Nat} {m : List Int} (h : RowZ w b m) (hi : ∀ x ∈ m, I64 x) (h1 : m.length ≤ C) (h2 : C ≤ 9223372036854775807) : Ints w (.slice (some ⟨b, 0, none⟩) m.length C) m :=
  ⟨some ⟨b, 0, none⟩, m.length, C, rfl, rfl, h1, by unfold maxLen; exact h2, (fun e => by cases e), fun i hj => ⟨b, 0, .int .i64 m[i], rfl, by rw [Nat.zero_add, h.cell i hj]; simp [List.getD, hj], rfl, hi _ (List.getElem_mem hj)⟩⟩
theorem ints_i64 {w : World} {v : Value} {l : List Int} (h : Ints w v l) : ∀ x ∈ l, I64 x := by
  intro x hx
  obtain ⟨i, hi, rfl⟩ := List.getElem_of_mem hx
  obtain ⟨A, C, rfl, _⟩ := h.shape
  obtain ⟨_, _, _, _, q⟩ := h.at hi
  exact q
/-- the first k are in order -/
def OutMid (s : Int) (l : List Int) (k : Nat) (m : List Int) : Prop := m.length = l.length ∧ IsOrd s (l.take k) (m.take k) ∧ m.drop k = l.drop k
/-- .. and the next one is on its way, at j -/
def InMid (s : Int) (l : List Int) (i j : Nat) (m : List Int) : Prop :=
  ∃ p x, p.length = i ∧ IsOrd s (l.take i) p ∧ l.drop i = x :: l.drop (i + 1) ∧ j ≤ i ∧ m = p.take j ++ x :: (p.drop j ++ l.drop (i + 1)) ∧ ∀ y ∈ p.drop j, near s x y
section
variable {s : Int} {l m : List Int} {i j k : Nat}
theorem OutMid.start : OutMid s l 0 l := ⟨rfl, by rw [List.take_zero]; exact ⟨List.Perm.refl _, List.Pairwise.nil⟩, rfl⟩
theorem OutMid.done (h : OutMid s l k m) (hk : l.length ≤ k) : m = ord s l := by
  obtain ⟨h1, h2, _⟩ := h
  rw [List.take_of_length_le hk, List.take_of_length_le (by omega)] at h2
  exact ord_eq h2
theorem InMid.start (h : OutMid s l i m) (hi : i < l.length) : InMid s l i i m := by
  obtain ⟨h1, h2, h3⟩ := h
  have hd : l.drop i = l[i] :: l.drop (i + 1) := List.drop_eq_getElem_cons hi
  refine ⟨m.take i, l[i], by rw [List.length_take]; omega, h2, hd, Nat.le_refl _, ?_, ?_⟩
  · rw [List.take_take, Nat.min_self, List.drop_of_length_le (by rw [List.length_take]; omega), List.nil_append, ← hd, ← h3, List.take_append_drop]
  · intro y hy
    rw [List.drop_of_length_le (by rw [List.length_take]; omega)] at hy
    cases hy
theorem InMid.len (h : InMid s l i j m) (hi : i < l.length) : m.length = l.length := by
  obtain ⟨p, x, h1, _, _, h4, h5, _⟩ := h
  rw [h5]
  simp only [List.length_append, List.length_cons, List.length_take, List.length_drop]
  omega
/-- it is where it should be -/
theorem InMid.rest (h : InMid s l i j m) (hi : i < l.length) (he : j = 0 ∨ near s (m.getD (j - 1) 0) (m.getD j 0)) : OutMid s l (i + 1) m := by
  have hlen := h.len hi
  obtain ⟨p, x, h1, ⟨h2, h2'⟩, h3, h4, h5, h6⟩ := h
  have hl : (p.take j).length = j := by rw [List.length_take]; omega
  have htk : m.take (i + 1) = p.take j ++ x :: p.drop j := by
    rw [h5, ← List.cons_append, ← List.append_assoc, List.take_append_of_le_length (by simp; omega), List.take_of_length_le (by simp; omega)]
  have hdr : m.drop (i + 1) = l.drop (i + 1) := by
    rw [h5, ← List.cons_append, ← List.append_assoc, List.drop_append_of_le_length (by simp; omega), List.drop_of_length_le (by simp; omega), List.nil_append]
  have hlt : l.take (i + 1) = l.take i ++ [x] := by
    have hx : l[i] = x := by
      have := List.drop_eq_getElem_cons hi
      rw [h3] at this
      exact (List.cons.inj this).1.symm
    rw [List.take_succ_eq_append_getElem hi, hx]
  refine ⟨hlen, ⟨?_, ?_⟩, hdr⟩
  · rw [htk, hlt]
    refine (List.perm_middle).trans ?_
    rw [List.take_append_drop]
    exact (h2.cons x).trans (List.perm_append_singleton x _).symm
  · rw [htk]
    have hsp : Sorted s (p.take j ++ p.drop j) := by rw [List.take_append_drop]; exact h2'
    obtain ⟨k1, k2, k3⟩ := List.pairwise_append.1 hsp
    refine List.pairwise_append.2 ⟨k1, List.pairwise_cons.2 ⟨h6, k2⟩, fun a ha b hb => ?_⟩
    rcases List.mem_cons.1 hb with q | q
    · subst q
      rcases he with he | he
      · subst he; simp at ha
      · rcases Nat.eq_zero_or_pos j with h0 | h0
        · subst h0; simp at ha
        · have e1 : m.getD j 0 = b := by
            rw [h5, List.getD_eq_getElem?_getD, List.getElem?_append_right (by omega), hl]
            simp
          have e2 : m.getD (j - 1) 0 = p[j - 1]'(by omega) := by
            rw [h5, List.getD_eq_getElem?_getD, List.getElem?_append_left (by omega), List.getElem?_take_of_lt (by omega)]
            simp [show j - 1 < p.length by omega]
          rw [e1, e2] at he
          refine near_trans ?_ he
          obtain ⟨t, ht, rfl⟩ := List.getElem_of_mem ha
          have ht' : t < j := by omega
          rw [List.getElem_take]
          by_cases e : t = j - 1
          · subst e; exact near_refl _ _
          · exact List.pairwise_iff_getElem.1 h2' t (j - 1) (by omega) (by omega) (by omega)
    · exact k3 a ha b q
/-- it goes on -/
theorem InMid.step (h : InMid s l i (j + 1) m) (hi : i < l.length) (hn : ¬ near s (m.getD j 0) (m.getD (j + 1) 0)) : InMid s l i j ((m.set j (m.getD (j + 1) 0)).set (j + 1) (m.getD j 0)) := by
  have hlen := h.len hi
  obtain ⟨p, x, h1, h2, h3, h4, h5, h6⟩ := h
  have hl : (p.take (j + 1)).length = j + 1 := by rw [List.length_take]; omega
  have hjp : j < p.length := by omega
  have e1 : m.getD (j + 1) 0 = x := by
    rw [h5, List.getD_eq_getElem?_getD, List.getElem?_append_right (by omega), hl]
    simp
  have e2 : m.getD j 0 = p[j] := by
    rw [h5, List.getD_eq_getElem?_getD, List.getElem?_append_left (by omega), List.getElem?_take_of_lt (by omega)]
    simp [hjp]
  have hd : p.drop j = p[j] :: p.drop (j + 1) := List.drop_eq_getElem_cons hjp
  rw [e1, e2] at hn ⊢
  have hx : near s x p[j] := (near_total s p[j] x).resolve_left hn
  refine ⟨p, x, h1, h2, h3, by omega, ?_, fun y hy => ?_⟩
  · have htj : p.take (j + 1) = p.take j ++ [p[j]] := List.take_succ_eq_append_getElem hjp
    have hlj : (p.take j).length = j := by rw [List.length_take]; omega
    rw [h5, htj, hd, List.append_assoc]
    rw [List.set_append_right _ _ (by omega), hlj, Nat.sub_self]
    rw [List.set_append_right _ _ (by omega), hlj]
    simp
    rw [hd]
    rfl
  · rw [hd] at hy
    rcases List.mem_cons.1 hy with q | q
    · rw [q]; exact hx
    · exact h6 y q
end
end Go.Proofs.YtcgjoidfmigpnaaDoor.Rk
