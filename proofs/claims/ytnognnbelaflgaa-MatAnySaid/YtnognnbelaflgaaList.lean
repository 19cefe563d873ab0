/- append of a whole slice onto one that the call has built. No program is named here. -/
import Derived.Test.YtnognnbelaflgaaOwn
import Derived.Laws.AppendOwnNone
import Derived.Lib.AppendZeros
import Derived.Deep.Slices
namespace Go.Mem
open Go.RowKit
theorem SliceOf.values {α : Type} {R : World → Value → α → Prop} {w : World} {ad : Addr} {m C : Nat} {l : List α} (h : SliceOf R w (.slice (some ad) m C) l) :
    m = l.length ∧ ∃ f : Nat → Value, ∀ i (hi : i < l.length), w.cell? (ad.add i) = some (f i) ∧ R w (f i) l[i] := by
  obtain ⟨A, n, C', h1, h2, _, _, _, h6⟩ := h
  cases h1
  refine ⟨h2, ?_⟩
  have each : ∀ i, i < l.length → ∃ c, w.cell? (ad.add i) = some c ∧ ∀ hi : i < l.length, R w c l[i] := by
    intro i hi
    obtain ⟨b, o, c, e1, e2, e3⟩ := h6 i hi
    cases e1
    refine ⟨c, ?_, fun _ => e3⟩
    unfold Addr.add
    split
    · rename_i h0; subst h0; simpa using e2
    · exact e2
  obtain ⟨f, hf⟩ := Deep.choose_lt each
  exact ⟨f, fun i hi => ⟨(hf i hi).1, (hf i hi).2 hi⟩⟩
theorem wpList_append_list {P : Program} {α : Type} {R : World → Value → α → Prop} (hRw : ∀ w1 w2 c x, R w1 c x → R w2 c x) (hR1 : ∀ w c x, R w c x → c.oneCell' = true)
    (w : World) {ops : Array Oper} {rest : List Oper} {o : Oper} {a : Act} {Q : Exit → Act → World → Prop} (hgd : o.guard = none) (s x : Operand) (t : TypeId)
    (ho : o.op = .call { callee := .builtin .append, args := #[s, x], argTypes := #[t, t] })
    (base : Nat) (e : TypeId) (z : Value) (bytes : Nat) (ht : P.underlying t = some (.slice e)) (hinfo : (P.info? e).map (fun i => (i.zero, i.size, i.bytes)) = some (some z, 1, bytes)) (hzs : z.cells.size = 1)
    (v : Value) (L : List α) (hs : a.eval s = v) (hown : Built R w base e v L)
    (A : Option Addr) (m C : Nat) (l : List α) (hx : a.eval x = .slice A m C) (hl : SliceOf R w (.slice A m C) l)
    (hbytes : (L.length + l.length) * (bytes + 1) ≤ 140737488355328) (hbase : base ≤ w.heap.size)
    (h : ∀ v' w', Built R w' base e v' (L ++ l) → w.grownBy w' v.ownBlock → Below base w w' → wpList P ops Q rest (a.put o.dst v') w') : wpList P ops Q (o :: rest) a w := by
  obtain ⟨i, hi, hz0, hz1, hz2⟩ := info_parts hinfo
  have hown0 := hown
  obtain ⟨xs, hrow, hel⟩ := hown
  have hb1 : (L.length + l.length) * 1 ≤ (L.length + l.length) * (bytes + 1) := Nat.mul_le_mul_left _ (by omega)
  have hb2 : (L.length + l.length) * bytes ≤ (L.length + l.length) * (bytes + 1) := Nat.mul_le_mul_left _ (by omega)
  rcases A with _ | ad
  · obtain ⟨A', n', C', q1, q2, q3, q4, q5, _⟩ := hl
    cases q1
    have hC := q5 rfl
    have hl0 : l = [] := List.length_eq_zero_iff.1 (by omega)
    subst hl0
    subst hC
    have hm : m = 0 := by omega
    subst hm
    exact wpList_append_own_none hgd s x t ho base e i 1 ht hi v L.length xs hs hrow hx (h v w (by rw [List.append_nil]; exact hown0) (World.grownBy.refl _ _) (Below.refl _ _))
  · obtain ⟨hm, f, hf⟩ := hl.values
    subst hm
    refine wpList_append_own_at _ hgd s x t ho base e i z 1 bytes ht hi hz0 hz1 hz2 hzs (by omega) v L.length xs hs hrow ad l.length C ((List.range l.length).map f) hx (by simp)
      (fun j u hu => ?_) (fun u hu => ?_) (by unfold maxLen; omega) (by omega) hbase ?_
    · have hj : j < l.length := by
        have := (List.getElem?_eq_some_iff.1 hu).1
        simpa using this
      rw [List.getElem?_map, List.getElem?_range hj] at hu
      have : u = f j := by simpa using hu.symm
      rw [this]; exact (hf j hj).1
    · obtain ⟨j, hj, rfl⟩ := List.mem_map.1 hu
      exact hR1 w _ _ (hf j (List.mem_range.1 hj)).2
    intro v' w' hown' hg _ _
    refine h v' w' ⟨xs ++ (List.range l.length).map f, by rw [List.length_append]; exact hown', fun j hj => ?_⟩ hg ((Below.refl _ _).grown hg hbase (fun k hk => (hrow.lt k hk).1))
    have hxl : xs.length = L.length := by have := hrow.1; omega
    by_cases hlt : j < L.length
    · obtain ⟨c, e1, e2⟩ := hel j hlt
      refine ⟨c, by rw [List.getElem?_append_left (by omega)]; exact e1, fun w'' _ => ?_⟩
      rw [List.getElem_append_left hlt]
      exact hRw _ _ _ _ (e2 w (World.grownBy.refl _ _))
    · have hj' : j - L.length < l.length := by simp at hj; omega
      refine ⟨f (j - L.length), ?_, fun w'' _ => ?_⟩
      · rw [List.getElem?_append_right (by omega), hxl, List.getElem?_map, List.getElem?_range hj']; rfl
      · rw [List.getElem_append_right (by omega)]
        exact hRw _ _ _ _ (hf _ hj').2
theorem byteR_world (w1 w2 : World) (c : Value) (x : Nat) (h : ByteR w1 c x) : ByteR w2 c x := h
theorem byteR_one (w : World) (c : Value) (x : Nat) (h : ByteR w c x) : c.oneCell' = true := by rw [h.1]; rfl
end Go.Mem
