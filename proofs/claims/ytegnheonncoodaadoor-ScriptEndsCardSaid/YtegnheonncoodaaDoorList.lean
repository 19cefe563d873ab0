/- append of a whole slice onto one that the call has built. No program is named here. -/
import Derived.Test.YtegnheonncoodaaDoorOwn
import Derived.Laws.AppendOwnNone
import Derived.Laws.OwnMore
import Derived.Lib.AppendZeros
import Derived.Deep.Slices
namespace Go.Mem
open Go.RowKit
theorem SliceOf.values {α : Type} {R : World → Value → α → Prop} {w : World} {ad : Addr} {m C : Nat} {l : List α} (h : SliceOf R w (.slice (some ad) m C) l) :
    m = l.length ∧ ∃ f : Nat → Value, ∀ i (hi : i < l.length), w.cell? (ad.add i) = some (f i) ∧ R w (f i) l[i] := by
  obtain ⟨A, n, C', h1, h2, _, _, _, h6⟩ := h
  cases h1
  refine ⟨h2, ?_⟩
  have each : ∀ i, i < l.length → ∃ c, w.cell? (ad.add i) = some c ∧ ∀ hi : i < l.length, R w c l[i] := by
    intro i hi
    obtain ⟨b, o, c, e1, e2, e3⟩ := h6 i hi
    cases e1
    refine ⟨c, ?_, fun _ => e3⟩
    unfold Addr.add
    split
    · rename_i h0; subst h0; simpa using e2
    · exact e2
  obtain ⟨f, hf⟩ := Deep.choose_lt each
  exact ⟨f, fun i hi => ⟨(hf i hi).1, (hf i hi).2 hi⟩⟩
theorem run_append_list {P : Program} {α : Type} {R : World → Value → α → Prop} (hRw : ∀ w1 w2 c x, R w1 c x → R w2 c x) (hR1 : ∀ w c x, R w c x → c.oneCell' = true)
    (w : World) (base : Nat) (t ty e : TypeId) (z : Value) (bytes : Nat) (ht : P.underlying t = some (.slice e)) (hinfo : (P.info? e).map (fun i => (i.zero, i.size, i.bytes)) = some (some z, 1, bytes)) (hzs : z.cells.size = 1)
    (v : Value) (L : List α) (hown : Built R w base e v L) (A : Option Addr) (m C : Nat) (l : List α) (hl : SliceOf R w (.slice A m C) l)
    (hbytes : (L.length + l.length) * (bytes + 1) ≤ 140737488355328) (hbase : base ≤ w.heap.size) :
    ∃ v' w', (Builtin.append_ #[t, t] ty #[v, .slice A m C]).run P w = .ok v' w' ∧ Built R w' base e v' (L ++ l) ∧ w.grownBy w' v.ownBlock ∧ Below base w w' := by
  obtain ⟨i, hi, hz0, hz1, hz2⟩ := info_parts hinfo
  have hown0 := hown
  obtain ⟨xs, hrow, hel⟩ := hown
  have hb1 : (L.length + l.length) * 1 ≤ (L.length + l.length) * (bytes + 1) := Nat.mul_le_mul_left _ (by omega)
  have hb2 : (L.length + l.length) * bytes ≤ (L.length + l.length) * (bytes + 1) := Nat.mul_le_mul_left _ (by omega)
  rcases A with _ | ad
  · obtain ⟨A', n', C', q1, q2, q3, q4, q5, _⟩ := hl
    cases q1
    have hC := q5 rfl
    have hl0 : l = [] := List.length_eq_zero_iff.1 (by omega)
    subst hl0
    subst hC
    have hm : m = 0 := by omega
    subst hm
    exact ⟨v, w, run_append_owned_none (P := P) (w := w) base t ty e i 1 ht hi v L.length xs hrow, by rw [List.append_nil]; exact hown0, World.grownBy.refl _ _, Below.refl _ _⟩
  · obtain ⟨hm, f, hf⟩ := hl.values
    subst hm
    obtain ⟨v', w', hrun, hown', hg, _, _⟩ := run_append_own_at (P := P) w base t ty e i z 1 bytes ht hi hz0 hz1 hz2 hzs (by omega) v L.length xs hrow ad l.length C ((List.range l.length).map f) (by simp)
      (fun j u hu => by
        have hj : j < l.length := by
          have := (List.getElem?_eq_some_iff.1 hu).1
          simpa using this
        rw [List.getElem?_map, List.getElem?_range hj] at hu
        have : u = f j := by simpa using hu.symm
        rw [this]; exact (hf j hj).1)
      (fun u hu => by
        obtain ⟨j, hj, rfl⟩ := List.mem_map.1 hu
        exact hR1 w _ _ (hf j (List.mem_range.1 hj)).2) (by unfold maxLen; omega) (by omega) hbase
    refine ⟨v', w', hrun, ⟨xs ++ (List.range l.length).map f, by rw [List.length_append]; exact hown', fun j hj => ?_⟩, hg, (Below.refl _ _).grown hg hbase (fun k hk => (hrow.lt k hk).1)⟩
    have hxl : xs.length = L.length := by have := hrow.1; omega
    by_cases hlt : j < L.length
    · obtain ⟨c, e1, e2⟩ := hel j hlt
      refine ⟨c, by rw [List.getElem?_append_left (by omega)]; exact e1, fun w'' _ => ?_⟩
      rw [List.getElem_append_left hlt]
      exact hRw _ _ _ _ (e2 w (World.grownBy.refl _ _))
    · have hj' : j - L.length < l.length := by simp at hj; omega
      refine ⟨f (j - L.length), ?_, fun w'' _ => ?_⟩
      · rw [List.getElem?_append_right (by omega), hxl, List.getElem?_map, List.getElem?_range hj']; rfl
      · rw [List.getElem_append_right (by omega)]
        exact hRw _ _ _ _ (hf _ hj').2
theorem wpList_append_list {P : Program} {α : Type} {R : World → Value → α → Prop} (hRw : ∀ w1 w2 c x, R w1 c x → R w2 c x) (hR1 : ∀ w c x, R w c x → c.oneCell' = true)
    (w : World) {ops : Array Oper} {rest : List Oper} {o : Oper} {a : Act} {Q : Exit → Act → World → Prop} (hgd : o.guard = none) (s x : Operand) (t : TypeId)
    (ho : o.op = .call { callee := .builtin .append, args := #[s, x], argTypes := #[t, t] })
    (base : Nat) (e : TypeId) (z : Value) (bytes : Nat) (ht : P.underlying t = some (.slice e)) (hinfo : (P.info? e).map (fun i => (i.zero, i.size, i.bytes)) = some (some z, 1, bytes)) (hzs : z.cells.size = 1)
    (v : Value) (L : List α) (hs : a.eval s = v) (hown : Built R w base e v L)
    (A : Option Addr) (m C : Nat) (l : List α) (hx : a.eval x = .slice A m C) (hl : SliceOf R w (.slice A m C) l)
    (hbytes : (L.length + l.length) * (bytes + 1) ≤ 140737488355328) (hbase : base ≤ w.heap.size)
    (h : ∀ v' w', Built R w' base e v' (L ++ l) → w.grownBy w' v.ownBlock → Below base w w' → wpList P ops Q rest (a.put o.dst v') w') : wpList P ops Q (o :: rest) a w := by
  obtain ⟨v', w', hrun, h2, h3, h4⟩ := run_append_list (P := P) hRw hR1 w base t o.type e z bytes ht hinfo hzs v L hown A m C l hl hbytes hbase
  exact Lib.wpList_append_run _ hgd s x t t ho _ _ hs hx v' w' hrun (h v' w' h2 h3 h4)
theorem step_append_list {P : Program} {α : Type} {R : World → Value → α → Prop} (hRw : ∀ w1 w2 c x, R w1 c x → R w2 c x) (hR1 : ∀ w c x, R w c x → c.oneCell' = true)
    (w : World) {ops : Array Oper} {o : Oper} {a : Act} {K : Act → World → Prop} {Q : Exit → Act → World → Prop} {E : Prop} (hgd : o.guard = none) (s x : Operand) (t : TypeId)
    (ho : o.op = .call { callee := .builtin .append, args := #[s, x], argTypes := #[t, t] })
    (base : Nat) (e : TypeId) (z : Value) (bytes : Nat) (ht : P.underlying t = some (.slice e)) (hinfo : (P.info? e).map (fun i => (i.zero, i.size, i.bytes)) = some (some z, 1, bytes)) (hzs : z.cells.size = 1)
    (v : Value) (L : List α) (hs : a.eval s = v) (hown : Built R w base e v L)
    (A : Option Addr) (m C : Nat) (l : List α) (hx : a.eval x = .slice A m C) (hl : SliceOf R w (.slice A m C) l)
    (hbytes : (L.length + l.length) * (bytes + 1) ≤ 140737488355328) (hbase : base ≤ w.heap.size)
    (h : ∀ v' w', Built R w' base e v' (L ++ l) → w.grownBy w' v.ownBlock → Below base w w' → K (a.put o.dst v') w') :
    if Region.wanted o (yielded ops a.tmps) = true then Oper.wp P o a w K Q else E := by
  rw [if_pos (show Region.wanted o (yielded ops a.tmps) = true by simp [Region.wanted, hgd])]
  obtain ⟨v', w', hrun, h2, h3, h4⟩ := run_append_list (P := P) hRw hR1 w base t o.type e z bytes ht hinfo hzs v L hown A m C l hl hbytes hbase
  exact Lib.wp_append_run _ s x t t ho _ _ hs hx v' w' hrun (h v' w' h2 h3 h4)
theorem Bytes.take {w : World} {A : Option Addr} {n C : Nat} {l : List Nat} (h : Bytes w (.slice A n C) l) {j : Nat} (hj : j ≤ l.length) : Bytes w (.slice A j C) (l.take j) := by
  obtain ⟨A', n', C', q1, q2, q3, q4, q5, q6⟩ := h
  cases q1
  refine ⟨A, j, C, rfl, by simp; omega, by omega, q4, q5, fun i hi => ?_⟩
  have hi' : i < j := by simp at hi; omega
  rw [List.getElem_take]
  exact q6 i (by omega)
theorem Bytes.drop {w : World} {b o n C : Nat} {l : List Nat} (h : Bytes w (.slice (some ⟨b, o, none⟩) n C) l) {j : Nat} (hj : j ≤ l.length) : Bytes w (.slice (some ⟨b, o + j, none⟩) (n - j) (C - j)) (l.drop j) := by
  obtain ⟨A', n', C', q1, q2, q3, q4, q5, q6⟩ := h
  cases q1
  refine ⟨_, n - j, C - j, rfl, by simp; omega, by omega, by omega, (fun e => by cases e), fun i hi => ?_⟩
  have hi' : j + i < l.length := by simp at hi; omega
  obtain ⟨b', o', c, e1, e2, e3⟩ := q6 (j + i) hi'
  cases e1
  rw [List.getElem_drop]
  exact ⟨b, o + j, c, rfl, by rw [Nat.add_assoc]; exact e2, e3⟩
/-- what was built lies at its own place: it reads on, whatever becomes of what was there before -/
theorem Built.stays {w : World} {base t : Nat} {v : Value} {L : List Nat} {r : Option Nat} (h : Built ByteR w base t v L) (hr : ∀ g, r = some g → g < base) : ∀ w', w.grownBy w' r → Bytes w' v L := by
  intro w' hg
  have hl := h.own_lt
  have hs := h.slice
  cases r with
  | none => exact Bytes.below hs ⟨hg.os, hg.tape, hg.output, hg.size, fun i hi => hg.block i hi (by simp)⟩
  | some g =>
    have := hr g rfl
    exact Bytes.off hs (fun a n C e _ q => by have := (hl a.block (by rw [e]; rfl)).1; omega) hg
theorem byteR_world (w1 w2 : World) (c : Value) (x : Nat) (h : ByteR w1 c x) : ByteR w2 c x := h
theorem byteR_one (w : World) (c : Value) (x : Nat) (h : ByteR w c x) : c.oneCell' = true := by rw [h.1]; rfl
end Go.Mem
