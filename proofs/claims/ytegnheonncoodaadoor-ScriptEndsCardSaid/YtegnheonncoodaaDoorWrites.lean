/- A slice of bytes that the call has built by append: where it lies, and that it may be written. No program is named here. -/
import Derived.Test.YtegnheonncoodaaDoorList
namespace Go.Mem
open Go.RowKit
theorem Built.some {α : Type} {R : World → Value → α → Prop} {w : World} {base t : Nat} {v : Value} {L : List α} {n : Nat} (h : Built R w base t v L) (hn : L.length = n) (h0 : 0 < n) : ∃ g C, v = .slice (.some ⟨g, 0, none⟩) n C ∧ n ≤ C ∧ C ≤ 9223372036854775807 ∧ base ≤ g := by
  obtain ⟨xs, h1, _⟩ := h
  rcases h1.2 with ⟨_, e⟩ | ⟨g, cap, cur, e, hb, _, h3, h4, _, _⟩
  · omega
  · subst hn
    exact ⟨g, cap, e, h3, by unfold maxLen at h4; exact h4, hb⟩
theorem Built.writes {w : World} {base t : Nat} {g n C : Nat} {L : List Nat} (h : Built ByteR w base t (.slice (.some ⟨g, 0, none⟩) n C) L) : Row w g 0 L.length (fun i => L.getD i 0) := by
  have hs := h.slice
  obtain ⟨xs, h1, _⟩ := h
  have hf : ∀ i, w.frozen? ⟨g, i, none⟩ = false := by
    rcases h1.2 with ⟨e, _⟩ | ⟨g', cap, cur, e, _, hg, _⟩
    · cases e
    · cases e
      intro i
      simp [World.frozen?, hg]
  have hb : Bytes w (.slice (.some ⟨g, 0, none⟩) n C) L := hs
  refine ⟨fun i hi => ?_, fun i hi => ?_, fun i _ => hf _⟩
  · rw [(hb.here hi).1]; simp [hi]
  · have := (hb.here hi).2; simpa [hi] using this
/-- a literal of bytes -/
theorem const_bytes (w : World) (t : Nat) (m : Nat × Nat) (l : List Nat) (hn : l.length ≤ 9223372036854775807) (hbd : ∀ x ∈ l, x < 256) :
    Bytes (w.alloc (.cells (l.map fun x : Nat => Value.int .u8 x).toArray t m)) (.slice (some ⟨w.heap.size, 0, none⟩) l.length l.length) l := by
  refine ⟨some ⟨w.heap.size, 0, none⟩, l.length, l.length, rfl, rfl, Nat.le_refl _, by unfold maxLen; exact hn, (fun e => by cases e), fun i hi => ⟨w.heap.size, 0, .int .u8 (l[i] : Nat), rfl, ?_, rfl, hbd _ (List.getElem_mem hi)⟩⟩
  have h : (w.alloc (.cells (l.map fun x : Nat => Value.int .u8 x).toArray t m)).heap[w.heap.size]? = some (.cells (l.map fun x : Nat => Value.int .u8 x).toArray t m) := by unfold World.alloc; simp
  unfold World.cell?
  dsimp only
  rw [h]
  simp [hi]
/-- an append whose run is known, behind a guard that is met -/
theorem wpList_append_guarded {P : Program} (w : World) {ops : Array Oper} {rest : List Oper} {o : Oper} {a : Act} {Q : Exit → Act → World → Prop} (hgd : Region.wanted o (yielded ops a.tmps) = true) (s x : Operand) (t tn : TypeId)
    (ho : o.op = .call { callee := .builtin .append, args := #[s, x], argTypes := #[t, tn] }) (vs vx : Value) (hs : a.eval s = vs) (hx : a.eval x = vx)
    (v' : Value) (w' : World) (hr : (Builtin.append_ #[t, tn] o.type #[vs, vx]).run P w = .ok v' w') (h : wpList P ops Q rest (a.put o.dst v') w') : wpList P ops Q (o :: rest) a w := by
  unfold wpList
  rw [if_pos hgd]
  exact .inl (Lib.wp_append_run w s x t tn ho vs vx hs hx v' w' hr h)
end Go.Mem
