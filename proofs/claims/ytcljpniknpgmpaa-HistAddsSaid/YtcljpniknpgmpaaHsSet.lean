/- The program's history: one cell of one call is written over. -/
import Derived.Test.YtcljpniknpgmpaaHsGo
import Derived.Test.YtcljpniknpgmpaaTill
namespace Go.Proofs.Ytcljpniknpgmpaa.Hst
set_option linter.unusedVariables false
open Go.ChangeShapes Go.WideShapes Go.ChangeAt Go.RowKit
open Go.Mem Hs
section
variable {w : World} {E E' : Nat → Prop} {p g n C : Nat} {M : Option Nat} {s : St} {k : Nat}
theorem HAt.set (h : HAt w E p M (.slice (some ⟨g, 0, none⟩) n C) s) (hk : k < s.calls.length) {j : Nat} (hj : j < 10) (hE : ∀ b, E b → E' b) (hlt : ∀ b, E' b → b < w.heap.size) (hfr : ∀ b, E' b → E b ∨ ¬ foot E p M (.slice (some ⟨g, 0, none⟩) n C) b) (u : Value) (y : CallD) (hy : y.task = s.calls[k].task)
    (hR : ∀ f, On E w (fun w' => CallR w' f s.calls[k]) → On E' w (fun w' => CallR w' (fun m => if m = j then u else f m) y)) : HAt (w.setCell ⟨g, k * 10 + j, none⟩ u) E' p M (.slice (some ⟨g, 0, none⟩) n C) (s.put k y) := by
  have hgl : g < w.heap.size := h.calls.own_lt g rfl
  have hgE : ¬ E' g := fun q => by
    rcases hfr g q with z | z
    · obtain ⟨xs, _, h2, _⟩ := h.calls
      exact h2 g rfl z
    · exact z (.inr (.inr (.inr rfl)))
  have ht : Turned (fun b => b = g) w (w.setCell ⟨g, k * 10 + j, none⟩ u) := Turned.set _ rfl
  have hpg : p ≠ g := fun q => h.vp (by rw [q]; rfl)
  refine ⟨h.head.of_block (ht.block p h.head.lt hpg), h.calls.put hk hj hE hgE u y hR, ?_, fun b q => Nat.lt_of_lt_of_le (hlt b q) ht.size, fun q => ?_, fun b q => ⟨fun z => ?_, (h.nm b q).2⟩, h.vp, St.put_uniq h.uniq hk hy⟩
  · rcases h.map with ⟨e, hn⟩ | ⟨b, e, hm⟩
    · exact .inl ⟨e, fun t => by rw [St.put_find h.uniq hk hy]; exact hn t⟩
    · have hbg : b ≠ g := fun q => (h.nm b e).2.2 (by rw [q]; rfl)
      exact .inr ⟨b, e, (hm.congr (s' := s.put k y) (by simp [St.put]) (fun t => St.put_find h.uniq hk hy t)).keep (ht.block b hm.lt hbg)⟩
  · rcases hfr p q with z | z
    · exact h.np z
    · exact z (.inl rfl)
  · rcases hfr b z with z | z
    · exact (h.nm b q).1 z
    · exact z (.inr (.inr (.inl q)))
theorem HAt.setMo (h : HAt w E p M (.slice (some ⟨g, 0, none⟩) n C) s) (hk : k < s.calls.length) {z : Int} (hz : I64 z) {c : CallD} (hc : s.calls[k] = c) : HAt (w.setCell ⟨g, k * 10 + 6, none⟩ (.int .i64 z)) E p M (.slice (some ⟨g, 0, none⟩) n C) (s.put k ⟨c.task, c.op, c.key, c.data, c.fr, c.to, z, c.e, c.out, c.keys⟩) :=
  h.set hk (by omega) (fun _ q => q) h.lt (fun _ q => .inl q) _ _ (by rw [hc]) fun f hf w' t => by
    have q := hf w' t
    rw [hc] at q
    exact ⟨q.r0, q.r1, q.r2, q.r3, q.r4, q.r5, rfl, q.r7, q.r8, q.r9, ⟨q.ok.task, q.ok.op, q.ok.fr, q.ok.to, hz, q.ok.e, q.ok.data, q.ok.out, q.ok.keys⟩⟩
theorem HAt.setTo (h : HAt w E p M (.slice (some ⟨g, 0, none⟩) n C) s) (hk : k < s.calls.length) {z : Int} (hz : I64 z) {c : CallD} (hc : s.calls[k] = c) : HAt (w.setCell ⟨g, k * 10 + 5, none⟩ (.int .i64 z)) E p M (.slice (some ⟨g, 0, none⟩) n C) (s.put k ⟨c.task, c.op, c.key, c.data, c.fr, z, c.mo, c.e, c.out, c.keys⟩) :=
  h.set hk (by omega) (fun _ q => q) h.lt (fun _ q => .inl q) _ _ (by rw [hc]) fun f hf w' t => by
    have q := hf w' t
    rw [hc] at q
    exact ⟨q.r0, q.r1, q.r2, q.r3, q.r4, rfl, q.r6, q.r7, q.r8, q.r9, ⟨q.ok.task, q.ok.op, q.ok.fr, hz, q.ok.mo, q.ok.e, q.ok.data, q.ok.out, q.ok.keys⟩⟩
theorem HAt.setE (h : HAt w E p M (.slice (some ⟨g, 0, none⟩) n C) s) (hk : k < s.calls.length) {z : Int} (hz : I64 z) {c : CallD} (hc : s.calls[k] = c) : HAt (w.setCell ⟨g, k * 10 + 7, none⟩ (.int .i64 z)) E p M (.slice (some ⟨g, 0, none⟩) n C) (s.put k ⟨c.task, c.op, c.key, c.data, c.fr, c.to, c.mo, z, c.out, c.keys⟩) :=
  h.set hk (by omega) (fun _ q => q) h.lt (fun _ q => .inl q) _ _ (by rw [hc]) fun f hf w' t => by
    have q := hf w' t
    rw [hc] at q
    exact ⟨q.r0, q.r1, q.r2, q.r3, q.r4, q.r5, q.r6, rfl, q.r8, q.r9, ⟨q.ok.task, q.ok.op, q.ok.fr, q.ok.to, q.ok.mo, hz, q.ok.data, q.ok.out, q.ok.keys⟩⟩
/-- what a copy in new memory adds to the blocks of the parts -/
def Plus (E : Nat → Prop) (u : Value) : Nat → Prop := fun b => E b ∨ u.ownBlock = some b
theorem HAt.setOut (h : HAt w E p M (.slice (some ⟨g, 0, none⟩) n C) s) (hk : k < s.calls.length) {u : Value} {l : List Nat} (hu : On (fun b => u.ownBlock = some b) w (fun w' => Bytes w' u l)) (hlt : ∀ b, u.ownBlock = some b → b < w.heap.size) (hfr : ∀ b, u.ownBlock = some b → ¬ foot E p M (.slice (some ⟨g, 0, none⟩) n C) b) (hl : l.length ≤ 200) {c : CallD} (hc : s.calls[k] = c) :
    HAt (w.setCell ⟨g, k * 10 + 8, none⟩ u) (Plus E u) p M (.slice (some ⟨g, 0, none⟩) n C) (s.put k ⟨c.task, c.op, c.key, c.data, c.fr, c.to, c.mo, c.e, l, c.keys⟩) :=
  h.set hk (by omega) (fun _ q => .inl q) (fun b q => q.elim (h.lt b) (hlt b)) (fun b q => q.imp id (hfr b)) _ _ (by rw [hc]) fun f hf w' t => by
    have q := hf w' (t.mono fun b z k => z (.inl k))
    rw [hc] at q
    exact ⟨q.r0, q.r1, q.r2, q.r3, q.r4, q.r5, q.r6, q.r7, hu w' (t.mono fun b z k => z (.inr k)), q.r9, ⟨q.ok.task, q.ok.op, q.ok.fr, q.ok.to, q.ok.mo, q.ok.e, q.ok.data, hl, q.ok.keys⟩⟩
theorem HAt.setKeys (h : HAt w E p M (.slice (some ⟨g, 0, none⟩) n C) s) (hk : k < s.calls.length) {u : Value} {l : List ByteArray} (hu : On (fun b => u.ownBlock = some b) w (fun w' => Strs w' u l)) (hlt : ∀ b, u.ownBlock = some b → b < w.heap.size) (hfr : ∀ b, u.ownBlock = some b → ¬ foot E p M (.slice (some ⟨g, 0, none⟩) n C) b) (hl : l.length ≤ 50) {c : CallD} (hc : s.calls[k] = c) :
    HAt (w.setCell ⟨g, k * 10 + 9, none⟩ u) (Plus E u) p M (.slice (some ⟨g, 0, none⟩) n C) (s.put k ⟨c.task, c.op, c.key, c.data, c.fr, c.to, c.mo, c.e, c.out, l⟩) :=
  h.set hk (by omega) (fun _ q => .inl q) (fun b q => q.elim (h.lt b) (hlt b)) (fun b q => q.imp id (hfr b)) _ _ (by rw [hc]) fun f hf w' t => by
    have q := hf w' (t.mono fun b z k => z (.inl k))
    rw [hc] at q
    exact ⟨q.r0, q.r1, q.r2, q.r3, q.r4, q.r5, q.r6, q.r7, q.r8, hu w' (t.mono fun b z k => z (.inr k)), ⟨q.ok.task, q.ok.op, q.ok.fr, q.ok.to, q.ok.mo, q.ok.e, q.ok.data, q.ok.out, hl⟩⟩
theorem HAt.someMap {V : Value} {b : Nat} (h : HAt w E p (some b) V s) : MapOf w b s := by
  rcases h.map with ⟨q, _⟩ | ⟨b', q, hm⟩
  · cases q
  · cases q
    exact hm
/-- a call's end: its moment, its error -/
theorem HAt.setEnd {c : CallD} (h : HAt w E p M (.slice (some ⟨g, 0, none⟩) n C) (s.put k c)) (hk : k < s.calls.length) {z e : Int} (hz : I64 z) (he : I64 e) : HAt ((w.setCell ⟨g, k * 10 + 5, none⟩ (.int .i64 z)).setCell ⟨g, k * 10 + 7, none⟩ (.int .i64 e)) E p M (.slice (some ⟨g, 0, none⟩) n C) (s.put k ⟨c.task, c.op, c.key, c.data, c.fr, z, c.mo, e, c.out, c.keys⟩) := by
  obtain ⟨hk2, hc2⟩ := St.put_at (s := s) (y := c) hk
  have h2 := h.setTo hk2 hz hc2
  rw [St.put_put] at h2
  obtain ⟨hk3, hc3⟩ := St.put_at (s := s) (y := ⟨c.task, c.op, c.key, c.data, c.fr, z, c.mo, c.e, c.out, c.keys⟩) hk
  have h3 := h2.setE hk3 he hc3
  rw [St.put_put] at h3
  exact h3
/-- .. and what it was answered -/
theorem HAt.setTail {c : CallD} (h : HAt w E p M (.slice (some ⟨g, 0, none⟩) n C) (s.put k c)) (hk : k < s.calls.length) {u v : Value} {l : List Nat} {m : List ByteArray} (hu : On (fun b => u.ownBlock = some b) w (fun w' => Bytes w' u l)) (hv : On (fun b => v.ownBlock = some b) w (fun w' => Strs w' v m)) (hlu : ∀ b, u.ownBlock = some b → b < w.heap.size) (hlv : ∀ b, v.ownBlock = some b → b < w.heap.size)
    (hfu : ∀ b, u.ownBlock = some b → ¬ foot E p M (.slice (some ⟨g, 0, none⟩) n C) b) (hfv : ∀ b, v.ownBlock = some b → ¬ foot E p M (.slice (some ⟨g, 0, none⟩) n C) b) (huv : ∀ b, v.ownBlock = some b → u.ownBlock ≠ some b) (hl : l.length ≤ 200) (hm : m.length ≤ 50) :
    HAt ((w.setCell ⟨g, k * 10 + 8, none⟩ u).setCell ⟨g, k * 10 + 9, none⟩ v) (Plus (Plus E u) v) p M (.slice (some ⟨g, 0, none⟩) n C) (s.put k ⟨c.task, c.op, c.key, c.data, c.fr, c.to, c.mo, c.e, l, m⟩) := by
  obtain ⟨hk2, hc2⟩ := St.put_at (s := s) (y := c) hk
  have h2 := h.setOut hk2 hu hlu hfu hl hc2
  rw [St.put_put] at h2
  obtain ⟨hk3, hc3⟩ := St.put_at (s := s) (y := ⟨c.task, c.op, c.key, c.data, c.fr, c.to, c.mo, c.e, l, c.keys⟩) hk
  have ht : Turned (fun b => b = g) w (w.setCell ⟨g, k * 10 + 8, none⟩ u) := Turned.set _ rfl
  have hvg : ∀ b, v.ownBlock = some b → b ≠ g := fun b q z => hfv b q (.inr (.inr (.inr (by rw [z]; rfl))))
  have h3 := h2.setKeys hk3 (u := v) (l := m) (fun w' q => hv w' (((ht.mono (fun b z k => hvg b k z)).trans q (Grown.refl _ _)))) (fun b q => Nat.lt_of_lt_of_le (hlv b q) ht.size) (fun b q z => by
    rcases z with z | z | z | z
    · exact hfv b q (.inl z)
    · rcases z with z | z
      · exact hfv b q (.inr (.inl z))
      · exact huv b q z
    · exact hfv b q (.inr (.inr (.inl z)))
    · exact hfv b q (.inr (.inr (.inr z)))) hm hc3
  rw [St.put_put] at h3
  exact h3
/-- the cells of call k -/
theorem HAt.el (h : HAt w E p M (.slice (some ⟨g, 0, none⟩) n C) s) (hk : k < s.calls.length) : ∀ j, j < 10 → ∃ v, w.cell? ⟨g, k * 10 + j, none⟩ = some v := fun j hj => by
  obtain ⟨g', C', f, e, -, -, hc, -⟩ := h.calls.el hk
  cases e
  exact ⟨_, hc j hj⟩
theorem HAt.elfree (h : HAt w E p M (.slice (some ⟨g, 0, none⟩) n C) s) (hk : k < s.calls.length) (j : Nat) : w.frozen? ⟨g, j, none⟩ = false := by
  obtain ⟨g', C', f, e, -, -, -, hf, -⟩ := h.calls.el hk
  cases e
  exact hf j
end
end Go.Proofs.Ytcljpniknpgmpaa.Hst
