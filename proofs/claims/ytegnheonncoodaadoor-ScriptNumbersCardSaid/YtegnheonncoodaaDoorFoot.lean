/- Things in memory that hold blocks of their own (a footprint); what may turn, and what stays. No program is named here. -/
import Derived.Test.YtegnheonncoodaaDoorList
namespace Go.Mem
open Go.RowKit
/-- only blocks of F, and new ones, have turned -/
structure Turned (F : Nat → Prop) (w w' : World) : Prop where
  os : w'.os = w.os
  tape : w'.tape = w.tape
  output : w'.output = w.output
  size : w.heap.size ≤ w'.heap.size
  block : ∀ b, b < w.heap.size → ¬ F b → w'.heap[b]? = w.heap[b]?
/-- F' has nothing beside F but what is new -/
def Grown (F F' : Nat → Prop) (w : World) : Prop := ∀ b, F' b → F b ∨ w.heap.size ≤ b
theorem Grown.refl (F : Nat → Prop) (w : World) : Grown F F w := fun _ h => .inl h
theorem Grown.trans {F F' F'' : Nat → Prop} {w w' : World} (h : Grown F F' w) (k : Grown F' F'' w') (hs : w.heap.size ≤ w'.heap.size) : Grown F F'' w := fun b hb => by
  rcases k b hb with h1 | h1
  · exact h b h1
  · exact .inr (by omega)
section
variable {F F' : Nat → Prop} {w w' w'' : World}
theorem Turned.refl (F : Nat → Prop) (w : World) : Turned F w w := ⟨rfl, rfl, rfl, Nat.le_refl _, fun _ _ _ => rfl⟩
theorem Turned.trans (h : Turned F w w') (k : Turned F' w' w'') (hg : Grown F F' w) : Turned F w w'' :=
  ⟨k.os.trans h.os, k.tape.trans h.tape, k.output.trans h.output, Nat.le_trans h.size k.size, fun b hb hF => (k.block b (Nat.lt_of_lt_of_le hb h.size) (fun hF' => by rcases hg b hF' with h1 | h1; exact hF h1; omega)).trans (h.block b hb hF)⟩
theorem Turned.mono (h : Turned F w w') (hF : ∀ b, F b → F' b) : Turned F' w w' := ⟨h.os, h.tape, h.output, h.size, fun b hb hn => h.block b hb (fun q => hn (hF b q))⟩
theorem Turned.of_below (F : Nat → Prop) (h : Below w.heap.size w w') : Turned F w w' := ⟨h.os, h.tape, h.output, h.size, fun b hb _ => h.block b hb⟩
theorem Turned.below {B : Nat} (h : Turned F w w') (hF : ∀ b, F b → B ≤ b) (hB : B ≤ w.heap.size) : Below B w w' :=
  ⟨h.os, h.tape, h.output, h.size, fun b hb => h.block b (by omega) (fun q => by have := hF b q; omega)⟩
theorem Turned.drewN (F : Nat → Prop) (w : World) (n : Nat) : Turned F w (w.drewN n) := Turned.of_below F (below_drewN _ _ _)
theorem Turned.drew (F : Nat → Prop) (w : World) : Turned F w w.drew := Turned.of_below F (below_drewN _ _ 1)
theorem Turned.alloc (F : Nat → Prop) (w : World) (o : Obj) : Turned F w (w.alloc o) := Turned.of_below F ((Below.refl _ _).alloc (Nat.le_refl _) _)
theorem Turned.set {b o : Nat} (v : Value) (hb : F b) : Turned F w (w.setCell ⟨b, o, none⟩ v) :=
  ⟨rfl, rfl, rfl, by simp [World.setCell], fun i _ hn => Below.heap_setCell w ⟨b, o, none⟩ v i (fun e => hn (by rw [e]; exact hb))⟩
theorem Turned.grown {r : Option Nat} (h : w.grownBy w' r) (hr : ∀ k, r = some k → F k) : Turned F w w' :=
  ⟨h.os, h.tape, h.output, h.size, fun b hb hn => h.block b hb (fun e => hn (hr b e.symm))⟩
/-- what stands in blocks that are none of F's stands as it did -/
theorem Turned.stay (h : Turned F w w') {G : Nat → Prop} (hG : ∀ b, G b → b < w.heap.size) (hd : ∀ b, F b → ¬ G b) : ∀ b, G b → w'.heap[b]? = w.heap[b]? :=
  fun b hb => h.block b (hG b hb) (fun hF => hd b hF hb)
end
/-- v reads as l, in blocks of R -/
def RowIn (R : Nat → Prop) (w : World) (v : Value) (l : List Nat) : Prop := Bytes w v l ∧ ∀ a n C, v = .slice (some a) n C → 0 < n → R a.block
theorem RowIn.same {R R' : Nat → Prop} {w w' : World} {v : Value} {l : List Nat} (h : RowIn R w v l) (hs : ∀ b, R b → w'.heap[b]? = w.heap[b]?) (hR : ∀ b, R b → R' b) : RowIn R' w' v l := by
  obtain ⟨⟨A, n, C, h1, h2, h3, h4, h5, h6⟩, hin⟩ := h
  refine ⟨⟨A, n, C, h1, h2, h3, h4, h5, fun i hi => ?_⟩, fun a n C e hn => hR _ (hin a n C e hn)⟩
  obtain ⟨b, o, c, e1, e2, e3⟩ := h6 i hi
  have hb : R b := hin ⟨b, o, none⟩ n C (by rw [h1, e1]) (by omega)
  exact ⟨b, o, c, e1, (World.cell?_of_block (w := w) (a := ⟨b, o + i, none⟩) (hs b hb)).trans e2, e3⟩
theorem RowIn.nil (R : Nat → Prop) (w : World) : RowIn R w (.slice none 0 0) [] := ⟨⟨none, 0, 0, rfl, rfl, Nat.le_refl _, Nat.zero_le _, fun _ => rfl, fun i hi => absurd hi (by simp)⟩, fun a n C e _ => by cases e⟩
/-- a slice of bytes that the call has built reads in its own block -/
theorem Built.rowIn {w : World} {base t : Nat} {v : Value} {l : List Nat} {R : Nat → Prop} (h : Built ByteR w base t v l) (hR : ∀ b, v.ownBlock = some b → R b) : RowIn R w v l :=
  ⟨h.slice, fun a n C e _ => hR a.block (by rw [e]; rfl)⟩
/-- append of one element of several cells, as a step of a region whose order is drawn -/
theorem run_append_cells {P : Program} (w : World) (base : Nat) (t ty e : TypeId) (z : Value) (size bytes : Nat) (ht : P.underlying t = some (.slice e))
    (hinfo : (P.info? e).map (fun i => (i.zero, i.size, i.bytes)) = some (some z, size, bytes)) (hzs : z.cells.size = size) (hs0 : 0 < size) (v : Value) (n : Nat) (xs : List Value) (hown : w.ownsRow base e size v n xs)
    (cs : Array Value) (hcs : cs.size = size) (h1 : ∀ u ∈ cs.toList, u.oneCell' = true) (hbytes : (n + 1) * (bytes + 1) ≤ 140737488355328) (hbase : base ≤ w.heap.size) :
    ∃ v' w', (Builtin.append_ #[t, t] ty #[v, .slice (some ⟨w.heap.size, 0, none⟩) 1 1]).run P (w.alloc (.cells cs e)) = .ok v' w' ∧ w'.ownsRow base e size v' (n + 1) (xs ++ cs.toList) ∧ w.grownBy w' v.ownBlock ∧
      (v'.ownBlock = v.ownBlock ∨ v'.ownBlock = some (w.heap.size + 1)) := by
  obtain ⟨i, hi, hz0, hz1, hz2⟩ := info_parts hinfo
  have hal : Below w.heap.size w (w.alloc (.cells cs e)) := (Below.refl _ _).alloc (Nat.le_refl _) _
  have hb1 : (n + 1) * 1 ≤ (n + 1) * (bytes + 1) := Nat.mul_le_mul_left _ (by omega)
  have hb2 : (n + 1) * bytes ≤ (n + 1) * (bytes + 1) := Nat.mul_le_mul_left _ (by omega)
  have hnew : ∀ j u, cs.toList[j]? = some u → (w.alloc (.cells cs e)).cell? ((⟨w.heap.size, 0, none⟩ : Addr).add j) = some u := by
    intro j u hj
    have hb := heap_alloc_new w (.cells cs e)
    have hc : (w.alloc (.cells cs e)).cell? ⟨w.heap.size, j, none⟩ = cs[j]? := cell_of_row _ _ _ _ _ _ hb
    unfold Addr.add
    split
    · rename_i h0; subst h0; rw [hc]; simpa using hj
    · rw [Nat.zero_add, hc]; simpa using hj
  obtain ⟨v', w', hrun, hown', hg, _, hat⟩ := run_append_own_at (P := P) (w.alloc (.cells cs e)) base t ty e i z size bytes ht hi hz0 hz1 hz2 hzs hs0 v n xs (hown.alloc _) ⟨w.heap.size, 0, none⟩ 1 1 cs.toList (by simp [hcs]) hnew h1
    (by unfold maxLen; omega) (by omega) (by simp; omega)
  exact ⟨v', w', hrun, hown', grown_below hal hg, by simpa using hat⟩
theorem step_append_cells {P : Program} (w : World) {ops : Array Oper} {o : Oper} {a : Act} {K : Act → World → Prop} {Q : Exit → Act → World → Prop} {E : Prop} (hgd : o.guard = none) (s x : Operand) (t : TypeId)
    (ho : o.op = .call { callee := .builtin .append, args := #[s, x], argTypes := #[t, t] })
    (base : Nat) (e : TypeId) (z : Value) (size bytes : Nat) (ht : P.underlying t = some (.slice e)) (hinfo : (P.info? e).map (fun i => (i.zero, i.size, i.bytes)) = some (some z, size, bytes)) (hzs : z.cells.size = size) (hs0 : 0 < size)
    (v : Value) (n : Nat) (xs : List Value) (hs : a.eval s = v) (hown : w.ownsRow base e size v n xs)
    (cs : Array Value) (bk : Nat) (hx : a.eval x = .slice (some ⟨bk, 0, none⟩) 1 1) (hbk : bk = w.heap.size) (hcs : cs.size = size) (h1 : ∀ u ∈ cs.toList, u.oneCell' = true)
    (hbytes : (n + 1) * (bytes + 1) ≤ 140737488355328) (hbase : base ≤ w.heap.size)
    (h : ∀ v' w', w'.ownsRow base e size v' (n + 1) (xs ++ cs.toList) → w.grownBy w' v.ownBlock → (v'.ownBlock = v.ownBlock ∨ v'.ownBlock = some (w.heap.size + 1)) → K (a.put o.dst v') w') :
    if Region.wanted o (yielded ops a.tmps) = true then Oper.wp P o a (w.alloc (.cells cs e)) K Q else E := by
  subst hbk
  rw [if_pos (show Region.wanted o (yielded ops a.tmps) = true by simp [Region.wanted, hgd])]
  obtain ⟨v', w', hrun, h2, h3, h4⟩ := run_append_cells (P := P) w base t o.type e z size bytes ht hinfo hzs hs0 v n xs hown cs hcs h1 hbytes hbase
  exact Lib.wp_append_run _ s x t t ho _ _ hs hx v' w' hrun (h v' w' h2 h3 h4)
end Go.Mem
