/- Slices that a call builds of structs whose parts lie in blocks K: they read on as long as these stay, whatever becomes of all others. No program is named here. -/
import Derived.Test.YtlgdchflegflkaaTbObj
namespace Go.Proofs.Ytlgdchflegflkaa.Tbl
set_option linter.unusedVariables false
open Go.ChangeShapes Go.WideShapes Go.ChangeAt Go.RowKit
open Go.Mem
/-- so it is, as long as the blocks of K stay -/
def On (K : Nat → Prop) (w : World) (P : World → Prop) : Prop := Sure (fun b => ¬ K b) w P
theorem On.turned {K F : Nat → Prop} {w w' : World} {P : World → Prop} (h : On K w P) (ht : Turned F w w') (hF : ∀ b, F b → ¬ K b) : On K w' P := Sure.later h (ht.mono hF)
theorem On.more {K K' : Nat → Prop} {w : World} {P : World → Prop} (h : On K w P) (hK : ∀ b, K b → K' b) : On K' w P := Sure.less h fun b hb q => hb (hK b q)
theorem On.here {K : Nat → Prop} {w : World} {P : World → Prop} (h : On K w P) : P w := Sure.here h
theorem On.both {K : Nat → Prop} {w : World} {P Q : World → Prop} (h : On K w P) (g : On K w Q) : On K w (fun w' => P w' ∧ Q w') := fun w' t => ⟨h w' t, g w' t⟩
theorem On.map {K : Nat → Prop} {w : World} {P Q : World → Prop} (h : On K w P) (hP : ∀ w, P w → Q w) : On K w Q := fun w' t => hP _ (h w' t)
def BuiltX {α : Type} (k : Nat) (R : World → (Nat → Value) → α → Prop) (K : Nat → Prop) (w : World) (t : Nat) (v : Value) (L : List α) : Prop :=
  ∃ xs : List Value, w.ownsRow 0 t k v L.length xs ∧ (∀ b, v.ownBlock = some b → ¬ K b) ∧ ∀ i (h : i < L.length), ∃ f : Nat → Value, (∀ j, j < k → xs[i * k + j]? = some (f j)) ∧ On K w (fun w' => R w' f L[i])
section
variable {α : Type} {k : Nat} {R : World → (Nat → Value) → α → Prop} {K K' F : Nat → Prop} {w w' : World} {t : Nat} {v : Value} {L : List α}
theorem BuiltX.start (k : Nat) (R : World → (Nat → Value) → α → Prop) (K : Nat → Prop) (w : World) (t : Nat) : BuiltX k R K w t (.slice none 0 0) [] := ⟨[], World.ownsRow_nil _ _ _ _, fun _ q => (by cases q), fun _ h => absurd h (by simp)⟩
theorem row_stays {n : Nat} {xs : List Value} (h1 : w.ownsRow 0 t k v n xs) (ht : Turned F w w') (hF : ∀ b, F b → v.ownBlock ≠ some b) : w'.ownsRow 0 t k v n xs := by
  have hlt := h1.lt
  refine ⟨h1.1, ?_⟩
  rcases h1.2 with h0 | ⟨g, cap, cur, e, q1, q2, q3⟩
  · exact .inl h0
  · obtain ⟨l1, l2⟩ := hlt g (by rw [e]; rfl)
    exact .inr ⟨g, cap, cur, e, q1, (ht.block g l2 (fun q => hF g q (by rw [e]; rfl))).trans q2, q3⟩
theorem BuiltX.turned (h : BuiltX k R K w t v L) (ht : Turned F w w') (hF : ∀ b, F b → ¬ K b ∧ v.ownBlock ≠ some b) : BuiltX k R K w' t v L := by
  obtain ⟨xs, h1, h2, h3⟩ := h
  refine ⟨xs, row_stays h1 ht (fun b q => (hF b q).2), h2, fun i hi => ?_⟩
  obtain ⟨f, e, hR⟩ := h3 i hi
  exact ⟨f, e, hR.turned ht fun b q => (hF b q).1⟩
theorem BuiltX.below (h : BuiltX k R K w t v L) (ht : Below w.heap.size w w') : BuiltX k R K w' t v L := h.turned (Turned.of_below (fun _ => False) ht) (fun _ q => q.elim)
theorem BuiltX.own_lt (h : BuiltX k R K w t v L) : ∀ b, v.ownBlock = some b → b < w.heap.size := by
  obtain ⟨xs, h1, _⟩ := h
  exact fun b q => (h1.lt b q).2
theorem BuiltX.more (h : BuiltX k R K w t v L) (hK : ∀ b, K b → K' b) (ho : ∀ b, v.ownBlock = some b → ¬ K' b) : BuiltX k R K' w t v L := by
  obtain ⟨xs, h1, h2, h3⟩ := h
  refine ⟨xs, h1, ho, fun i hi => ?_⟩
  obtain ⟨f, e, hR⟩ := h3 i hi
  exact ⟨f, e, hR.more hK⟩
theorem BuiltX.cells (h : BuiltX k R K w t v L) : Cells k R w v L := by
  obtain ⟨xs, h1, h2, hx⟩ := h
  have h3 := h1
  rcases h1.2 with ⟨e1, e2⟩ | ⟨g, cap, cur, e1, _, e3, e4, e5, _, _⟩
  · exact ⟨none, 0, 0, e1, e2.symm, Nat.le_refl _, Nat.zero_le _, fun _ => rfl, fun i hi => absurd hi (by omega)⟩
  · refine ⟨some ⟨g, 0, none⟩, L.length, cap, e1, rfl, e4, e5, (fun e => by cases e), fun i hi => ?_⟩
    obtain ⟨f, e, hR⟩ := hx i hi
    refine ⟨g, 0, f, rfl, fun j hj => ?_, hR.here⟩
    have := h3.cells (g := g) (by rw [e1]; rfl) _ _ (e j hj)
    rw [Nat.zero_add]
    rwa [add_from] at this
theorem BuiltX.on (h : BuiltX k R K w t v L) : On (fun b => K b ∨ v.ownBlock = some b) w (fun w' => Cells k R w' v L) := fun w' ht => (h.turned ht (fun b q => ⟨fun z => q (.inl z), fun z => q (.inr z)⟩)).cells
theorem BuiltX.len (h : BuiltX k R K w t v L) : ∃ A C, v = .slice A L.length C ∧ L.length ≤ C ∧ C ≤ 9223372036854775807 ∧ (A = none → C = 0) := h.cells.shape
end
theorem run_append_builtX {P : Program} {α : Type} {k : Nat} {R : World → (Nat → Value) → α → Prop} {K : Nat → Prop} (w : World) (t ty e : TypeId) (z : Value) (bytes : Nat) (ht : P.underlying t = some (.slice e))
    (hinfo : (P.info? e).map (fun i => (i.zero, i.size, i.bytes)) = some (some z, k, bytes)) (hzs : z.cells.size = k) (hk0 : 0 < k) (v : Value) (L : List α) (hown : BuiltX k R K w e v L) (hK : ∀ b, K b → b < w.heap.size)
    (cs : Array Value) (y : α) (hcs : cs.size = k) (h1 : ∀ u ∈ cs.toList, u.oneCell' = true) (hR : On K w (fun w' => R w' (fun j => cs.getD j undef) y)) (hbytes : (L.length + 1) * (bytes + 1) ≤ 140737488355328) :
    ∃ v' w', (Builtin.append_ #[t, t] ty #[v, .slice (some ⟨w.heap.size, 0, none⟩) 1 1]).run P (w.alloc (.cells cs e)) = .ok v' w' ∧ BuiltX k R K w' e v' (L ++ [y]) ∧ Turned (fun b => v.ownBlock = some b) w w' ∧ (v'.ownBlock = v.ownBlock ∨ v'.ownBlock = some (w.heap.size + 1)) := by
  obtain ⟨xs, hrow, hno, hel⟩ := hown
  obtain ⟨v', w', hrun, hown', hg0, hat⟩ := run_append_cells (P := P) w 0 t ty e z k bytes ht hinfo hzs hk0 v L.length xs hrow cs hcs h1 hbytes (Nat.zero_le _)
  have ht0 : Turned (fun b => v.ownBlock = some b) w w' := Turned.grown hg0 (fun b hb => hb)
  refine ⟨v', w', hrun, ⟨xs ++ cs.toList, by rw [List.length_append]; exact hown', fun b q hb => ?_, fun j hj => ?_⟩, ht0, hat⟩
  · rcases hat with e1 | e1
    · exact hno b (e1 ▸ q) hb
    · rw [e1] at q
      injection q with q
      have := hK b hb
      omega
  have hxl : xs.length = L.length * k := hrow.1
  by_cases hlt : j < L.length
  · obtain ⟨f, e1, e2⟩ := hel j hlt
    have hm : j * k + k ≤ L.length * k := by
      have := Nat.mul_le_mul_right k (show j + 1 ≤ L.length from hlt)
      rw [Nat.add_mul, Nat.one_mul] at this
      exact this
    refine ⟨f, fun i hi => by rw [List.getElem?_append_left (by omega)]; exact e1 i hi, ?_⟩
    rw [List.getElem_append_left hlt]
    exact e2.turned ht0 hno
  · have hj' : j = L.length := by simp at hj; omega
    subst hj'
    refine ⟨fun i => cs.getD i undef, fun i hi => ?_, ?_⟩
    · rw [List.getElem?_append_right (by omega), hxl, Nat.add_sub_cancel_left, Array.getElem?_toList]
      have : i < cs.size := by omega
      simp [Array.getD, this]
    · rw [List.getElem_append_right (Nat.le_refl _)]
      have e : On K w' (fun w' => R w' (fun j => cs.getD j undef) y) := hR.turned ht0 hno
      simpa using e
theorem wpList_append_builtX {P : Program} {α : Type} {k : Nat} {R : World → (Nat → Value) → α → Prop} {K : Nat → Prop} (w : World) {ops : Array Oper} {rest : List Oper} {o : Oper} {a : Act} {Q : Exit → Act → World → Prop} (hgd : o.guard = none) (s x : Operand) (t : TypeId)
    (ho : o.op = .call { callee := .builtin .append, args := #[s, x], argTypes := #[t, t] })
    (e : TypeId) (z : Value) (bytes : Nat) (ht : P.underlying t = some (.slice e)) (hinfo : (P.info? e).map (fun i => (i.zero, i.size, i.bytes)) = some (some z, k, bytes)) (hzs : z.cells.size = k) (hk0 : 0 < k)
    (v : Value) (L : List α) (hs : a.eval s = v) (hown : BuiltX k R K w e v L) (hK : ∀ b, K b → b < w.heap.size)
    (cs : Array Value) (y : α) (bk : Nat) (hx : a.eval x = .slice (some ⟨bk, 0, none⟩) 1 1) (hbk : bk = w.heap.size) (hcs : cs.size = k) (h1 : ∀ u ∈ cs.toList, u.oneCell' = true) (hR : On K w (fun w' => R w' (fun j => cs.getD j undef) y))
    (hbytes : (L.length + 1) * (bytes + 1) ≤ 140737488355328)
    (h : ∀ v' w', BuiltX k R K w' e v' (L ++ [y]) → Turned (fun b => v.ownBlock = some b) w w' → (v'.ownBlock = v.ownBlock ∨ v'.ownBlock = some (w.heap.size + 1)) → wpList P ops Q rest (a.put o.dst v') w') : wpList P ops Q (o :: rest) a (w.alloc (.cells cs e)) := by
  subst hbk
  obtain ⟨v', w', hrun, h2, h3, h4⟩ := run_append_builtX (P := P) w t o.type e z bytes ht hinfo hzs hk0 v L hown hK cs y hcs h1 hR hbytes
  exact Lib.wpList_append_run _ hgd s x t t ho _ _ hs hx v' w' hrun (h v' w' h2 h3 h4)
/-- ints that a call has built read on, as long as their own block stays -/
theorem ints_own {w : World} {base t : Nat} {v : Value} {l : List Int} (h : Built IntR w base t v l) : On (fun b => v.ownBlock = some b) w (fun w' => Ints w' v l) := by
  intro w' ht
  obtain ⟨xs, h1, h2⟩ := h
  have hk : w'.ownsRow base t 1 v l.length xs := by
    have hlt := h1.lt
    refine ⟨h1.1, ?_⟩
    rcases h1.2 with h0 | ⟨g, cap, cur, e, q1, q2, q3⟩
    · exact .inl h0
    · obtain ⟨l1, l2⟩ := hlt g (by rw [e]; rfl)
      exact .inr ⟨g, cap, cur, e, q1, (ht.block g l2 (fun q => q (by rw [e]; rfl))).trans q2, q3⟩
  have hb : Built IntR w' base t v l := ⟨xs, hk, fun i hi => by
    obtain ⟨c, e, hR⟩ := h2 i hi
    exact ⟨c, e, fun w'' _ => hR w (World.grownBy.refl _ _)⟩⟩
  exact hb.slice
/-- append([]int{}, l...): the run, and what it leaves -/
theorem int_app {P : Program} (w : World) (t ty e : TypeId) (ht : P.underlying t = some (.slice e)) (hinfo : (P.info? e).map (fun i => (i.zero, i.size, i.bytes)) = some (some (.int .i64 0), 1, 8)) (A : Option Addr) (m C : Nat) (l : List Int) (hl : Ints w (.slice A m C) l) (hlen : l.length ≤ 1000000) :
    ∃ v' w', (Builtin.append_ #[t, t] ty #[.slice (some ⟨w.heap.size, 0, none⟩) 0 0, .slice A m C]).run P (w.alloc (.cells #[] e)) = .ok v' w' ∧ Built IntR w' w.heap.size e v' l ∧ Below w.heap.size w w' ∧ ∃ A' C', v' = .slice A' l.length C' := by
  have hal : Below w.heap.size w (w.alloc (.cells #[] e)) := (Below.refl _ _).alloc (Nat.le_refl _) _
  obtain ⟨v', w', h1, h2, h3, h4⟩ := run_append_list (P := P) (R := IntR) (fun _ _ _ _ h => h) (fun _ _ _ h => by rw [h.1]; rfl) (w.alloc (.cells #[] e)) w.heap.size t ty e (.int .i64 0) 8 ht hinfo rfl _ [] (built_none (R := IntR) (t := e) w (Nat.le_refl _)) A m C l (hl.below hal) (by simp; omega) hal.size
  rw [List.nil_append] at h2
  obtain ⟨A', C', e', -, -⟩ := h2.len
  exact ⟨v', w', h1, h2, hal.trans h4, A', C', e'⟩
/-- .. in a region whose order is drawn -/
theorem int_appd {P : Program} (w : World) (t ty e : TypeId) (ht : P.underlying t = some (.slice e)) (hinfo : (P.info? e).map (fun i => (i.zero, i.size, i.bytes)) = some (some (.int .i64 0), 1, 8)) (A : Option Addr) (m C : Nat) (l : List Int) (hl : Ints w (.slice A m C) l) (hlen : l.length ≤ 1000000) :
    ∃ v' w', (Builtin.append_ #[t, t] ty #[.slice (some ⟨w.heap.size, 0, none⟩) 0 0, .slice A m C]).run P (w.alloc (.cells #[] e)).drew = .ok v' w' ∧ Built IntR w' w.heap.size e v' l ∧ Below w.heap.size w w' ∧ ∃ A' C', v' = .slice A' l.length C' := by
  have hal : Below w.heap.size w (w.alloc (.cells #[] e)).drew := ((Below.refl _ _).alloc (Nat.le_refl _) _).drew
  obtain ⟨v', w', h1, h2, h3, h4⟩ := run_append_list (P := P) (R := IntR) (fun _ _ _ _ h => h) (fun _ _ _ h => by rw [h.1]; rfl) (w.alloc (.cells #[] e)).drew w.heap.size t ty e (.int .i64 0) 8 ht hinfo rfl _ [] ((built_none (R := IntR) (t := e) w (Nat.le_refl _)).below (below_drewN _ _ 1)) A m C l (hl.below hal) (by simp; omega) hal.size
  rw [List.nil_append] at h2
  obtain ⟨A', C', e', -, -⟩ := h2.len
  exact ⟨v', w', h1, h2, hal.trans h4, A', C', e'⟩
end Go.Proofs.Ytlgdchflegflkaa.Tbl
