/- Slices that a call builds of structs whose parts lie in blocks K: they read on as long as these stay, whatever becomes of all others; one cell of an element is written over. Slices of texts. No program is named here. -/
import Derived.Test.YtegnheonncoodaaDoorRecD
import Derived.Laws.OwnMore
namespace Go.Mem
set_option linter.unusedVariables false
open Go.RowKit
/-- so it is, whatever becomes of the blocks of X -/
def Sure (X : Nat → Prop) (w : World) (P : World → Prop) : Prop := ∀ w', Turned X w w' → P w'
section
variable {X Y : Nat → Prop} {w w' : World} {P Q : World → Prop}
theorem Sure.here (h : Sure X w P) : P w := h w (Turned.refl _ _)
theorem Sure.later (h : Sure X w P) (t : Turned X w w') : Sure X w' P := fun w'' t' => h w'' (t.trans t' (Grown.refl _ _))
theorem Sure.mono (h : Sure X w P) (hP : ∀ w, P w → Q w) : Sure X w Q := fun w' t => hP _ (h w' t)
theorem Sure.less (h : Sure X w P) (hX : ∀ b, Y b → X b) : Sure Y w P := fun w' t => h w' (t.mono hX)
end
/-- so it is, as long as the blocks of K stay -/
def On (K : Nat → Prop) (w : World) (P : World → Prop) : Prop := Sure (fun b => ¬ K b) w P
theorem On.turned {K F : Nat → Prop} {w w' : World} {P : World → Prop} (h : On K w P) (ht : Turned F w w') (hF : ∀ b, F b → ¬ K b) : On K w' P := Sure.later h (ht.mono hF)
theorem On.more {K K' : Nat → Prop} {w : World} {P : World → Prop} (h : On K w P) (hK : ∀ b, K b → K' b) : On K' w P := Sure.less h fun b hb q => hb (hK b q)
theorem On.here {K : Nat → Prop} {w : World} {P : World → Prop} (h : On K w P) : P w := Sure.here h
theorem On.both {K : Nat → Prop} {w : World} {P Q : World → Prop} (h : On K w P) (g : On K w Q) : On K w (fun w' => P w' ∧ Q w') := fun w' t => ⟨h w' t, g w' t⟩
theorem On.map {K : Nat → Prop} {w : World} {P Q : World → Prop} (h : On K w P) (hP : ∀ w, P w → Q w) : On K w Q := fun w' t => hP _ (h w' t)
def BuiltX {α : Type} (k : Nat) (R : World → (Nat → Value) → α → Prop) (K : Nat → Prop) (w : World) (t : Nat) (v : Value) (L : List α) : Prop :=
  ∃ xs : List Value, w.ownsRow 0 t k v L.length xs ∧ (∀ b, v.ownBlock = some b → ¬ K b) ∧ ∀ i (h : i < L.length), ∃ f : Nat → Value, (∀ j, j < k → xs[i * k + j]? = some (f j)) ∧ On K w (fun w' => R w' f L[i])
section
variable {α : Type} {k : Nat} {R : World → (Nat → Value) → α → Prop} {K K' F : Nat → Prop} {w w' : World} {t : Nat} {v : Value} {L : List α}
theorem BuiltX.start (k : Nat) (R : World → (Nat → Value) → α → Prop) (K : Nat → Prop) (w : World) (t : Nat) : BuiltX k R K w t (.slice none 0 0) [] := ⟨[], World.ownsRow_nil _ _ _ _, fun _ q => (by cases q), fun _ h => absurd h (by simp)⟩
theorem row_stays {n : Nat} {xs : List Value} (h1 : w.ownsRow 0 t k v n xs) (ht : Turned F w w') (hF : ∀ b, F b → v.ownBlock ≠ some b) : w'.ownsRow 0 t k v n xs := by
  have hlt := h1.lt
  refine ⟨h1.1, ?_⟩
  rcases h1.2 with h0 | ⟨g, cap, cur, e, q1, q2, q3⟩
  · exact .inl h0
  · obtain ⟨l1, l2⟩ := hlt g (by rw [e]; rfl)
    exact .inr ⟨g, cap, cur, e, q1, (ht.block g l2 (fun q => hF g q (by rw [e]; rfl))).trans q2, q3⟩
theorem BuiltX.turned (h : BuiltX k R K w t v L) (ht : Turned F w w') (hF : ∀ b, F b → ¬ K b ∧ v.ownBlock ≠ some b) : BuiltX k R K w' t v L := by
  obtain ⟨xs, h1, h2, h3⟩ := h
  refine ⟨xs, row_stays h1 ht (fun b q => (hF b q).2), h2, fun i hi => ?_⟩
  obtain ⟨f, e, hR⟩ := h3 i hi
  exact ⟨f, e, hR.turned ht fun b q => (hF b q).1⟩
theorem BuiltX.below (h : BuiltX k R K w t v L) (ht : Below w.heap.size w w') : BuiltX k R K w' t v L := h.turned (Turned.of_below (fun _ => False) ht) (fun _ q => q.elim)
theorem BuiltX.own_lt (h : BuiltX k R K w t v L) : ∀ b, v.ownBlock = some b → b < w.heap.size := by
  obtain ⟨xs, h1, _⟩ := h
  exact fun b q => (h1.lt b q).2
theorem BuiltX.more (h : BuiltX k R K w t v L) (hK : ∀ b, K b → K' b) (ho : ∀ b, v.ownBlock = some b → ¬ K' b) : BuiltX k R K' w t v L := by
  obtain ⟨xs, h1, h2, h3⟩ := h
  refine ⟨xs, h1, ho, fun i hi => ?_⟩
  obtain ⟨f, e, hR⟩ := h3 i hi
  exact ⟨f, e, hR.more hK⟩
theorem BuiltX.cells (h : BuiltX k R K w t v L) : Cells k R w v L := by
  obtain ⟨xs, h1, h2, hx⟩ := h
  have h3 := h1
  rcases h1.2 with ⟨e1, e2⟩ | ⟨g, cap, cur, e1, _, e3, e4, e5, _, _⟩
  · exact ⟨none, 0, 0, e1, e2.symm, Nat.le_refl _, Nat.zero_le _, fun _ => rfl, fun i hi => absurd hi (by omega)⟩
  · refine ⟨some ⟨g, 0, none⟩, L.length, cap, e1, rfl, e4, e5, (fun e => by cases e), fun i hi => ?_⟩
    obtain ⟨f, e, hR⟩ := hx i hi
    refine ⟨g, 0, f, rfl, fun j hj => ?_, hR.here⟩
    have := h3.cells (g := g) (by rw [e1]; rfl) _ _ (e j hj)
    rw [Nat.zero_add]
    rwa [add_from] at this
theorem BuiltX.on (h : BuiltX k R K w t v L) : On (fun b => K b ∨ v.ownBlock = some b) w (fun w' => Cells k R w' v L) := fun w' ht => (h.turned ht (fun b q => ⟨fun z => q (.inl z), fun z => q (.inr z)⟩)).cells
theorem BuiltX.len (h : BuiltX k R K w t v L) : ∃ A C, v = .slice A L.length C ∧ L.length ≤ C ∧ C ≤ 9223372036854775807 ∧ (A = none → C = 0) := h.cells.shape
end
theorem run_append_builtX {P : Program} {α : Type} {k : Nat} {R : World → (Nat → Value) → α → Prop} {K : Nat → Prop} (w : World) (t ty e : TypeId) (z : Value) (bytes : Nat) (ht : P.underlying t = some (.slice e))
    (hinfo : (P.info? e).map (fun i => (i.zero, i.size, i.bytes)) = some (some z, k, bytes)) (hzs : z.cells.size = k) (hk0 : 0 < k) (v : Value) (L : List α) (hown : BuiltX k R K w e v L) (hK : ∀ b, K b → b < w.heap.size)
    (cs : Array Value) (y : α) (hcs : cs.size = k) (h1 : ∀ u ∈ cs.toList, u.oneCell' = true) (hR : On K w (fun w' => R w' (fun j => cs.getD j undef) y)) (hbytes : (L.length + 1) * (bytes + 1) ≤ 140737488355328) :
    ∃ v' w', (Builtin.append_ #[t, t] ty #[v, .slice (some ⟨w.heap.size, 0, none⟩) 1 1]).run P (w.alloc (.cells cs e)) = .ok v' w' ∧ BuiltX k R K w' e v' (L ++ [y]) ∧ Turned (fun b => v.ownBlock = some b) w w' ∧ (v'.ownBlock = v.ownBlock ∨ v'.ownBlock = some (w.heap.size + 1)) := by
  obtain ⟨xs, hrow, hno, hel⟩ := hown
  obtain ⟨v', w', hrun, hown', hg0, hat⟩ := run_append_cells (P := P) w 0 t ty e z k bytes ht hinfo hzs hk0 v L.length xs hrow cs hcs h1 hbytes (Nat.zero_le _)
  have ht0 : Turned (fun b => v.ownBlock = some b) w w' := Turned.grown hg0 (fun b hb => hb)
  refine ⟨v', w', hrun, ⟨xs ++ cs.toList, by rw [List.length_append]; exact hown', fun b q hb => ?_, fun j hj => ?_⟩, ht0, hat⟩
  · rcases hat with e1 | e1
    · exact hno b (e1 ▸ q) hb
    · rw [e1] at q
      injection q with q
      have := hK b hb
      omega
  have hxl : xs.length = L.length * k := hrow.1
  by_cases hlt : j < L.length
  · obtain ⟨f, e1, e2⟩ := hel j hlt
    have hm : j * k + k ≤ L.length * k := by
      have := Nat.mul_le_mul_right k (show j + 1 ≤ L.length from hlt)
      rw [Nat.add_mul, Nat.one_mul] at this
      exact this
    refine ⟨f, fun i hi => by rw [List.getElem?_append_left (by omega)]; exact e1 i hi, ?_⟩
    rw [List.getElem_append_left hlt]
    exact e2.turned ht0 hno
  · have hj' : j = L.length := by simp at hj; omega
    subst hj'
    refine ⟨fun i => cs.getD i undef, fun i hi => ?_, ?_⟩
    · rw [List.getElem?_append_right (by omega), hxl, Nat.add_sub_cancel_left, Array.getElem?_toList]
      have : i < cs.size := by omega
      simp [Array.getD, this]
    · rw [List.getElem_append_right (Nat.le_refl _)]
      have e : On K w' (fun w' => R w' (fun j => cs.getD j undef) y) := hR.turned ht0 hno
      simpa using e
theorem wpList_append_builtX {P : Program} {α : Type} {k : Nat} {R : World → (Nat → Value) → α → Prop} {K : Nat → Prop} (w : World) {ops : Array Oper} {rest : List Oper} {o : Oper} {a : Act} {Q : Exit → Act → World → Prop} (hgd : o.guard = none) (s x : Operand) (t : TypeId)
    (ho : o.op = .call { callee := .builtin .append, args := #[s, x], argTypes := #[t, t] })
    (e : TypeId) (z : Value) (bytes : Nat) (ht : P.underlying t = some (.slice e)) (hinfo : (P.info? e).map (fun i => (i.zero, i.size, i.bytes)) = some (some z, k, bytes)) (hzs : z.cells.size = k) (hk0 : 0 < k)
    (v : Value) (L : List α) (hs : a.eval s = v) (hown : BuiltX k R K w e v L) (hK : ∀ b, K b → b < w.heap.size)
    (cs : Array Value) (y : α) (bk : Nat) (hx : a.eval x = .slice (some ⟨bk, 0, none⟩) 1 1) (hbk : bk = w.heap.size) (hcs : cs.size = k) (h1 : ∀ u ∈ cs.toList, u.oneCell' = true) (hR : On K w (fun w' => R w' (fun j => cs.getD j undef) y))
    (hbytes : (L.length + 1) * (bytes + 1) ≤ 140737488355328)
    (h : ∀ v' w', BuiltX k R K w' e v' (L ++ [y]) → Turned (fun b => v.ownBlock = some b) w w' → (v'.ownBlock = v.ownBlock ∨ v'.ownBlock = some (w.heap.size + 1)) → wpList P ops Q rest (a.put o.dst v') w') : wpList P ops Q (o :: rest) a (w.alloc (.cells cs e)) := by
  subst hbk
  obtain ⟨v', w', hrun, h2, h3, h4⟩ := run_append_builtX (P := P) w t o.type e z bytes ht hinfo hzs hk0 v L hown hK cs y hcs h1 hR hbytes
  exact Lib.wpList_append_run _ hgd s x t t ho _ _ hs hx v' w' hrun (h v' w' h2 h3 h4)
/-- the cells of element i -/
theorem BuiltX.el {α : Type} {k : Nat} {R : World → (Nat → Value) → α → Prop} {K : Nat → Prop} {w : World} {t : Nat} {v : Value} {L : List α} (h : BuiltX k R K w t v L) {i : Nat} (hi : i < L.length) :
    ∃ g C f, v = .slice (some ⟨g, 0, none⟩) L.length C ∧ L.length ≤ C ∧ C ≤ 9223372036854775807 ∧ (∀ j, j < k → w.cell? ⟨g, i * k + j, none⟩ = some (f j)) ∧ (∀ j, w.frozen? ⟨g, j, none⟩ = false) ∧ On K w (fun w' => R w' f L[i]) ∧ ¬ K g ∧ g < w.heap.size := by
  obtain ⟨xs, h1, h2, h3⟩ := h
  obtain ⟨f, e, hR⟩ := h3 i hi
  have hlt := h1.lt
  rcases h1.2 with ⟨_, e0⟩ | ⟨g, cap, cur, e1, _, e3, e4, e5, _, _⟩
  · omega
  · subst e1
    unfold maxLen at e5
    refine ⟨g, cap, f, rfl, e4, e5, fun j hj => ?_, fun j => h1.frozenAt j, hR, h2 g rfl, (hlt g rfl).2⟩
    have hm : i * k + k ≤ L.length * k := by
      have := Nat.mul_le_mul_right k (show i + 1 ≤ L.length from hi)
      rw [Nat.add_mul, Nat.one_mul] at this
      exact this
    rw [h1.cellAt (i * k + j) (by omega)]
    exact e j hj
theorem place_eq {k i j i' j' : Nat} (hj : j < k) (hj' : j' < k) (h : i * k + j = i' * k + j') : i = i' ∧ j = j' := by
  have h1 : (i * k + j) / k = i := by rw [Nat.mul_comm, Nat.mul_add_div (by omega), Nat.div_eq_of_lt hj]; rfl
  have h2 : (i' * k + j') / k = i' := by rw [Nat.mul_comm, Nat.mul_add_div (by omega), Nat.div_eq_of_lt hj']; rfl
  have e : i = i' := by rw [← h1, ← h2, h]
  subst e
  exact ⟨rfl, by omega⟩
/-- cell j of element i is written over -/
theorem BuiltX.put {α : Type} {k : Nat} {R : World → (Nat → Value) → α → Prop} {K K' : Nat → Prop} {w : World} {t g n C : Nat} {L : List α} (h : BuiltX k R K w t (.slice (some ⟨g, 0, none⟩) n C) L) {i j : Nat} (hi : i < L.length) (hj : j < k) (hK : ∀ b, K b → K' b) (hg : ¬ K' g) (u : Value) (y : α)
    (hR : ∀ f, On K w (fun w' => R w' f L[i]) → On K' w (fun w' => R w' (fun m => if m = j then u else f m) y)) : BuiltX k R K' (w.setCell ⟨g, i * k + j, none⟩ u) t (.slice (some ⟨g, 0, none⟩) n C) (L.set i y) := by
  obtain ⟨xs, h1, h2, h3⟩ := h
  obtain rfl : n = L.length := by
    rcases h1.2 with ⟨e1, _⟩ | ⟨g', cap, cur, e1, _⟩
    · cases e1
    · injection e1
  have hst := h1.stored (i * k + j) u
  have ht : Turned (fun b => b = g) w (w.setCell ⟨g, i * k + j, none⟩ u) := Turned.set _ rfl
  have hlen := h1.1
  have hm : ∀ i', i' < L.length → i' * k + k ≤ L.length * k := fun i' hi' => by
    have := Nat.mul_le_mul_right k (show i' + 1 ≤ L.length from hi')
    rw [Nat.add_mul, Nat.one_mul] at this
    exact this
  have hmi := hm i hi
  refine ⟨_, by rw [List.length_set]; exact hst.1, fun b q z => ?_, fun m hm' => ?_⟩
  · injection q with q; subst q; exact hg z
  have hml : m < L.length := by simpa using hm'
  obtain ⟨f, e1, e2⟩ := h3 m hml
  by_cases e : m = i
  · subst e
    refine ⟨fun z => if z = j then u else f z, fun z hz => ?_, ?_⟩
    · by_cases ez : z = j
      · subst ez
        dsimp only
        rw [if_pos rfl, List.getElem?_set_self (by omega)]
      · dsimp only
        rw [if_neg ez, List.getElem?_set_ne (by omega)]
        exact e1 z hz
    · rw [List.getElem_set_self]
      exact (hR f e2).turned ht (fun b q z => hg (q ▸ z))
  · refine ⟨f, fun z hz => ?_, ?_⟩
    · rw [List.getElem?_set_ne (fun q => e (place_eq hj hz q).1.symm)]
      exact e1 z hz
    · rw [List.getElem_set_ne (fun q => e q.symm)]
      exact (On.more e2 hK).turned ht (fun b q z => hg (q ▸ z))
theorem row_of (w : World) (c : Array Value) (T : TypeId) : (w.alloc (.cells c T)).rowIs w.heap.size T c.size (fun i => c.getD i undef) := World.rowIs_alloc w c T (fun i => c.getD i undef) (fun i hi => by simp [Array.getD, hi])
/-- a row of the call's own stands wherever its block stays -/
theorem ownsRow_on {w w' : World} {base t k n : Nat} {v : Value} {xs : List Value} (h : w.ownsRow base t k v n xs) (ht : Turned (fun b => ¬ v.ownBlock = some b) w w') : w'.ownsRow base t k v n xs := by
  have hlt := h.lt
  refine ⟨h.1, ?_⟩
  rcases h.2 with h0 | ⟨g, cap, cur, e, q1, q2, q3⟩
  · exact .inl h0
  · obtain ⟨l1, l2⟩ := hlt g (by rw [e]; rfl)
    exact .inr ⟨g, cap, cur, e, q1, (ht.block g l2 (fun q => q (by rw [e]; rfl))).trans q2, q3⟩
theorem slice_on {α : Type} {R : World → Value → α → Prop} (hRw : ∀ w1 w2 c x, R w1 c x → R w2 c x) {w : World} {base t : Nat} {v : Value} {l : List α} (h : Built R w base t v l) : On (fun b => v.ownBlock = some b) w (fun w' => SliceOf R w' v l) := by
  intro w' ht
  obtain ⟨xs, h1, h2⟩ := h
  have hb : Built R w' base t v l := ⟨xs, ownsRow_on h1 ht, fun i hi => by
    obtain ⟨c, e, hR⟩ := h2 i hi
    exact ⟨c, e, fun w'' _ => hRw w _ _ _ (hR w (World.grownBy.refl _ _))⟩⟩
  exact hb.slice
/-- texts -/
def StrR (_ : World) (c : Value) (s : ByteArray) : Prop := c = .string s
def Strs (w : World) (v : Value) (l : List ByteArray) : Prop := SliceOf StrR w v l
theorem strR_world (w1 w2 : World) (c : Value) (x : ByteArray) (h : StrR w1 c x) : StrR w2 c x := h
theorem strR_one (w : World) (c : Value) (x : ByteArray) (h : StrR w c x) : c.oneCell' = true := by rw [show c = .string x from h]; rfl
theorem Strs.below {w w' : World} {v : Value} {l : List ByteArray} (h : Strs w v l) (hb : Below w.heap.size w w') : Strs w' v l := SliceOf.mono h (below_cell hb) (fun _ _ h => h)
theorem Strs.shape {w : World} {v : Value} {l : List ByteArray} (h : Strs w v l) : ∃ A C, v = .slice A l.length C ∧ l.length ≤ C ∧ C ≤ 9223372036854775807 ∧ (A = none → C = 0) := SliceOf.shape h
theorem Strs.nil (w : World) : Strs w (.slice none 0 0) [] := ⟨none, 0, 0, rfl, rfl, Nat.le_refl _, Nat.zero_le _, fun _ => rfl, fun i hi => absurd hi (by simp)⟩
theorem Bytes.nil (w : World) : Bytes w (.slice none 0 0) [] := ⟨none, 0, 0, rfl, rfl, Nat.le_refl _, Nat.zero_le _, fun _ => rfl, fun i hi => absurd hi (by simp)⟩
theorem Strs.at {w : World} {A : Option Addr} {n C : Nat} {l : List ByteArray} (h : Strs w (.slice A n C) l) {i : Nat} (hi : i < l.length) : ∃ b o, A = some ⟨b, o, none⟩ ∧ w.cell? ⟨b, o + i, none⟩ = some (.string l[i]) := by
  obtain ⟨A', n', C', h1, _, _, _, _, h6⟩ := h
  cases h1
  obtain ⟨b, o, c, e1, e2, e3⟩ := h6 i hi
  exact ⟨b, o, e1, by rw [e2, show c = .string l[i] from e3]⟩
/-- what reads whatever becomes of X does not stand in X -/
theorem bytes_away {X : Nat → Prop} {w : World} {A : Option Addr} {n C : Nat} {l : List Nat} (h : Sure X w (fun w' => Bytes w' (.slice A n C) l)) {i : Nat} (hi : i < l.length) : ∃ b o, A = some ⟨b, o, none⟩ ∧ ¬ X b ∧ b < w.heap.size := by
  obtain ⟨b, o, e, c0, -⟩ := Bytes.at h.here hi
  refine ⟨b, o, e, fun hX => ?_, World.block_lt_of_cell? _ _ c0⟩
  have ht : Turned X w (w.setCell ⟨b, o + i, none⟩ (.bool true)) := Turned.set _ hX
  obtain ⟨b2, o2, e2, d0, -⟩ := Bytes.at (h _ ht) hi
  rw [e] at e2
  cases e2
  rw [World.cell?_setCell_same w ⟨b, o + i, none⟩ _ c0] at d0
  cases d0
end Go.Mem
