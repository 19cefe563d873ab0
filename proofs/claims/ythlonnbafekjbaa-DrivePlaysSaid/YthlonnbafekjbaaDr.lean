/- A drive in memory: a struct of a table of slots, a list of loose writes, and a flag. No program is named here. -/
import Derived.Test.YthlonnbafekjbaaFoot
import Derived.Test.YthlonnbafekjbaaDrvSt
namespace Go.Mem
open Go.RowKit Drv
def fld (S L : Value) (x : Bool) : Nat → Value := fun i => if i = 0 then S else if i = 1 then L else .bool x
def wcells (X : Nat → Value) (l : List (Nat × List Nat)) : Nat → List Value
  | 0 => []
  | n + 1 => wcells X l n ++ [.int .i64 (((l.getD n (0, [])).1 : Nat) : Int), X n]
theorem wcells_len (X : Nat → Value) (l : List (Nat × List Nat)) : ∀ n, (wcells X l n).length = n * 2
  | 0 => rfl
  | n + 1 => by rw [wcells, List.length_append, wcells_len X l n]; simp; omega
theorem wcells_congr {X Y : Nat → Value} {l m : List (Nat × List Nat)} : ∀ {n}, (∀ j, j < n → X j = Y j) → (∀ j, j < n → l.getD j (0, []) = m.getD j (0, [])) → wcells X l n = wcells Y m n
  | 0, _, _ => rfl
  | n + 1, hX, hl => by
    rw [wcells, wcells, wcells_congr (n := n) (fun j hj => hX j (by omega)) (fun j hj => hl j (by omega)), hX n (by omega), hl n (by omega)]
theorem wcells_get (X : Nat → Value) (l : List (Nat × List Nat)) {j : Nat} : ∀ {n}, j < n → (wcells X l n)[2 * j]? = some (.int .i64 (((l.getD j (0, [])).1 : Nat) : Int)) ∧ (wcells X l n)[2 * j + 1]? = some (X j)
  | 0, h => absurd h (by omega)
  | n + 1, h => by
    rw [wcells]
    by_cases e : j = n
    · subst e
      rw [List.getElem?_append_right (by rw [wcells_len]; omega), List.getElem?_append_right (by rw [wcells_len]; omega), wcells_len, show 2 * j - j * 2 = 0 by omega, show 2 * j + 1 - j * 2 = 1 by omega]
      exact ⟨rfl, rfl⟩
    · rw [List.getElem?_append_left (by rw [wcells_len]; omega), List.getElem?_append_left (by rw [wcells_len]; omega)]
      exact wcells_get X l (by omega)
structure DrAt (T tS tW : Nat) (w : World) (p : Nat) (F R : Nat → Prop) (S L : Value) (V X : Nat → Value) (s : St) : Prop where
  head : w.rowIs p T 3 (fld S L s.lost)
  slots : (S = .slice none 0 0 ∧ s.slots.length = 0) ∨ ∃ bs, S = .slice (some ⟨bs, 0, none⟩) s.slots.length s.slots.length ∧ w.rowIs bs tS s.slots.length V ∧ F bs ∧ bs ≠ p ∧ ¬ R bs ∧ L.ownBlock ≠ some bs
  rows : ∀ i (h : i < s.slots.length), RowIn R w (V i) s.slots[i]
  loose : w.ownsRow 0 tW 2 L s.loose.length (wcells X s.loose s.loose.length)
  looser : ∀ j (h : j < s.loose.length), RowIn R w (X j) s.loose[j].2
  own : ∀ b, L.ownBlock = some b → F b ∧ b ≠ p ∧ ¬ R b
  fp : F p
  rp : ¬ R p
  rf : ∀ b, R b → F b
  lt : ∀ b, F b → b < w.heap.size
  ok : s.ok
def Dr (T tS tW : Nat) (w : World) (F : Nat → Prop) (p : Nat) (s : St) : Prop := ∃ R S L V X, DrAt T tS tW w p F R S L V X s
section
variable {T tS tW : Nat} {w w' : World} {p : Nat} {F R : Nat → Prop} {S L : Value} {V X : Nat → Value} {s : St}
theorem DrAt.same (h : DrAt T tS tW w p F R S L V X s) (hs : ∀ b, F b → w'.heap[b]? = w.heap[b]?) (hz : w.heap.size ≤ w'.heap.size) : DrAt T tS tW w' p F R S L V X s := by
  refine ⟨h.head.of_block (hs p h.fp), ?_, fun i hi => (h.rows i hi).same (fun b hb => hs b (h.rf b hb)) (fun _ q => q), ?_, fun j hj => (h.looser j hj).same (fun b hb => hs b (h.rf b hb)) (fun _ q => q), h.own, h.fp, h.rp, h.rf, fun b hb => Nat.lt_of_lt_of_le (h.lt b hb) hz, h.ok⟩
  · rcases h.slots with h0 | ⟨bs, e, hr, hF, h1, h2, h3⟩
    · exact .inl h0
    · exact .inr ⟨bs, e, hr.of_block (hs bs hF), hF, h1, h2, h3⟩
  · refine ⟨h.loose.1, ?_⟩
    rcases h.loose.2 with h0 | ⟨g, cap, cur, e, h1, h2, h3⟩
    · exact .inl h0
    · exact .inr ⟨g, cap, cur, e, h1, (hs g (h.own g (by rw [e]; rfl)).1).trans h2, h3⟩
theorem DrAt.turned {G : Nat → Prop} (h : DrAt T tS tW w p F R S L V X s) (ht : Turned G w w') (hd : ∀ b, G b → ¬ F b) : DrAt T tS tW w' p F R S L V X s :=
  h.same (ht.stay h.lt hd) ht.size
theorem Dr.turned {G : Nat → Prop} (h : Dr T tS tW w F p s) (ht : Turned G w w') (hd : ∀ b, G b → ¬ F b) : Dr T tS tW w' F p s := by
  obtain ⟨R, S, L, V, X, h⟩ := h
  exact ⟨R, S, L, V, X, h.turned ht hd⟩
theorem Dr.lt (h : Dr T tS tW w F p s) : ∀ b, F b → b < w.heap.size := by
  obtain ⟨R, S, L, V, X, h⟩ := h
  exact h.lt
theorem Dr.ok (h : Dr T tS tW w F p s) : s.ok := by
  obtain ⟨R, S, L, V, X, h⟩ := h
  exact h.ok
theorem Dr.fp (h : Dr T tS tW w F p s) : F p := by
  obtain ⟨R, S, L, V, X, h⟩ := h
  exact h.fp
theorem DrAt.drewN (h : DrAt T tS tW w p F R S L V X s) (n : Nat) : DrAt T tS tW (w.drewN n) p F R S L V X s := h.same (fun _ _ => rfl) (Nat.le_refl _)
theorem DrAt.below (h : DrAt T tS tW w p F R S L V X s) (hb : Below w.heap.size w w') : DrAt T tS tW w' p F R S L V X s := h.same (fun b q => hb.block b (h.lt b q)) hb.size
theorem DrAt.cells (h : DrAt T tS tW w p F R S L V X s) : w.cell? ⟨p, 0, none⟩ = some S ∧ w.cell? ⟨p, 1, none⟩ = some L ∧ w.cell? ⟨p, 2, none⟩ = some (.bool s.lost) :=
  ⟨h.head.cell (i := 0) (by omega), h.head.cell (i := 1) (by omega), h.head.cell (i := 2) (by omega)⟩
theorem DrAt.free (h : DrAt T tS tW w p F R S L V X s) (i : Nat) : w.frozen? ⟨p, i, none⟩ = false := h.head.frozen i
theorem DrAt.shape (h : DrAt T tS tW w p F R S L V X s) : ∃ A, S = .slice A s.slots.length s.slots.length ∧ (0 < s.slots.length → ∃ bs, A = some ⟨bs, 0, none⟩) := by
  rcases h.slots with ⟨e, h0⟩ | ⟨bs, e, _⟩
  · exact ⟨none, by rw [e, h0], fun q => by omega⟩
  · exact ⟨_, e, fun _ => ⟨bs, rfl⟩⟩
/-- the slots' own row -/
theorem DrAt.slot (h : DrAt T tS tW w p F R S L V X s) {bs n C : Nat} (e : S = .slice (some ⟨bs, 0, none⟩) n C) : w.rowIs bs tS s.slots.length V ∧ F bs ∧ bs ≠ p ∧ ¬ R bs ∧ L.ownBlock ≠ some bs := by
  rcases h.slots with ⟨e', _⟩ | ⟨bs', e', hr⟩
  · rw [e] at e'; cases e'
  · rw [e] at e'; cases e'; exact hr
theorem DrAt.lshape (h : DrAt T tS tW w p F R S L V X s) : ∃ A C, L = .slice A s.loose.length C ∧ s.loose.length ≤ C ∧ C ≤ 9223372036854775807 ∧ (0 < s.loose.length → ∃ g, A = some ⟨g, 0, none⟩) := by
  rcases h.loose.2 with ⟨e, h0⟩ | ⟨g, cap, cur, e, _, _, h1, h2, _⟩
  · exact ⟨none, 0, by rw [e, h0], by omega, by omega, fun q => by omega⟩
  · exact ⟨_, cap, e, h1, by unfold maxLen at h2; exact h2, fun _ => ⟨g, rfl⟩⟩
/-- a loose write's own cells -/
theorem DrAt.write (h : DrAt T tS tW w p F R S L V X s) {g n C : Nat} (e : L = .slice (some ⟨g, 0, none⟩) n C) {j : Nat} (hj : j < s.loose.length) :
    w.cell? ⟨g, j * 2, none⟩ = some (.int .i64 (s.loose[j].1 : Nat)) ∧ w.cell? ⟨g, j * 2 + 1, none⟩ = some (X j) := by
  have hw := wcells_get X s.loose hj
  have hc := h.loose.cells (g := g) (by rw [e]; rfl)
  have h0 := hc _ _ hw.1
  have h1 := hc _ _ hw.2
  rw [List.getD_eq_getElem?_getD, List.getElem?_eq_getElem hj] at h0
  have ha : ∀ k, (⟨g, 0, none⟩ : Addr).add k = ⟨g, k, none⟩ := by
    intro k
    unfold Addr.add
    split
    · rename_i q; rw [q]
    · rw [Nat.zero_add]
  rw [ha, Nat.mul_comm] at h0 h1
  exact ⟨h0, h1⟩
/-- slot i gets what write j has -/
theorem DrAt.store (h : DrAt T tS tW w p F R S L V X s) {bs n C : Nat} (e : S = .slice (some ⟨bs, 0, none⟩) n C) {i j : Nat} (hj : j < s.loose.length) :
    DrAt T tS tW (w.setCell ⟨bs, i, none⟩ (X j)) p F R S L (fun k => if k = i then X j else V k) X { s with slots := s.slots.set i s.loose[j].2 } := by
  obtain ⟨hr, hF, h1, h2, h3⟩ := h.slot e
  have hot : ∀ b, b ≠ bs → (w.setCell ⟨bs, i, none⟩ (X j)).heap[b]? = w.heap[b]? := fun b hb => Below.heap_setCell _ _ _ _ (fun q => hb q)
  have hRs : ∀ b, R b → (w.setCell ⟨bs, i, none⟩ (X j)).heap[b]? = w.heap[b]? := fun b hb => hot b (fun q => h2 (q ▸ hb))
  refine ⟨h.head.of_block (hot p (fun q => h1 q.symm)), ?_, fun k hk => ?_, ?_, fun k hk => (h.looser k hk).same hRs (fun _ q => q), h.own, h.fp, h.rp, h.rf, (fun b hb => by simpa [World.setCell] using h.lt b hb), ⟨fun k hk => by simpa using h.ok.lt k hk, by simpa using h.ok.sm, fun q => by simpa using h.ok.em q, fun l hl => by
    rcases List.mem_or_eq_of_mem_set hl with q | q
    · exact h.ok.sl l q
    · rw [q]; exact h.ok.ll _ (List.getElem_mem hj), h.ok.ll⟩⟩
  · rcases h.slots with ⟨e', _⟩ | ⟨bs', e', _⟩
    · rw [e] at e'; cases e'
    · have hb : bs' = bs := by rw [e] at e'; cases e'; rfl
      refine .inr ⟨bs, by rw [e', hb]; simp, ?_, hF, h1, h2, h3⟩
      have := hr.set i (X j)
      rw [List.length_set]
      exact this
  · have hk' : k < s.slots.length := by simpa using hk
    by_cases q : k = i
    · subst q
      rw [if_pos rfl]
      simp only [List.getElem_set_self]
      exact (h.looser j hj).same hRs (fun _ q => q)
    · rw [if_neg q]
      simp only [List.getElem_set_ne (fun x => q x.symm)]
      exact (h.rows k hk').same hRs (fun _ q => q)
  · refine ⟨h.loose.1, ?_⟩
    rcases h.loose.2 with h0 | ⟨g, cap, cur, e', h1', h2', h3'⟩
    · exact .inl h0
    · exact .inr ⟨g, cap, cur, e', h1', (hot g (fun q => h3 (by rw [e', ← q]; rfl))).trans h2', h3'⟩
/-- nothing is loose any more -/
theorem DrAt.clear (h : DrAt T tS tW w p F R S L V X s) : DrAt T tS tW (w.setCell ⟨p, 1, none⟩ (.slice none 0 0)) p F R S (.slice none 0 0) V X ⟨s.slots, [], s.lost⟩ := by
  have hot : ∀ b, b ≠ p → (w.setCell ⟨p, 1, none⟩ (.slice none 0 0)).heap[b]? = w.heap[b]? := fun b hb => Below.heap_setCell _ _ _ _ (fun q => hb q)
  have hRs : ∀ b, R b → (w.setCell ⟨p, 1, none⟩ (.slice none 0 0)).heap[b]? = w.heap[b]? := fun b hb => hot b (fun q => h.rp (q ▸ hb))
  refine ⟨(h.head.set 1 (.slice none 0 0)).congr fun i hi => ?_, ?_, fun k hk => (h.rows k hk).same hRs (fun _ q => q), World.ownsRow_nil _ _ _ _, fun k hk => absurd hk (by simp), (fun b hb => by cases hb), h.fp, h.rp, h.rf, (fun b hb => by simpa [World.setCell] using h.lt b hb), ⟨fun k hk => absurd hk (by simp), h.ok.sm, h.ok.em, h.ok.sl, fun x hx => absurd hx (by simp)⟩⟩
  · unfold fld
    rcases (by omega : i = 0 ∨ i = 1 ∨ i = 2) with rfl | rfl | rfl <;> rfl
  · rcases h.slots with h0 | ⟨bs, e, hr, hF, h1, h2, h3⟩
    · exact .inl h0
    · exact .inr ⟨bs, e, hr.of_block (hot bs h1), hF, h1, h2, (fun q => by cases q)⟩
/-- one loose write more -/
theorem DrAt.push {w1 w2 : World} {tB q : Nat} {v1 v2 : Value} {l : List Nat} (h : DrAt T tS tW w p F R S L V X s) (hb1 : Below w.heap.size w w1) (hrow : Built ByteR w1 w.heap.size tB v1 l)
    (hown : w2.ownsRow 0 tW 2 v2 (s.loose.length + 1) (wcells X s.loose s.loose.length ++ [.int .i64 (q : Nat), v1])) (hg : w1.grownBy w2 L.ownBlock)
    (hat : v2.ownBlock = L.ownBlock ∨ v2.ownBlock = some (w1.heap.size + 1)) (hq : q < s.slots.length) (hl64 : l.length ≤ 64) :
    ∃ F', DrAt T tS tW (w2.setCell ⟨p, 1, none⟩ v2) p F' (fun b => R b ∨ v1.ownBlock = some b) S v2 V (fun j => if j = s.loose.length then v1 else X j) { s with loose := s.loose ++ [(q, l)] } ∧ Turned F w (w2.setCell ⟨p, 1, none⟩ v2) ∧ Grown F F' w := by
  have hv1 := hrow.own_lt
  have hs1 := hb1.size
  have hs2 := hg.size
  have hv2 : ∀ b, v2.ownBlock = some b → b < w2.heap.size := fun b hb => (hown.lt b hb).2
  have hLlt : ∀ b, L.ownBlock = some b → b < w.heap.size := fun b hb => h.lt b (h.own b hb).1
  have hplt : p < w.heap.size := h.lt p h.fp
  have hot : ∀ b, b ≠ p → (w2.setCell ⟨p, 1, none⟩ v2).heap[b]? = w2.heap[b]? := fun b hb => Below.heap_setCell _ _ _ _ (fun q => hb q)
  have hold : ∀ b, b < w.heap.size → L.ownBlock ≠ some b → w2.heap[b]? = w.heap[b]? := fun b hb hL => (hg.block b (by omega) (fun e => hL e.symm)).trans (hb1.block b hb)
  have hRs : ∀ b, R b → (w2.setCell ⟨p, 1, none⟩ v2).heap[b]? = w.heap[b]? := fun b hb =>
    (hot b (fun e => h.rp (e ▸ hb))).trans (hold b (h.lt b (h.rf b hb)) (fun e => (h.own b e).2.2 hb))
  have hRs1 : ∀ b, v1.ownBlock = some b → (w2.setCell ⟨p, 1, none⟩ v2).heap[b]? = w1.heap[b]? := fun b hb =>
    (hot b (fun e => by have := (hv1 b hb).1; omega)).trans (hg.block b (hv1 b hb).2 (fun e => by have := hLlt b e.symm; have := (hv1 b hb).1; omega))
  have hpL : L.ownBlock ≠ some p := fun e => (h.own p e).2.1 rfl
  have hp2 : v2.ownBlock ≠ some p := fun e => by
    rcases hat with k | k
    · exact hpL (k ▸ e)
    · rw [k] at e; injection e; omega
  have hlast : (s.loose ++ [(q, l)]).length = s.loose.length + 1 := by simp
  refine ⟨fun b => F b ∨ v1.ownBlock = some b ∨ v2.ownBlock = some b, ⟨?_, ?_, fun i hi => (h.rows i hi).same hRs (fun _ x => .inl x), ?_, fun j hj => ?_, fun b hb => ?_, .inl h.fp, ?_, ?_, ?_, ?_⟩, ?_, ?_⟩
  · refine ((h.head.of_block (hold p hplt hpL)).set 1 v2).congr fun i hi => ?_
    unfold fld
    rcases (by omega : i = 0 ∨ i = 1 ∨ i = 2) with rfl | rfl | rfl <;> rfl
  · rcases h.slots with h0 | ⟨bs, e, hr, hF, h1, h2, h3⟩
    · exact .inl h0
    · have hbs := h.lt bs hF
      refine .inr ⟨bs, e, hr.of_block ((hot bs h1).trans (hold bs hbs h3)), .inl hF, h1, ?_, ?_⟩
      · rintro (x | x)
        · exact h2 x
        · have := (hv1 bs x).1; omega
      · intro x
        rcases hat with k | k
        · exact h3 (k ▸ x)
        · rw [k] at x; injection x; omega
  · show (w2.setCell ⟨p, 1, none⟩ v2).ownsRow 0 tW 2 v2 (s.loose ++ [(q, l)]).length (wcells _ (s.loose ++ [(q, l)]) (s.loose ++ [(q, l)]).length)
    rw [hlast]
    have hcells : wcells (fun j => if j = s.loose.length then v1 else X j) (s.loose ++ [(q, l)]) (s.loose.length + 1) = wcells X s.loose s.loose.length ++ [.int .i64 (q : Nat), v1] := by
      rw [wcells]
      congr 1
      · refine wcells_congr (fun j hj => if_neg (by omega)) (fun j hj => ?_)
        rw [List.getD_eq_getElem?_getD, List.getD_eq_getElem?_getD, List.getElem?_append_left hj]
      · simp [List.getD_eq_getElem?_getD]
    rw [hcells]
    refine ⟨hown.1, ?_⟩
    rcases hown.2 with h0 | ⟨g, cap, cur, e, h1, h2, h3⟩
    · exact .inl h0
    · exact .inr ⟨g, cap, cur, e, h1, (hot g (fun x => hp2 (by rw [e, ← x]; rfl))).trans h2, h3⟩
  · by_cases e : j = s.loose.length
    · subst e
      rw [if_pos rfl]
      simp only [List.getElem_append_right (Nat.le_refl _), Nat.sub_self, List.getElem_cons_zero]
      exact (hrow.rowIn (R := fun b => v1.ownBlock = some b) (fun _ x => x)).same hRs1 (fun _ x => .inr x)
    · have hj' : j < s.loose.length := by have : j < (s.loose ++ [(q, l)]).length := hj; omega
      rw [if_neg e]
      simp only [List.getElem_append_left hj']
      exact (h.looser j hj').same hRs (fun _ x => .inl x)
  · refine ⟨.inr (.inr hb), fun e => hp2 (e ▸ hb), ?_⟩
    rintro (x | x)
    · rcases hat with k | k
      · exact (h.own b (k ▸ hb)).2.2 x
      · rw [k] at hb; injection hb; have := h.lt b (h.rf b x); omega
    · rcases hat with k | k
      · have := hLlt b (k ▸ hb); have := (hv1 b x).1; omega
      · rw [k] at hb; injection hb; have := (hv1 b x).2; omega
  · rintro (x | x)
    · exact h.rp x
    · have := (hv1 p x).1; omega
  · rintro b (x | x)
    · exact .inl (h.rf b x)
    · exact .inr (.inl x)
  · have hsz : (w2.setCell ⟨p, 1, none⟩ v2).heap.size = w2.heap.size := by simp [World.setCell]
    rintro b (x | x | x)
    · have := h.lt b x; omega
    · have := (hv1 b x).2; omega
    · have := hv2 b x; omega
  · refine ⟨fun j hj => ?_, h.ok.sm, h.ok.em, h.ok.sl, fun x hx => ?_⟩
    rotate_left
    · rcases List.mem_append.1 (show x ∈ s.loose ++ [(q, l)] from hx) with z | z
      · exact h.ok.ll x z
      · rw [List.mem_singleton] at z
        subst z
        exact hl64
    by_cases hlt : j < s.loose.length
    · show (s.loose ++ [(q, l)])[j].1 < s.slots.length
      rw [List.getElem_append_left hlt]; exact h.ok.lt j hlt
    · have hj' : j = s.loose.length := by have : j < (s.loose ++ [(q, l)]).length := hj; omega
      subst hj'
      show (s.loose ++ [(q, l)])[s.loose.length].1 < s.slots.length
      rw [List.getElem_append_right (Nat.le_refl _)]
      simpa using hq
  · have ht : Turned F w w2 := (Turned.of_below F hb1).trans (Turned.grown (F := F) hg (fun k e => (h.own k e).1)) (Grown.refl _ _)
    exact ht.trans (Turned.set v2 h.fp) (Grown.refl _ _)
  · rintro b (x | x | x)
    · exact .inl x
    · exact .inr (hv1 b x).1
    · rcases hat with k | k
      · exact .inl (h.own b (k ▸ x)).1
      · rw [k] at x; injection x; exact .inr (by omega)
end
end Go.Mem
