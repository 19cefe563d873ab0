/- Slices that the call builds by append, element by element: what they read as. No program is named here. -/
import Derived.Test.YtegnheonncoodaaDoorMem
import Derived.Maps.AppendAt
import Derived.Lib.AppendZeros
namespace Go.Mem
open Go.RowKit
/-- v is a slice that the call has built: its elements read, each by R, as those of L, whatever becomes of v's own spare places -/
def Built {α : Type} (R : World → Value → α → Prop) (w : World) (base t : Nat) (v : Value) (L : List α) : Prop :=
  ∃ xs : List Value, w.ownsRow base t 1 v L.length xs ∧ ∀ i (h : i < L.length), ∃ c, xs[i]? = some c ∧ ∀ w', w.grownBy w' v.ownBlock → R w' c L[i]
theorem grown_trans' {a b c : World} {r : Option Nat} (h : a.grownBy b r) (k : b.grownBy c r) : a.grownBy c r := World.grownBy.trans h k
theorem grown_below {a b c : World} {r : Option Nat} (h : Below a.heap.size a b) (k : b.grownBy c r) : a.grownBy c r :=
  ⟨k.os.trans h.os, k.tape.trans h.tape, k.output.trans h.output, Nat.le_trans h.size k.size, fun i hi hne => (k.block i (Nat.lt_of_lt_of_le hi h.size) hne).trans (h.block i hi)⟩
theorem grown_of_below {a b : World} {r : Option Nat} (h : Below a.heap.size a b) : a.grownBy b r := ⟨h.os, h.tape, h.output, h.size, fun i hi _ => h.block i hi⟩
section
variable {α : Type} {R : World → Value → α → Prop} {w w' : World} {base t : Nat} {v : Value} {L : List α}
theorem Built.start (w : World) (base t : Nat) : Built R w base t (.slice none 0 0) [] := ⟨[], World.ownsRow_nil _ _ _ _, fun _ h => absurd h (by simp)⟩
theorem Built.below (h : Built R w base t v L) (hb : Below w.heap.size w w') : Built R w' base t v L := by
  obtain ⟨xs, h1, h2⟩ := h
  refine ⟨xs, h1.kept (row := none) (grown_of_below hb) (by rcases hv : v.ownBlock with _ | k <;> simp), fun i hi => ?_⟩
  obtain ⟨c, e, hR⟩ := h2 i hi
  exact ⟨c, e, fun w'' hg => hR w'' (grown_below hb hg)⟩
theorem Built.own_lt (h : Built R w base t v L) : ∀ k, v.ownBlock = some k → base ≤ k ∧ k < w.heap.size := by
  obtain ⟨xs, h1, _⟩ := h
  exact h1.lt
theorem Built.slice (h : Built R w base t v L) : SliceOf R w v L := by
  obtain ⟨xs, h1, h2⟩ := h
  have h3 := h1
  rcases h1.2 with ⟨e1, e2⟩ | ⟨g, cap, cur, e1, _, e3, e4, e5, _, _⟩
  · exact ⟨none, 0, 0, e1, e2.symm, Nat.le_refl _, Nat.zero_le _, fun _ => rfl, fun i hi => absurd hi (by omega)⟩
  · refine ⟨some ⟨g, 0, none⟩, L.length, cap, e1, rfl, e4, e5, (fun e => by cases e), fun i hi => ?_⟩
    obtain ⟨c, e, hR⟩ := h2 i hi
    refine ⟨g, 0, c, rfl, ?_, hR w (World.grownBy.refl _ _)⟩
    have := h3.cells (g := g) (by rw [e1]; rfl) i c e
    rw [Nat.zero_add]
    rcases Nat.eq_zero_or_pos i with h0 | h0
    · subst h0; simpa [Addr.add] using this
    · have hne : i ≠ 0 := by omega
      simpa [Addr.add, hne] using this
theorem Built.len (h : Built R w base t v L) : ∃ A C, v = .slice A L.length C ∧ L.length ≤ C ∧ C ≤ 9223372036854775807 := by
  obtain ⟨A, C, e, h1, h2, _⟩ := h.slice.shape
  exact ⟨A, C, e, h1, h2⟩
end
theorem tabOf_succ (k m : Nat) (F : Nat → Nat → Nat) : tabOf (k + 1) m F = tabOf k m F ++ [(List.range m).map (F k)] := by
  unfold tabOf; rw [List.range_succ, List.map_append]; rfl
theorem tabOf_len (k m : Nat) (F : Nat → Nat → Nat) : (tabOf k m F).length = k := by simp [tabOf]
/-- a row of the call's own reads on, whatever becomes of another block -/
theorem Row.stays {w : World} {b n : Nat} {g : Nat → Nat} (h : Row w b 0 n g) (hb : b < w.heap.size) (hn : n ≤ 9223372036854775807) {r : Option Nat} (hr : some b ≠ r) : ∀ w', w.grownBy w' r → Bytes w' (.slice (some ⟨b, 0, none⟩) n n) ((List.range n).map g) :=
  fun _ hg => (h.keep (hg.block b hb hr)).bytes (Nat.le_refl _) hn
theorem Row.new {w : World} {t n : Nat} {c : Array Value} {g : Nat → Nat} (hs : c.size = n) (hc : ∀ i, i < n → c[i]? = some (.int .u8 (g i : Nat))) (hb : ∀ i, i < n → g i < 256) : Row (w.alloc (.cells c t)) w.heap.size 0 n g := by
  subst hs
  have h := World.rowIs_alloc w c t (fun i => .int .u8 (g i : Nat)) hc
  exact ⟨fun i hi => by rw [Nat.zero_add]; exact h.cell hi, hb, fun i _ => h.frozen _⟩
theorem Inner.startWith {w wr : World} {P0 t t' n m k : Nat} {F : Nat → Nat → Nat} {c : Array Value} {g : Nat → Nat} (h : Fam wr wr.heap.size P0 t n m k F) (hk : k < n) (hb : Below w.heap.size w wr) (hP : w.heap.size ≤ P0)
    (hs : c.size = m) (hc : ∀ i, i < m → c[i]? = some (.int .u8 (g i : Nat))) (hbd : ∀ i, i < m → g i < 256) :
    Inner w ((wr.setCell ⟨P0, k, none⟩ (.slice (some ⟨wr.heap.size, 0, none⟩) m m)).alloc (.cells c t')) wr.heap.size P0 t n m k F g := by
  obtain ⟨u, hu⟩ := h.cell hk
  have hsz : (wr.setCell ⟨P0, k, none⟩ (.slice (some ⟨wr.heap.size, 0, none⟩) m m)).heap.size = wr.heap.size := by simp [World.setCell]
  have hi := h.inside
  generalize hw1 : wr.setCell ⟨P0, k, none⟩ (.slice (some ⟨wr.heap.size, 0, none⟩) m m) = w1 at *
  have hf : Fam w1 wr.heap.size P0 t n m k F := by rw [← hw1]; exact h.store _
  have hcc : w1.cell? ⟨P0, k, none⟩ = some (.slice (some ⟨wr.heap.size, 0, none⟩) m m) := by rw [← hw1]; exact World.cell?_setCell_same _ _ _ hu
  have hb1 : Below w.heap.size w w1 := by rw [← hw1]; exact hb.setCell hP _
  have ha : Below wr.heap.size w1 (w1.alloc (.cells c t')) := (Below.refl _ _).alloc (by omega) _
  have hr := Row.new (w := w1) (t := t') hs hc hbd
  rw [hsz] at hr
  exact ⟨hf.below ha, (ha.cell (by exact hi)).trans hcc, hr, hb1.alloc hb1.size _, by simp; omega, hP⟩
theorem made_get {n i : Nat} (hi : i < n) : (madeCells #[.int .u8 0] n)[i]? = some (Value.int .u8 ((0 : Nat) : Int)) := by simp [madeCells, hi, Nat.mod_one]
theorem made_set {n k x : Nat} {i : Nat} (hi : i < n) : ((madeCells #[.int .u8 0] n).setIfInBounds k (.int .u8 (x : Nat)))[i]? = some (Value.int .u8 ((if i = k then x else 0 : Nat) : Int)) := by
  rw [Array.getElem?_setIfInBounds]
  by_cases e : i = k
  · subst e; rw [if_pos rfl, if_pos (by rw [size_madeCells]; simpa using hi), if_pos rfl]
  · rw [if_neg (fun q => e q.symm), if_neg e]; exact made_get hi
theorem made_size (n k : Nat) (v : Value) : ((madeCells #[.int .u8 0] n).setIfInBounds k v).size = n := by rw [Array.size_setIfInBounds, size_madeCells]
/-- out = append(out, x): x reads as y, whatever becomes of out's own block -/
theorem run_append_built {P : Program} {α : Type} {R : World → Value → α → Prop} (w : World) (base : Nat) (t ty e : TypeId) (z : Value) (bytes : Nat) (ht : P.underlying t = some (.slice e))
    (hinfo : (P.info? e).map (fun i => (i.zero, i.size, i.bytes)) = some (some z, 1, bytes)) (hzs : z.cells.size = 1) (v : Value) (L : List α) (hown : Built R w base e v L)
    (u : Value) (y : α) (h1 : u.oneCell' = true) (hR : ∀ w', w.grownBy w' v.ownBlock → R w' u y) (hbytes : (L.length + 1) * (bytes + 1) ≤ 140737488355328) (hbase : base ≤ w.heap.size) :
    ∃ v' w', (Builtin.append_ #[t, t] ty #[v, .slice (some ⟨w.heap.size, 0, none⟩) 1 1]).run P (w.alloc (.cells #[u] e)) = .ok v' w' ∧ Built R w' base e v' (L ++ [y]) ∧ w.grownBy w' v.ownBlock ∧ Below base w w' := by
  obtain ⟨i, hi, hz0, hz1, hz2⟩ := info_parts hinfo
  obtain ⟨xs, hrow, hel⟩ := hown
  have hal : Below w.heap.size w (w.alloc (.cells #[u] e)) := (Below.refl _ _).alloc (Nat.le_refl _) _
  have hb1 : (L.length + 1) * 1 ≤ (L.length + 1) * (bytes + 1) := Nat.mul_le_mul_left _ (by omega)
  have hb2 : (L.length + 1) * bytes ≤ (L.length + 1) * (bytes + 1) := Nat.mul_le_mul_left _ (by omega)
  obtain ⟨v', w', hrun, hown', hg, _, hat⟩ := run_append_own_at (P := P) (w.alloc (.cells #[u] e)) base t ty e i z 1 bytes ht hi hz0 hz1 hz2 hzs (by omega) v L.length xs (hrow.alloc _) ⟨w.heap.size, 0, none⟩ 1 1 [u] rfl (cell_one_new w u e) (by simpa using h1)
    (by unfold maxLen; omega) (by omega) (by simp; omega)
  have hg0 : w.grownBy w' v.ownBlock := grown_below hal hg
  have key : ∀ w'', w'.grownBy w'' v'.ownBlock → w.grownBy w'' v.ownBlock := by
    intro w'' hg'
    rcases hat with e1 | e1
    · rw [e1] at hg'; exact grown_trans' hg0 hg'
    · refine ⟨hg'.os.trans hg0.os, hg'.tape.trans hg0.tape, hg'.output.trans hg0.output, Nat.le_trans hg0.size hg'.size, fun k hk hne => ?_⟩
      refine (hg'.block k (Nat.lt_of_lt_of_le hk hg0.size) (fun q => ?_)).trans (hg0.block k hk hne)
      rw [e1] at q
      injection q with q
      simp at q
      omega
  refine ⟨v', w', hrun, ⟨xs ++ [u], by rw [List.length_append]; exact hown', fun j hj => ?_⟩, hg0, (Below.refl _ _).grown hg0 hbase (fun k hk => (hrow.lt k hk).1)⟩
  have hxl : xs.length = L.length := by have := hrow.1; omega
  by_cases hlt : j < L.length
  · obtain ⟨c, e1, e2⟩ := hel j hlt
    refine ⟨c, by rw [List.getElem?_append_left (by omega)]; exact e1, fun w'' hg' => ?_⟩
    rw [List.getElem_append_left hlt]
    exact e2 w'' (key w'' hg')
  · have hj' : j = L.length := by simp at hj; omega
    subst hj'
    refine ⟨u, by rw [← hxl]; simp, fun w'' hg' => ?_⟩
    rw [List.getElem_append_right (Nat.le_refl _)]
    simpa using hR w'' (key w'' hg')
theorem wpList_append_built {P : Program} {α : Type} {R : World → Value → α → Prop} (w : World) {ops : Array Oper} {rest : List Oper} {o : Oper} {a : Act} {Q : Exit → Act → World → Prop} (hgd : o.guard = none) (s x : Operand) (t : TypeId)
    (ho : o.op = .call { callee := .builtin .append, args := #[s, x], argTypes := #[t, t] })
    (base : Nat) (e : TypeId) (z : Value) (bytes : Nat) (ht : P.underlying t = some (.slice e)) (hinfo : (P.info? e).map (fun i => (i.zero, i.size, i.bytes)) = some (some z, 1, bytes)) (hzs : z.cells.size = 1)
    (v : Value) (L : List α) (hs : a.eval s = v) (hown : Built R w base e v L)
    (u : Value) (y : α) (bk : Nat) (hx : a.eval x = .slice (some ⟨bk, 0, none⟩) 1 1) (hbk : bk = w.heap.size) (h1 : u.oneCell' = true) (hR : ∀ w', w.grownBy w' v.ownBlock → R w' u y)
    (hbytes : (L.length + 1) * (bytes + 1) ≤ 140737488355328) (hbase : base ≤ w.heap.size)
    (h : ∀ v' w', Built R w' base e v' (L ++ [y]) → w.grownBy w' v.ownBlock → Below base w w' → wpList P ops Q rest (a.put o.dst v') w') : wpList P ops Q (o :: rest) a (w.alloc (.cells #[u] e)) := by
  subst hbk
  obtain ⟨v', w', hrun, h2, h3, h4⟩ := run_append_built (P := P) w base t o.type e z bytes ht hinfo hzs v L hown u y h1 hR hbytes hbase
  exact Lib.wpList_append_run _ hgd s x t t ho _ _ hs hx v' w' hrun (h v' w' h2 h3 h4)
theorem step_append_built {P : Program} {α : Type} {R : World → Value → α → Prop} (w : World) {ops : Array Oper} {o : Oper} {a : Act} {K : Act → World → Prop} {Q : Exit → Act → World → Prop} {E : Prop} (hgd : o.guard = none) (s x : Operand) (t : TypeId)
    (ho : o.op = .call { callee := .builtin .append, args := #[s, x], argTypes := #[t, t] })
    (base : Nat) (e : TypeId) (z : Value) (bytes : Nat) (ht : P.underlying t = some (.slice e)) (hinfo : (P.info? e).map (fun i => (i.zero, i.size, i.bytes)) = some (some z, 1, bytes)) (hzs : z.cells.size = 1)
    (v : Value) (L : List α) (hs : a.eval s = v) (hown : Built R w base e v L)
    (u : Value) (y : α) (bk : Nat) (hx : a.eval x = .slice (some ⟨bk, 0, none⟩) 1 1) (hbk : bk = w.heap.size) (h1 : u.oneCell' = true) (hR : ∀ w', w.grownBy w' v.ownBlock → R w' u y)
    (hbytes : (L.length + 1) * (bytes + 1) ≤ 140737488355328) (hbase : base ≤ w.heap.size)
    (h : ∀ v' w', Built R w' base e v' (L ++ [y]) → w.grownBy w' v.ownBlock → Below base w w' → K (a.put o.dst v') w') :
    if Region.wanted o (yielded ops a.tmps) = true then Oper.wp P o a (w.alloc (.cells #[u] e)) K Q else E := by
  subst hbk
  rw [if_pos (show Region.wanted o (yielded ops a.tmps) = true by simp [Region.wanted, hgd])]
  obtain ⟨v', w', hrun, h2, h3, h4⟩ := run_append_built (P := P) w base t o.type e z bytes ht hinfo hzs v L hown u y h1 hR hbytes hbase
  exact Lib.wp_append_run _ s x t t ho _ _ hs hx v' w' hrun (h v' w' h2 h3 h4)
/-- a table that was made row by row, as a slice that can be appended to -/
theorem Fam.built {w : World} {base B P0 t n m : Nat} {F : Nat → Nat → Nat} (h : Fam w B P0 t n m n F) (hB : B ≤ w.heap.size) (hP : base ≤ P0) (hn : n ≤ 9223372036854775807) (hm : m ≤ 9223372036854775807) :
    Built Bytes w base t (.slice (some ⟨P0, 0, none⟩) n n) (tabOf n m F) := by
  obtain ⟨⟨V, ⟨c, hc, hsz, hV⟩, hr⟩, hlt⟩ := h
  refine ⟨c.toList, ⟨by simp [tabOf_len, hsz], .inr ⟨P0, n, c, by rw [tabOf_len], hP, hc, by rw [tabOf_len]; omega, by unfold maxLen; exact hn, by omega, by rw [tabOf_len, Nat.mul_one, ← hsz]; exact List.take_of_length_le (by simp)⟩⟩, fun i hi => ?_⟩
  rw [tabOf_len] at hi
  obtain ⟨g, e, hg, hne, hrow⟩ := hr i hi
  refine ⟨V i, by rw [Array.getElem?_toList]; exact hV i hi, fun w' hg' => ?_⟩
  rw [e]
  have := hrow.stays (by omega) hm (r := some P0) (fun q => hne (by injection q)) w' hg'
  simpa [tabOf] using this
end Go.Mem
