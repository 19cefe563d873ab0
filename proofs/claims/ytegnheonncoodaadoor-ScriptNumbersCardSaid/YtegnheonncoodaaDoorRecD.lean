/- Slices of ints, and of structs of several cells; stripes, objects and records as plain data, and what they read as in memory. No program is named here. -/
import Derived.Test.YtegnheonncoodaaDoorList
import Derived.Test.YtegnheonncoodaaDoorFoot
namespace Go.Mem
open Go.RowKit
def I64 (z : Int) : Prop := -9223372036854775808 ≤ z ∧ z ≤ 9223372036854775807
def IntR (_ : World) (c : Value) (z : Int) : Prop := c = .int .i64 z ∧ I64 z
/-- v is a slice of ints -/
def Ints (w : World) (v : Value) (l : List Int) : Prop := SliceOf IntR w v l
theorem Ints.below {w w' : World} {v : Value} {l : List Int} (h : Ints w v l) (hb : Below w.heap.size w w') : Ints w' v l :=
  SliceOf.mono h (below_cell hb) (fun _ _ h => h)
theorem Ints.shape {w : World} {v : Value} {l : List Int} (h : Ints w v l) : ∃ A C, v = .slice A l.length C ∧ l.length ≤ C ∧ C ≤ 9223372036854775807 ∧ (A = none → C = 0) := SliceOf.shape h
theorem Ints.at {w : World} {A : Option Addr} {n C : Nat} {l : List Int} (h : Ints w (.slice A n C) l) {i : Nat} (hi : i < l.length) :
    ∃ b o, A = some ⟨b, o, none⟩ ∧ w.cell? ⟨b, o + i, none⟩ = some (.int .i64 l[i]) ∧ I64 l[i] := by
  obtain ⟨A', n', C', h1, _, _, _, _, h6⟩ := h
  cases h1
  obtain ⟨b, o, c, e1, e2, e3, e4⟩ := h6 i hi
  exact ⟨b, o, e1, by rw [e2, e3], e4⟩
theorem Ints.here {w : World} {b o n C : Nat} {l : List Int} (h : Ints w (.slice (some ⟨b, o, none⟩) n C) l) {i : Nat} (hi : i < l.length) : w.cell? ⟨b, o + i, none⟩ = some (.int .i64 l[i]) ∧ I64 l[i] := by
  obtain ⟨b', o', e, h1, h2⟩ := h.at hi
  cases e
  exact ⟨h1, h2⟩
theorem Ints.nil (w : World) : Ints w (.slice none 0 0) [] := ⟨none, 0, 0, rfl, rfl, Nat.le_refl _, Nat.zero_le _, fun _ => rfl, fun i hi => absurd hi (by simp)⟩
/-- v is a slice of elements of k cells that read, each by R, as the elements of l -/
def Cells {α : Type} (k : Nat) (R : World → (Nat → Value) → α → Prop) (w : World) (v : Value) (l : List α) : Prop :=
  ∃ (A : Option Addr) (n C : Nat), v = .slice A n C ∧ n = l.length ∧ n ≤ C ∧ C ≤ maxLen ∧ (A = none → C = 0) ∧
    ∀ i (h : i < l.length), ∃ b o f, A = some ⟨b, o, none⟩ ∧ (∀ j, j < k → w.cell? ⟨b, o + i * k + j, none⟩ = some (f j)) ∧ R w f l[i]
section
variable {α : Type} {k : Nat} {R R' : World → (Nat → Value) → α → Prop} {w w' : World} {v : Value} {l : List α}
theorem Cells.mono (h : Cells k R w v l) (hc : ∀ a c, w.cell? a = some c → w'.cell? a = some c) (hR : ∀ f x, R w f x → R' w' f x) : Cells k R' w' v l := by
  obtain ⟨A, n, C, h1, h2, h3, h4, h5, h6⟩ := h
  refine ⟨A, n, C, h1, h2, h3, h4, h5, fun i hi => ?_⟩
  obtain ⟨b, o, f, e1, e2, e3⟩ := h6 i hi
  exact ⟨b, o, f, e1, fun j hj => hc _ _ (e2 j hj), hR _ _ e3⟩
theorem Cells.shape (h : Cells k R w v l) : ∃ A C, v = .slice A l.length C ∧ l.length ≤ C ∧ C ≤ 9223372036854775807 ∧ (A = none → C = 0) := by
  obtain ⟨A, n, C, h1, h2, h3, h4, h5, _⟩ := h
  subst h2; unfold maxLen at h4
  exact ⟨A, C, h1, h3, h4, h5⟩
theorem Cells.nil (k : Nat) (R : World → (Nat → Value) → α → Prop) (w : World) : Cells k R w (.slice none 0 0) [] := ⟨none, 0, 0, rfl, rfl, Nat.le_refl _, Nat.zero_le _, fun _ => rfl, fun i hi => absurd hi (by simp)⟩
end
structure StpD where
  id : Int
  ep : Int
  locs : List Int
structure ObjD where
  key : ByteArray
  id : Int
  size : Int
  stripes : List StpD
structure RecD where
  kind : Int
  id : Int
  size : Int
  key : ByteArray
  stripes : List StpD
  objects : List ObjD
  drives : List Int
/-- a string's size, of one that came in or was made of what came in -/
def KeyOk (s : ByteArray) : Prop := s.size ≤ 140737488351232
/-- how many elements a slice has that came in, at most -/
def LenOk (n : Nat) : Prop := n ≤ 140737488351232
def StpR (w : World) (f : Nat → Value) (s : StpD) : Prop := f 0 = .int .i64 s.id ∧ f 1 = .int .i64 s.ep ∧ Ints w (f 2) s.locs ∧ I64 s.id ∧ I64 s.ep ∧ LenOk s.locs.length
def Stps (w : World) (v : Value) (L : List StpD) : Prop := Cells 3 StpR w v L
def ObjR (w : World) (f : Nat → Value) (o : ObjD) : Prop := f 0 = .string o.key ∧ f 1 = .int .i64 o.id ∧ f 2 = .int .i64 o.size ∧ Stps w (f 3) o.stripes ∧ I64 o.id ∧ I64 o.size ∧ KeyOk o.key ∧ LenOk o.stripes.length
def Objs (w : World) (v : Value) (L : List ObjD) : Prop := Cells 4 ObjR w v L
theorem StpR.below {w w' : World} {f : Nat → Value} {s : StpD} (h : StpR w f s) (hb : Below w.heap.size w w') : StpR w' f s := ⟨h.1, h.2.1, h.2.2.1.below hb, h.2.2.2⟩
theorem Stps.below {w w' : World} {v : Value} {L : List StpD} (h : Stps w v L) (hb : Below w.heap.size w w') : Stps w' v L := Cells.mono h (below_cell hb) (fun _ _ h => StpR.below h hb)
theorem ObjR.below {w w' : World} {f : Nat → Value} {o : ObjD} (h : ObjR w f o) (hb : Below w.heap.size w w') : ObjR w' f o := ⟨h.1, h.2.1, h.2.2.1, h.2.2.2.1.below hb, h.2.2.2.2⟩
theorem Objs.below {w w' : World} {v : Value} {L : List ObjD} (h : Objs w v L) (hb : Below w.heap.size w w') : Objs w' v L := Cells.mono h (below_cell hb) (fun _ _ h => ObjR.below h hb)
theorem Stps.shape {w : World} {v : Value} {L : List StpD} (h : Stps w v L) : ∃ A C, v = .slice A L.length C ∧ L.length ≤ C ∧ C ≤ 9223372036854775807 ∧ (A = none → C = 0) := Cells.shape h
theorem Objs.shape {w : World} {v : Value} {L : List ObjD} (h : Objs w v L) : ∃ A C, v = .slice A L.length C ∧ L.length ≤ C ∧ C ≤ 9223372036854775807 ∧ (A = none → C = 0) := Cells.shape h
theorem Stps.at {w : World} {A : Option Addr} {n C : Nat} {L : List StpD} (h : Stps w (.slice A n C) L) {i : Nat} (hi : i < L.length) :
    ∃ b o A' C', A = some ⟨b, o, none⟩ ∧ w.cell? ⟨b, o + i * 3, none⟩ = some (.int .i64 L[i].id) ∧ w.cell? ⟨b, o + i * 3 + 1, none⟩ = some (.int .i64 L[i].ep) ∧
      w.cell? ⟨b, o + i * 3 + 2, none⟩ = some (.slice A' L[i].locs.length C') ∧ Ints w (.slice A' L[i].locs.length C') L[i].locs ∧ I64 L[i].id ∧ I64 L[i].ep ∧ LenOk L[i].locs.length := by
  obtain ⟨A1, n1, C1, h1, _, _, _, _, h6⟩ := h
  cases h1
  obtain ⟨b, o, f, e, hc, f0, f1, f2, q⟩ := h6 i hi
  obtain ⟨A', C', e2, _⟩ := f2.shape
  have c0 := hc 0 (by omega)
  have c1 := hc 1 (by omega)
  have c2 := hc 2 (by omega)
  rw [f0, Nat.add_zero] at c0
  rw [f1] at c1
  rw [e2] at c2 f2
  exact ⟨b, o, A', C', e, c0, c1, c2, f2, q⟩
theorem Stps.here {w : World} {b o n C : Nat} {L : List StpD} (h : Stps w (.slice (some ⟨b, o, none⟩) n C) L) {i : Nat} (hi : i < L.length) :
    ∃ A' C', w.cell? ⟨b, o + i * 3, none⟩ = some (.int .i64 L[i].id) ∧ w.cell? ⟨b, o + i * 3 + 1, none⟩ = some (.int .i64 L[i].ep) ∧
      w.cell? ⟨b, o + i * 3 + 2, none⟩ = some (.slice A' L[i].locs.length C') ∧ Ints w (.slice A' L[i].locs.length C') L[i].locs ∧ I64 L[i].id ∧ I64 L[i].ep ∧ LenOk L[i].locs.length := by
  obtain ⟨b', o', A', C', e, hh⟩ := h.at hi
  cases e
  exact ⟨A', C', hh⟩
theorem Objs.at {w : World} {A : Option Addr} {n C : Nat} {L : List ObjD} (h : Objs w (.slice A n C) L) {i : Nat} (hi : i < L.length) :
    ∃ b o A' C', A = some ⟨b, o, none⟩ ∧ w.cell? ⟨b, o + i * 4, none⟩ = some (.string L[i].key) ∧ w.cell? ⟨b, o + i * 4 + 1, none⟩ = some (.int .i64 L[i].id) ∧ w.cell? ⟨b, o + i * 4 + 2, none⟩ = some (.int .i64 L[i].size) ∧
      w.cell? ⟨b, o + i * 4 + 3, none⟩ = some (.slice A' L[i].stripes.length C') ∧ Stps w (.slice A' L[i].stripes.length C') L[i].stripes ∧ I64 L[i].id ∧ I64 L[i].size ∧ KeyOk L[i].key ∧ LenOk L[i].stripes.length := by
  obtain ⟨A1, n1, C1, h1, _, _, _, _, h6⟩ := h
  cases h1
  obtain ⟨b, o, f, e, hc, f0, f1, f2, f3, q⟩ := h6 i hi
  obtain ⟨A', C', e3, _⟩ := f3.shape
  have c0 := hc 0 (by omega)
  have c1 := hc 1 (by omega)
  have c2 := hc 2 (by omega)
  have c3 := hc 3 (by omega)
  rw [f0, Nat.add_zero] at c0
  rw [f1] at c1
  rw [f2] at c2
  rw [e3] at c3 f3
  exact ⟨b, o, A', C', e, c0, c1, c2, c3, f3, q⟩
theorem Objs.here {w : World} {b o n C : Nat} {L : List ObjD} (h : Objs w (.slice (some ⟨b, o, none⟩) n C) L) {i : Nat} (hi : i < L.length) :
    ∃ A' C', w.cell? ⟨b, o + i * 4, none⟩ = some (.string L[i].key) ∧ w.cell? ⟨b, o + i * 4 + 1, none⟩ = some (.int .i64 L[i].id) ∧ w.cell? ⟨b, o + i * 4 + 2, none⟩ = some (.int .i64 L[i].size) ∧
      w.cell? ⟨b, o + i * 4 + 3, none⟩ = some (.slice A' L[i].stripes.length C') ∧ Stps w (.slice A' L[i].stripes.length C') L[i].stripes ∧ I64 L[i].id ∧ I64 L[i].size ∧ KeyOk L[i].key ∧ LenOk L[i].stripes.length := by
  obtain ⟨b', o', A', C', e, hh⟩ := h.at hi
  cases e
  exact ⟨A', C', hh⟩
theorem Ints.drewN {w : World} {v : Value} {l : List Int} (h : Ints w v l) (n : Nat) : Ints (w.drewN n) v l := h.below (below_drewN _ _ _)
theorem Stps.drewN {w : World} {v : Value} {l : List StpD} (h : Stps w v l) (n : Nat) : Stps (w.drewN n) v l := h.below (below_drewN _ _ _)
theorem Objs.drewN {w : World} {v : Value} {l : List ObjD} (h : Objs w v l) (n : Nat) : Objs (w.drewN n) v l := h.below (below_drewN _ _ _)
/-- V is a record, by value -/
structure RecIs (w : World) (r : RecD) (As Ao Ad : Option Addr) (Cs Co Cd : Nat) : Prop where
  s : Stps w (.slice As r.stripes.length Cs) r.stripes
  o : Objs w (.slice Ao r.objects.length Co) r.objects
  d : Ints w (.slice Ad r.drives.length Cd) r.drives
  k0 : I64 r.kind
  k1 : I64 r.id
  k2 : I64 r.size
  k3 : KeyOk r.key
  ls : LenOk r.stripes.length
  lo : LenOk r.objects.length
  ld : LenOk r.drives.length
def recVal (r : RecD) (As Ao Ad : Option Addr) (Cs Co Cd : Nat) : Value :=
  .agg #[.int .i64 r.kind, .int .i64 r.id, .int .i64 r.size, .string r.key, .slice As r.stripes.length Cs, .slice Ao r.objects.length Co, .slice Ad r.drives.length Cd]
def RecV (w : World) (V : Value) (r : RecD) : Prop := ∃ As Ao Ad Cs Co Cd, V = recVal r As Ao Ad Cs Co Cd ∧ RecIs w r As Ao Ad Cs Co Cd
theorem RecIs.below {w w' : World} {r : RecD} {As Ao Ad : Option Addr} {Cs Co Cd : Nat} (h : RecIs w r As Ao Ad Cs Co Cd) (hb : Below w.heap.size w w') : RecIs w' r As Ao Ad Cs Co Cd :=
  ⟨h.s.below hb, h.o.below hb, h.d.below hb, h.k0, h.k1, h.k2, h.k3, h.ls, h.lo, h.ld⟩
theorem RecV.below {w w' : World} {V : Value} {r : RecD} (h : RecV w V r) (hb : Below w.heap.size w w') : RecV w' V r := by
  obtain ⟨As, Ao, Ad, Cs, Co, Cd, e, h⟩ := h
  exact ⟨As, Ao, Ad, Cs, Co, Cd, e, h.below hb⟩
def RecD.zero : RecD := ⟨0, 0, 0, ⟨#[]⟩, [], [], []⟩
theorem RecIs.nil {w : World} {r : RecD} (hs : r.stripes = []) (ho : r.objects = []) (hd : r.drives = []) (k0 : I64 r.kind) (k1 : I64 r.id) (k2 : I64 r.size) (k3 : KeyOk r.key) : RecIs w r none none none 0 0 0 := by
  obtain ⟨a, b, c, d, e, f, g⟩ := r
  dsimp only at hs ho hd
  subst hs; subst ho; subst hd
  exact ⟨Cells.nil _ _ _, Cells.nil _ _ _, Ints.nil _, k0, k1, k2, k3, Nat.zero_le _, Nat.zero_le _, Nat.zero_le _⟩
theorem add_from (g m : Nat) : (⟨g, 0, none⟩ : Addr).add m = ⟨g, m, none⟩ := by
  unfold Addr.add
  split
  · rename_i q; rw [q]
  · rw [Nat.zero_add]
/-- v is a slice that the call has built, of elements of k cells: they read, each by R, as those of L, whatever becomes of v's own spare places -/
def BuiltN {α : Type} (k : Nat) (R : World → (Nat → Value) → α → Prop) (w : World) (base t : Nat) (v : Value) (L : List α) : Prop :=
  ∃ xs : List Value, w.ownsRow base t k v L.length xs ∧ ∀ i (h : i < L.length), ∃ f : Nat → Value, (∀ j, j < k → xs[i * k + j]? = some (f j)) ∧ ∀ w', w.grownBy w' v.ownBlock → R w' f L[i]
section
variable {α : Type} {k : Nat} {R : World → (Nat → Value) → α → Prop} {w w' : World} {base t : Nat} {v : Value} {L : List α}
theorem BuiltN.start (k : Nat) (w : World) (base t : Nat) : BuiltN k R w base t (.slice none 0 0) [] := ⟨[], World.ownsRow_nil _ _ _ _, fun _ h => absurd h (by simp)⟩
theorem BuiltN.below (h : BuiltN k R w base t v L) (hb : Below w.heap.size w w') : BuiltN k R w' base t v L := by
  obtain ⟨xs, h1, h2⟩ := h
  refine ⟨xs, h1.kept (row := none) (grown_of_below hb) (by rcases hv : v.ownBlock with _ | k <;> simp), fun i hi => ?_⟩
  obtain ⟨c, e, hR⟩ := h2 i hi
  exact ⟨c, e, fun w'' hg => hR w'' (grown_below hb hg)⟩
theorem BuiltN.own_lt (h : BuiltN k R w base t v L) : ∀ b, v.ownBlock = some b → base ≤ b ∧ b < w.heap.size := by
  obtain ⟨xs, h1, _⟩ := h
  exact h1.lt
theorem BuiltN.cells (h : BuiltN k R w base t v L) : Cells k R w v L := by
  obtain ⟨xs, h1, h2⟩ := h
  have h3 := h1
  rcases h1.2 with ⟨e1, e2⟩ | ⟨g, cap, cur, e1, _, e3, e4, e5, _, _⟩
  · exact ⟨none, 0, 0, e1, e2.symm, Nat.le_refl _, Nat.zero_le _, fun _ => rfl, fun i hi => absurd hi (by omega)⟩
  · refine ⟨some ⟨g, 0, none⟩, L.length, cap, e1, rfl, e4, e5, (fun e => by cases e), fun i hi => ?_⟩
    obtain ⟨f, e, hR⟩ := h2 i hi
    refine ⟨g, 0, f, rfl, fun j hj => ?_, hR w (World.grownBy.refl _ _)⟩
    have := h3.cells (g := g) (by rw [e1]; rfl) _ _ (e j hj)
    rw [Nat.zero_add]
    rwa [add_from] at this
theorem BuiltN.len (h : BuiltN k R w base t v L) : ∃ A C, v = .slice A L.length C ∧ L.length ≤ C ∧ C ≤ 9223372036854775807 ∧ (A = none → C = 0) := h.cells.shape
end
/-- out = append(out, x), x a struct of k cells -/
theorem run_append_builtN {P : Program} {α : Type} {k : Nat} {R : World → (Nat → Value) → α → Prop} (w : World) (base : Nat) (t ty e : TypeId) (z : Value) (bytes : Nat) (ht : P.underlying t = some (.slice e))
    (hinfo : (P.info? e).map (fun i => (i.zero, i.size, i.bytes)) = some (some z, k, bytes)) (hzs : z.cells.size = k) (hk0 : 0 < k) (v : Value) (L : List α) (hown : BuiltN k R w base e v L)
    (cs : Array Value) (y : α) (hcs : cs.size = k) (h1 : ∀ u ∈ cs.toList, u.oneCell' = true) (hR : ∀ w', w.grownBy w' v.ownBlock → R w' (fun j => cs.getD j undef) y) (hbytes : (L.length + 1) * (bytes + 1) ≤ 140737488355328) (hbase : base ≤ w.heap.size) :
    ∃ v' w', (Builtin.append_ #[t, t] ty #[v, .slice (some ⟨w.heap.size, 0, none⟩) 1 1]).run P (w.alloc (.cells cs e)) = .ok v' w' ∧ BuiltN k R w' base e v' (L ++ [y]) ∧ w.grownBy w' v.ownBlock ∧ Below base w w' ∧
      (v'.ownBlock = v.ownBlock ∨ v'.ownBlock = some (w.heap.size + 1)) := by
  obtain ⟨xs, hrow, hel⟩ := hown
  obtain ⟨v', w', hrun, hown', hg0, hat⟩ := run_append_cells (P := P) w base t ty e z k bytes ht hinfo hzs hk0 v L.length xs hrow cs hcs h1 hbytes hbase
  have key : ∀ w'', w'.grownBy w'' v'.ownBlock → w.grownBy w'' v.ownBlock := by
    intro w'' hg'
    rcases hat with e1 | e1
    · rw [e1] at hg'; exact grown_trans' hg0 hg'
    · refine ⟨hg'.os.trans hg0.os, hg'.tape.trans hg0.tape, hg'.output.trans hg0.output, Nat.le_trans hg0.size hg'.size, fun b hb hne => ?_⟩
      refine (hg'.block b (Nat.lt_of_lt_of_le hb hg0.size) (fun q => ?_)).trans (hg0.block b hb hne)
      rw [e1] at q
      injection q with q
      omega
  refine ⟨v', w', hrun, ⟨xs ++ cs.toList, by rw [List.length_append]; exact hown', fun j hj => ?_⟩, hg0, (Below.refl _ _).grown hg0 hbase (fun b hb => (hrow.lt b hb).1), hat⟩
  have hxl : xs.length = L.length * k := hrow.1
  by_cases hlt : j < L.length
  · obtain ⟨f, e1, e2⟩ := hel j hlt
    have hm : j * k + k ≤ L.length * k := by
      have := Nat.mul_le_mul_right k (show j + 1 ≤ L.length from hlt)
      rw [Nat.add_mul, Nat.one_mul] at this
      exact this
    refine ⟨f, fun i hi => by rw [List.getElem?_append_left (by omega)]; exact e1 i hi, fun w'' hg' => ?_⟩
    rw [List.getElem_append_left hlt]
    exact e2 w'' (key w'' hg')
  · have hj' : j = L.length := by simp at hj; omega
    subst hj'
    refine ⟨fun i => cs.getD i undef, fun i hi => ?_, fun w'' hg' => ?_⟩
    · rw [List.getElem?_append_right (by omega), hxl, Nat.add_sub_cancel_left, Array.getElem?_toList]
      have : i < cs.size := by omega
      simp [Array.getD, this]
    · rw [List.getElem_append_right (Nat.le_refl _)]
      simpa using hR w'' (key w'' hg')
theorem wpList_append_builtN {P : Program} {α : Type} {k : Nat} {R : World → (Nat → Value) → α → Prop} (w : World) {ops : Array Oper} {rest : List Oper} {o : Oper} {a : Act} {Q : Exit → Act → World → Prop} (hgd : o.guard = none) (s x : Operand) (t : TypeId)
    (ho : o.op = .call { callee := .builtin .append, args := #[s, x], argTypes := #[t, t] })
    (base : Nat) (e : TypeId) (z : Value) (bytes : Nat) (ht : P.underlying t = some (.slice e)) (hinfo : (P.info? e).map (fun i => (i.zero, i.size, i.bytes)) = some (some z, k, bytes)) (hzs : z.cells.size = k) (hk0 : 0 < k)
    (v : Value) (L : List α) (hs : a.eval s = v) (hown : BuiltN k R w base e v L)
    (cs : Array Value) (y : α) (bk : Nat) (hx : a.eval x = .slice (some ⟨bk, 0, none⟩) 1 1) (hbk : bk = w.heap.size) (hcs : cs.size = k) (h1 : ∀ u ∈ cs.toList, u.oneCell' = true) (hR : ∀ w', w.grownBy w' v.ownBlock → R w' (fun j => cs.getD j undef) y)
    (hbytes : (L.length + 1) * (bytes + 1) ≤ 140737488355328) (hbase : base ≤ w.heap.size)
    (h : ∀ v' w', BuiltN k R w' base e v' (L ++ [y]) → w.grownBy w' v.ownBlock → Below base w w' → (v'.ownBlock = v.ownBlock ∨ v'.ownBlock = some (w.heap.size + 1)) → wpList P ops Q rest (a.put o.dst v') w') : wpList P ops Q (o :: rest) a (w.alloc (.cells cs e)) := by
  subst hbk
  obtain ⟨v', w', hrun, h2, h3, h4, h5⟩ := run_append_builtN (P := P) w base t o.type e z bytes ht hinfo hzs hk0 v L hown cs y hcs h1 hR hbytes hbase
  exact Lib.wpList_append_run _ hgd s x t t ho _ _ hs hx v' w' hrun (h v' w' h2 h3 h4 h5)
theorem step_append_builtN {P : Program} {α : Type} {k : Nat} {R : World → (Nat → Value) → α → Prop} (w : World) {ops : Array Oper} {o : Oper} {a : Act} {K : Act → World → Prop} {Q : Exit → Act → World → Prop} {E : Prop} (hgd : o.guard = none) (s x : Operand) (t : TypeId)
    (ho : o.op = .call { callee := .builtin .append, args := #[s, x], argTypes := #[t, t] })
    (base : Nat) (e : TypeId) (z : Value) (bytes : Nat) (ht : P.underlying t = some (.slice e)) (hinfo : (P.info? e).map (fun i => (i.zero, i.size, i.bytes)) = some (some z, k, bytes)) (hzs : z.cells.size = k) (hk0 : 0 < k)
    (v : Value) (L : List α) (hs : a.eval s = v) (hown : BuiltN k R w base e v L)
    (cs : Array Value) (y : α) (bk : Nat) (hx : a.eval x = .slice (some ⟨bk, 0, none⟩) 1 1) (hbk : bk = w.heap.size) (hcs : cs.size = k) (h1 : ∀ u ∈ cs.toList, u.oneCell' = true) (hR : ∀ w', w.grownBy w' v.ownBlock → R w' (fun j => cs.getD j undef) y)
    (hbytes : (L.length + 1) * (bytes + 1) ≤ 140737488355328) (hbase : base ≤ w.heap.size)
    (h : ∀ v' w', BuiltN k R w' base e v' (L ++ [y]) → w.grownBy w' v.ownBlock → Below base w w' → (v'.ownBlock = v.ownBlock ∨ v'.ownBlock = some (w.heap.size + 1)) → K (a.put o.dst v') w') :
    if Region.wanted o (yielded ops a.tmps) = true then Oper.wp P o a (w.alloc (.cells cs e)) K Q else E := by
  subst hbk
  rw [if_pos (show Region.wanted o (yielded ops a.tmps) = true by simp [Region.wanted, hgd])]
  obtain ⟨v', w', hrun, h2, h3, h4, h5⟩ := run_append_builtN (P := P) w base t o.type e z bytes ht hinfo hzs hk0 v L hown cs y hcs h1 hR hbytes hbase
  exact Lib.wp_append_run _ s x t t ho _ _ hs hx v' w' hrun (h v' w' h2 h3 h4 h5)
end Go.Mem
