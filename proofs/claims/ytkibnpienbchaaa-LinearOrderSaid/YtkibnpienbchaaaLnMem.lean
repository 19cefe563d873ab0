/- Such calls in memory: slices of them, rows that a call builds by append, of one and of many. No program is named here. -/
import Derived.Test.YtkibnpienbchaaaLnMath
import Derived.Laws.AppendOwnNone
namespace Ln
set_option linter.unusedVariables false
open Go Go.Mem Go.RowKit
/-- what a call's parts read as -/
structure ClOk (w : World) (x : Cl) : Prop where
  data : Bytes w (.slice x.dA x.data.length x.dC) x.data
  out : Bytes w (.slice x.oA x.out.length x.oC) x.out
  i0 : I64 x.task
  i1 : I64 x.op
  i4 : I64 x.fr
  i5 : I64 x.to
  i6 : I64 x.mo
  i7 : I64 x.e
theorem ClOk.below {w w' : World} {x : Cl} (h : ClOk w x) (hb : Below w.heap.size w w') : ClOk w' x := ⟨h.data.below hb, h.out.below hb, h.i0, h.i1, h.i4, h.i5, h.i6, h.i7⟩
/-- v is a slice of these calls -/
def Cls (w : World) (v : Value) (L : List Cl) : Prop := Cells 10 (fun _ f x => ∀ j, j < 10 → f j = (enc x).getD j undef) w v L
theorem Cls.mono {w w' : World} {v : Value} {L : List Cl} (h : Cls w v L) (hc : ∀ a c, w.cell? a = some c → w'.cell? a = some c) : Cls w' v L := Cells.mono h hc (fun _ _ q => q)
theorem Cls.below {w w' : World} {v : Value} {L : List Cl} (h : Cls w v L) (hb : Below w.heap.size w w') : Cls w' v L := h.mono (below_cell hb)
theorem Cls.shape {w : World} {v : Value} {L : List Cl} (h : Cls w v L) : ∃ A C, v = .slice A L.length C ∧ L.length ≤ C ∧ C ≤ 9223372036854775807 ∧ (A = none → C = 0) := Cells.shape h
theorem Cls.nil (w : World) : Cls w (.slice none 0 0) [] := Cells.nil _ _ _
/-- the cells of call i -/
theorem Cls.at {w : World} {A : Option Addr} {n C : Nat} {L : List Cl} (h : Cls w (.slice A n C) L) {i : Nat} (hi : i < L.length) :
    ∃ b o, A = some ⟨b, o, none⟩ ∧ ∀ j, j < 10 → w.cell? ⟨b, o + i * 10 + j, none⟩ = some ((enc L[i]).getD j undef) := by
  obtain ⟨A', n', C', h1, _, _, _, _, h6⟩ := h
  cases h1
  obtain ⟨b, o, f, e, hc, q⟩ := h6 i hi
  exact ⟨b, o, e, fun j hj => by rw [hc j hj, q j hj]⟩
theorem Cls.here {w : World} {b o n C : Nat} {L : List Cl} (h : Cls w (.slice (some ⟨b, o, none⟩) n C) L) {i : Nat} (hi : i < L.length) : ∀ j, j < 10 → w.cell? ⟨b, o + i * 10 + j, none⟩ = some ((enc L[i]).getD j undef) := by
  obtain ⟨b', o', e, q⟩ := h.at hi
  cases e
  exact q
theorem flat_len (L : List Cl) : (L.flatMap enc).length = L.length * 10 := by
  induction L with
  | nil => rfl
  | cons a L ih => rw [List.flatMap_cons, List.length_append, ih, enc_len, List.length_cons]; omega
theorem flat_get : ∀ (L : List Cl) (i j : Nat) (hi : i < L.length), j < 10 → (L.flatMap enc)[i * 10 + j]? = some ((enc L[i]).getD j undef)
  | [], i, j, hi, _ => absurd hi (by simp)
  | a :: L, 0, j, hi, hj => by
    rw [List.flatMap_cons, List.getElem?_append_left (by rw [enc_len]; omega), Nat.zero_mul, Nat.zero_add, List.getD_eq_getElem?_getD, List.getElem_cons_zero, List.getElem?_eq_getElem (by rw [enc_len]; omega)]
    rfl
  | a :: L, i + 1, j, hi, hj => by
    rw [List.flatMap_cons, List.getElem?_append_right (by rw [enc_len]; omega), enc_len, show (i + 1) * 10 + j - 10 = i * 10 + j by omega, flat_get L i j (by simpa using hi) hj, List.getElem_cons_succ]
theorem flat_one (L : List Cl) : ∀ v ∈ L.flatMap enc, v.oneCell' = true := by
  intro v hv
  obtain ⟨x, _, hx⟩ := List.mem_flatMap.1 hv
  exact enc_one x v hx
/-- v is a row of these calls that the call has built, in a block from base on -/
def Row (w : World) (base t : Nat) (v : Value) (L : List Cl) : Prop := w.ownsRow base t 10 v L.length (L.flatMap enc)
section
variable {w w' : World} {base t : Nat} {v : Value} {L : List Cl}
theorem Row.start (w : World) (base t : Nat) : Row w base t (.slice none 0 0) [] := World.ownsRow_nil _ _ _ _
theorem Row.lt (h : Row w base t v L) : ∀ b, v.ownBlock = some b → base ≤ b ∧ b < w.heap.size := World.ownsRow.lt h
theorem Row.kept (h : Row w base t v L) {r : Option Nat} (hg : w.grownBy w' r) (hne : v.ownBlock = none ∨ v.ownBlock ≠ r) : Row w' base t v L := World.ownsRow.kept h hg hne
theorem Row.below (h : Row w base t v L) (hb : Below w.heap.size w w') : Row w' base t v L := h.kept (r := none) (grown_of_below hb) (by rcases hv : v.ownBlock with _ | k <;> simp)
theorem Row.turned {F : Nat → Prop} (h : Row w base t v L) (ht : Turned F w w') (hF : ∀ b, v.ownBlock = some b → ¬ F b) : Row w' base t v L := by
  refine ⟨h.1, ?_⟩
  rcases h.2 with h0 | ⟨g, cap, cur, e, q0, q1, q2⟩
  · exact .inl h0
  · have hl := h.lt g (by rw [e]; rfl)
    exact .inr ⟨g, cap, cur, e, q0, (ht.block g hl.2 (hF g (by rw [e]; rfl))).trans q1, q2⟩
theorem Row.cls (h : Row w base t v L) : Cls w v L := by
  have h3 := h
  rcases h.2 with ⟨e1, e2⟩ | ⟨g, cap, cur, e1, _, e3, e4, e5, _, _⟩
  · exact ⟨none, 0, 0, e1, e2.symm, Nat.le_refl _, Nat.zero_le _, fun _ => rfl, fun i hi => absurd hi (by omega)⟩
  · refine ⟨some ⟨g, 0, none⟩, L.length, cap, e1, rfl, e4, e5, (fun e => by cases e), fun i hi => ?_⟩
    refine ⟨g, 0, fun j => (enc L[i]).getD j undef, rfl, fun j hj => ?_, fun j _ => rfl⟩
    have := World.ownsRow.cells h3 (g := g) (by rw [e1]; rfl) _ _ (flat_get L i j hi hj)
    rw [Nat.zero_add]
    rwa [add_from] at this
end
theorem run_append_row {P : Program} (w : World) (base : Nat) (t ty e : TypeId) (z : Value) (bytes : Nat) (ht : P.underlying t = some (.slice e))
    (hinfo : (P.info? e).map (fun i => (i.zero, i.size, i.bytes)) = some (some z, 10, bytes)) (hzs : z.cells.size = 10) (v : Value) (L : List Cl) (hown : Row w base e v L)
    (cs : Array Value) (y : Cl) (hcs : cs.toList = enc y) (hbytes : (L.length + 1) * (bytes + 1) ≤ 140737488355328) (hbase : base ≤ w.heap.size) :
    ∃ v' w', (Builtin.append_ #[t, t] ty #[v, .slice (some ⟨w.heap.size, 0, none⟩) 1 1]).run P (w.alloc (.cells cs e)) = .ok v' w' ∧ Row w' base e v' (L ++ [y]) ∧ w.grownBy w' v.ownBlock ∧ Below base w w' ∧
      (v'.ownBlock = v.ownBlock ∨ v'.ownBlock = some (w.heap.size + 1)) := by
  obtain ⟨v', w', hrun, hown', hg0, hat⟩ := run_append_cells (P := P) w base t ty e z 10 bytes ht hinfo hzs (by omega) v L.length _ hown cs (by rw [← Array.length_toList, hcs]; rfl) (by rw [hcs]; exact enc_one y) hbytes hbase
  refine ⟨v', w', hrun, ?_, hg0, (Below.refl _ _).grown hg0 hbase (fun b hb => (hown.lt b hb).1), hat⟩
  unfold Row
  rw [List.length_append, List.flatMap_append, List.flatMap_singleton, ← hcs]
  exact hown'
theorem wpList_append_row {P : Program} (w : World) {ops : Array Oper} {rest : List Oper} {o : Oper} {a : Act} {Q : Exit → Act → World → Prop} (hgd : o.guard = none) (s x : Operand) (t : TypeId)
    (ho : o.op = .call { callee := .builtin .append, args := #[s, x], argTypes := #[t, t] })
    (base : Nat) (e : TypeId) (z : Value) (bytes : Nat) (ht : P.underlying t = some (.slice e)) (hinfo : (P.info? e).map (fun i => (i.zero, i.size, i.bytes)) = some (some z, 10, bytes)) (hzs : z.cells.size = 10)
    (v : Value) (L : List Cl) (hs : a.eval s = v) (hown : Row w base e v L)
    (cs : Array Value) (y : Cl) (bk : Nat) (hx : a.eval x = .slice (some ⟨bk, 0, none⟩) 1 1) (hbk : bk = w.heap.size) (hcs : cs.toList = enc y)
    (hbytes : (L.length + 1) * (bytes + 1) ≤ 140737488355328) (hbase : base ≤ w.heap.size)
    (h : ∀ v' w', Row w' base e v' (L ++ [y]) → w.grownBy w' v.ownBlock → Below base w w' → (v'.ownBlock = v.ownBlock ∨ v'.ownBlock = some (w.heap.size + 1)) → wpList P ops Q rest (a.put o.dst v') w') : wpList P ops Q (o :: rest) a (w.alloc (.cells cs e)) := by
  subst hbk
  obtain ⟨v', w', hrun, h2, h3, h4, h5⟩ := run_append_row (P := P) w base t o.type e z bytes ht hinfo hzs v L hown cs y hcs hbytes hbase
  exact Lib.wpList_append_run _ hgd s x t t ho _ _ hs hx v' w' hrun (h v' w' h2 h3 h4 h5)
/-- out = append(out, l...) -/
theorem run_append_rows {P : Program} (w : World) (base : Nat) (t ty e : TypeId) (z : Value) (bytes : Nat) (ht : P.underlying t = some (.slice e))
    (hinfo : (P.info? e).map (fun i => (i.zero, i.size, i.bytes)) = some (some z, 10, bytes)) (hzs : z.cells.size = 10) (v : Value) (L : List Cl) (hown : Row w base e v L)
    (A : Option Addr) (m C : Nat) (l : List Cl) (hl : Cls w (.slice A m C) l) (hbytes : (L.length + l.length) * (bytes + 1) ≤ 140737488355328) (hbase : base ≤ w.heap.size) :
    ∃ v' w', (Builtin.append_ #[t, t] ty #[v, .slice A m C]).run P w = .ok v' w' ∧ Row w' base e v' (L ++ l) ∧ w.grownBy w' v.ownBlock ∧ Below base w w' := by
  obtain ⟨i, hi, hz0, hz1, hz2⟩ := info_parts hinfo
  have hb1 : (L.length + l.length) * 1 ≤ (L.length + l.length) * (bytes + 1) := Nat.mul_le_mul_left _ (by omega)
  have hb2 : (L.length + l.length) * bytes ≤ (L.length + l.length) * (bytes + 1) := Nat.mul_le_mul_left _ (by omega)
  obtain ⟨A', n', C', q1, q2, q3, q4, q5, q6⟩ := hl
  cases q1
  subst q2
  rcases A with _ | ad
  · have hC := q5 rfl
    have hl0 : l = [] := List.length_eq_zero_iff.1 (by omega)
    subst hl0
    subst hC
    exact ⟨v, w, run_append_owned_none (P := P) (w := w) base t ty e i 10 ht hi v L.length _ hown, by rw [List.append_nil]; exact hown, World.grownBy.refl _ _, Below.refl _ _⟩
  · obtain ⟨v', w', hrun, hown', hg, _, _⟩ := run_append_own_at (P := P) w base t ty e i z 10 bytes ht hi hz0 hz1 hz2 hzs (by omega) v L.length _ hown ad l.length C (l.flatMap enc) (flat_len l)
      (fun j u hu => by
        have hj : j < l.length * 10 := by
          have := (List.getElem?_eq_some_iff.1 hu).1
          rwa [flat_len] at this
        have hjl : j / 10 < l.length := by omega
        have hg := flat_get l (j / 10) (j % 10) hjl (by omega)
        rw [show j / 10 * 10 + j % 10 = j by omega] at hg
        rw [hg] at hu
        obtain ⟨b, o, f, e1, e2, e3⟩ := q6 (j / 10) hjl
        cases e1
        have c := e2 (j % 10) (by omega)
        rw [e3 _ (by omega), show o + j / 10 * 10 + j % 10 = o + j by omega] at c
        unfold Addr.add
        split
        · rename_i h0; subst h0; rw [← hu]; exact c
        · rw [← hu]; exact c)
      (flat_one l) (by unfold maxLen; omega) (by omega) hbase
    refine ⟨v', w', hrun, ?_, hg, (Below.refl _ _).grown hg hbase (fun k hk => (hown.lt k hk).1)⟩
    unfold Row
    rw [List.length_append, List.flatMap_append]
    exact hown'
theorem wpList_append_rows {P : Program} (w : World) {ops : Array Oper} {rest : List Oper} {o : Oper} {a : Act} {Q : Exit → Act → World → Prop} (hgd : o.guard = none) (s x : Operand) (t : TypeId)
    (ho : o.op = .call { callee := .builtin .append, args := #[s, x], argTypes := #[t, t] })
    (base : Nat) (e : TypeId) (z : Value) (bytes : Nat) (ht : P.underlying t = some (.slice e)) (hinfo : (P.info? e).map (fun i => (i.zero, i.size, i.bytes)) = some (some z, 10, bytes)) (hzs : z.cells.size = 10)
    (v : Value) (L : List Cl) (hs : a.eval s = v) (hown : Row w base e v L)
    (A : Option Addr) (m C : Nat) (l : List Cl) (hx : a.eval x = .slice A m C) (hl : Cls w (.slice A m C) l)
    (hbytes : (L.length + l.length) * (bytes + 1) ≤ 140737488355328) (hbase : base ≤ w.heap.size)
    (h : ∀ v' w', Row w' base e v' (L ++ l) → w.grownBy w' v.ownBlock → Below base w w' → wpList P ops Q rest (a.put o.dst v') w') : wpList P ops Q (o :: rest) a w := by
  obtain ⟨v', w', hrun, h2, h3, h4⟩ := run_append_rows (P := P) w base t o.type e z bytes ht hinfo hzs v L hown A m C l hl hbytes hbase
  exact Lib.wpList_append_run _ hgd s x t t ho _ _ hs hx v' w' hrun (h v' w' h2 h3 h4)
theorem step_append_rows {P : Program} (w : World) {ops : Array Oper} {o : Oper} {a : Act} {K : Act → World → Prop} {Q : Exit → Act → World → Prop} {E : Prop} (hgd : o.guard = none) (s x : Operand) (t : TypeId)
    (ho : o.op = .call { callee := .builtin .append, args := #[s, x], argTypes := #[t, t] })
    (base : Nat) (e : TypeId) (z : Value) (bytes : Nat) (ht : P.underlying t = some (.slice e)) (hinfo : (P.info? e).map (fun i => (i.zero, i.size, i.bytes)) = some (some z, 10, bytes)) (hzs : z.cells.size = 10)
    (v : Value) (L : List Cl) (hs : a.eval s = v) (hown : Row w base e v L)
    (A : Option Addr) (m C : Nat) (l : List Cl) (hx : a.eval x = .slice A m C) (hl : Cls w (.slice A m C) l)
    (hbytes : (L.length + l.length) * (bytes + 1) ≤ 140737488355328) (hbase : base ≤ w.heap.size)
    (h : ∀ v' w', Row w' base e v' (L ++ l) → w.grownBy w' v.ownBlock → Below base w w' → K (a.put o.dst v') w') :
    if Region.wanted o (yielded ops a.tmps) = true then Oper.wp P o a w K Q else E := by
  rw [if_pos (show Region.wanted o (yielded ops a.tmps) = true by simp [Region.wanted, hgd])]
  obtain ⟨v', w', hrun, h2, h3, h4⟩ := run_append_rows (P := P) w base t o.type e z bytes ht hinfo hzs v L hown A m C l hl hbytes hbase
  exact Lib.wp_append_run _ s x t t ho _ _ hs hx v' w' hrun (h v' w' h2 h3 h4)
/-- an empty row, not nil -/
theorem Row.empty (w : World) (base t : Nat) (hb : base ≤ w.heap.size) : Row (w.alloc (.cells #[] t)) base t (.slice (some ⟨w.heap.size, 0, none⟩) 0 0) [] := World.ownsRow_made w #[] 0 hb (Nat.zero_le _) rfl
end Ln
