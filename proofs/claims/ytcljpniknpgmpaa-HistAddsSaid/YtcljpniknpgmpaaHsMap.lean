/- The program's map of tasks: what it has of a history's calls; what a look, a store, a deletion and a clearing do. -/
import Derived.Test.YtcljpniknpgmpaaHsI
import Derived.Maps.OwnSet
import Derived.Maps.Ext
namespace Go.Mem
open Go.RowKit
set_option linter.unusedVariables false
theorem own_keep {H : Type} {P : Program} {k : TypeId} {R : Value → Option (DataW H × List MemPlace)} {w w' : World} {b n : Nat} {D : DataW H} (h : w.ownsMap P k R b n D) (e : w'.heap[b]? = w.heap[b]?) : w'.ownsMap P k R b n D := by
  obtain ⟨es, clock, hb, q⟩ := h
  exact ⟨es, clock, e.trans hb, q⟩
theorem int_key (t : Int) : WideAt.IsKeyLit (.int .i64 t) := trivial
theorem int_lit_inj {a b : Int} (h : (Lit.int .i64 a) = .int .i64 b) : a = b := by injection h
end Go.Mem
namespace Go.Proofs.Ytcljpniknpgmpaa.Hst
set_option linter.unusedVariables false
open Go.ChangeShapes Go.WideShapes Go.ChangeAt Go.RowKit
open Go.Mem Hs
abbrev TMap : Nat := 48
abbrev TInt : Nat := 3
theorem law : Maps.Keyed Try.prog TInt := Maps.int_keyed Try.underlying3
theorem zeroE (w : World) : (zeroValue TInt).run Try.prog w = .ok (.int .i64 0) w := by kernel_rfl
theorem wf_of {t : Int} (h : I64 t) : (Lit.int .i64 t).wf = true := by
  obtain ⟨h1, h2⟩ := h
  exact WalkArith.wf_i64 (by omega)
theorem key_of {t : Int} (h : I64 t) : keyOf Try.prog TInt (.int .i64 t) = some (.int .i64 t) := Maps.keyOf_int_mk Try.underlying3 (wf_of h)
/-- D has, by tasks, the call that may still end -/
structure Opens (D : DataW Value) (s : St) : Prop where
  map : Maps.IsMap D
  has : ∀ t, Maps.has D (.int .i64 t) = (s.find t).isSome
  val : ∀ t k, s.find t = some k → ∀ z, D.atKey (.int .i64 t) z = .lit (.int .i64 (k : Nat))
/-- block b is that map -/
structure MapOf (w : World) (b : Nat) (s : St) : Prop where
  ex : ∃ D n, w.ownsMap Try.prog TInt (plainElem Try.prog TInt) b n D ∧ n ≤ s.calls.length ∧ Opens D s
theorem MapOf.lt {w : World} {b : Nat} {s : St} (h : MapOf w b s) : b < w.heap.size := by
  obtain ⟨D, n, h1, _⟩ := h
  exact h1.lt
theorem MapOf.keep {w w' : World} {b : Nat} {s : St} (h : MapOf w b s) (e : w'.heap[b]? = w.heap[b]?) : MapOf w' b s := by
  obtain ⟨D, n, h1, h2⟩ := h
  exact ⟨D, n, own_keep h1 e, h2⟩
theorem MapOf.congr {w : World} {b : Nat} {s s' : St} (h : MapOf w b s) (hl : s.calls.length ≤ s'.calls.length) (hf : ∀ t, s'.find t = s.find t) : MapOf w b s' := by
  obtain ⟨D, n, h1, h2, h3⟩ := h
  exact ⟨D, n, h1, Nat.le_trans h2 hl, h3.map, fun t => by rw [hf t]; exact h3.has t, fun t k q => h3.val t k (by rw [← hf t]; exact q)⟩
/-- v, ok := m[t], where it is there -/
theorem MapOf.look {w : World} {b : Nat} {s : St} (h : MapOf w b s) {t : Int} (ht : I64 t) {k : Nat} (hk : s.find t = some k) :
    (Instr.lookup TMap (.map (some b)) (.int .i64 t) true).run Try.prog w = .ok (.tuple #[.int .i64 (k : Nat), .bool true]) w := by
  obtain ⟨D, n, h1, h2, h3⟩ := h
  obtain ⟨v, ps, r1, r2⟩ := h1.look_ok law Try.underlying48 (zeroE w) (zd := .lit (.int .i64 0)) (zp := []) (plainElem_int Try.underlying3 (by decide)) (key_of ht)
  obtain ⟨c, rfl, hc, -⟩ := plainElem_int_inv Try.underlying3 r2
  have e := congrArg Prod.fst hc
  rw [h3.val t k hk] at e
  have e2 : c = (k : Nat) := by
    have e3 : (DataW.lit (.int .i64 (k : Nat)) : DataW Value) = .lit (.int .i64 c) := e
    injection e3 with e3
    exact (int_lit_inj e3).symm
  rw [h3.has t, hk] at r1
  rw [← e2]
  exact r1
/-- .. and where it is not -/
theorem MapOf.lookNo {w : World} {b : Nat} {s : St} (h : MapOf w b s) {t : Int} (ht : I64 t) (hk : s.find t = none) :
    ∃ v : Int, (Instr.lookup TMap (.map (some b)) (.int .i64 t) true).run Try.prog w = .ok (.tuple #[.int .i64 v, .bool false]) w := by
  obtain ⟨D, n, h1, h2, h3⟩ := h
  obtain ⟨v, ps, r1, r2⟩ := h1.look_ok law Try.underlying48 (zeroE w) (zd := .lit (.int .i64 0)) (zp := []) (plainElem_int Try.underlying3 (by decide)) (key_of ht)
  obtain ⟨c, rfl, hc, -⟩ := plainElem_int_inv Try.underlying3 r2
  rw [h3.has t, hk] at r1
  exact ⟨c, r1⟩
theorem look_nil (w : World) {t : Int} (ht : I64 t) : (Instr.lookup TMap (.map none) (.int .i64 t) true).run Try.prog w = .ok (.tuple #[.int .i64 0, .bool false]) w := by
  have h := Maps.look_nil (w := w) true law Try.underlying48 (zeroE w) (key_of ht)
  simpa using h
/-- m[t] = k -/
theorem MapOf.store {w : World} {b : Nat} {s s' : St} (h : MapOf w b s) (hlen : s.calls.length ≤ 1000000) {t : Int} (ht : I64 t) {k : Nat} (hk : k ≤ 1000000) (hl : s.calls.length + 1 ≤ s'.calls.length) (hf : ∀ t', s'.find t' = if t' = t then some k else s.find t') :
    ∃ w', (Instr.mapUpdate TMap (.map (some b)) (.int .i64 t) (.int .i64 (k : Nat))).run Try.prog w = .ok () w' ∧ MapOf w' b s' ∧ Turned (fun x => x = b) w w' ∧ w'.heap.size = w.heap.size := by
  obtain ⟨D, n, h1, h2, h3⟩ := h
  obtain ⟨w', r1, r2, r3⟩ := h1.store law Try.underlying48 (by unfold maxLen; omega) (key_of ht) (plainElem_int (H := Value) Try.underlying3 (a := (k : Nat)) (wf_of ⟨by omega, by omega⟩))
  have htu : Turned (fun x => x = b) w w' := Turned.grown r3.grown (fun k q => (Option.some.inj q).symm)
  have hsz : w'.heap.size = w.heap.size := by
    obtain ⟨es, clock, es', clock', hb, rfl⟩ := r3
    simp [ChangeMaps.setBlock]
  refine ⟨w', r1, ⟨_, _, r2, by omega, h3.map.put _ _, fun t' => ?_, fun t' k' q z => ?_⟩, htu, hsz⟩
  · rw [hf t']
    by_cases e : t' = t
    · subst e; rw [if_pos rfl, Maps.has_put_same h3.map (int_key _)]; rfl
    · rw [if_neg e, Maps.has_put_other (fun q => e (int_lit_inj q))]; exact h3.has t'
  · rw [hf t'] at q
    by_cases e : t' = t
    · subst e
      rw [if_pos rfl] at q
      cases q
      exact Maps.atKey_put_same h3.map (int_key _) _ _
    · rw [if_neg e] at q
      rw [Maps.atKey_put_other (fun q => e (int_lit_inj q))]
      exact h3.val t' k' q z
/-- delete(m, t) -/
theorem MapOf.drop {w : World} {b : Nat} {s s' : St} (h : MapOf w b s) {t : Int} (ht : I64 t) (hl : s.calls.length ≤ s'.calls.length) (hf : ∀ t', s'.find t' = if t' = t then none else s.find t') (ty : TypeId) :
    ∃ w', (Builtin.delete_ #[TMap, TInt] ty #[.map (some b), .int .i64 t]).run Try.prog w = .ok (.tuple #[]) w' ∧ MapOf w' b s' ∧ Turned (fun x => x = b) w w' ∧ w'.heap.size = w.heap.size := by
  obtain ⟨D, n, h1, h2, h3⟩ := h
  obtain ⟨w', r1, r2, r3⟩ := h1.drop law Try.underlying48 (key_of ht) ty
  have htu : Turned (fun x => x = b) w w' := Turned.grown r3.grown (fun k q => (Option.some.inj q).symm)
  have hsz : w'.heap.size = w.heap.size := by
    obtain ⟨es, clock, es', clock', hb, rfl⟩ := r3
    simp [ChangeMaps.setBlock]
  refine ⟨w', r1, ⟨_, _, r2, by omega, h3.map.del _, fun t' => ?_, fun t' k' q z => ?_⟩, htu, hsz⟩
  · rw [hf t']
    by_cases e : t' = t
    · subst e; rw [if_pos rfl, Maps.has_del_same]; rfl
    · rw [if_neg e, Maps.has_del_other (fun q => e (int_lit_inj q))]; exact h3.has t'
  · rw [hf t'] at q
    by_cases e : t' = t
    · subst e
      rw [if_pos rfl] at q
      cases q
    · rw [if_neg e] at q
      rw [Maps.atKey_del_other (fun q => e (int_lit_inj q))]
      exact h3.val t' k' q z
theorem opens_none {s : St} (h : ∀ t, s.find t = none) : Opens (.map []) s := ⟨Maps.isMap_empty, fun t => by rw [h t]; rfl, fun t k q => by rw [h t] at q; cases q⟩
/-- a map that was just made -/
theorem MapOf.made (w : World) {s : St} (h : ∀ t, s.find t = none) : MapOf (w.alloc (.map #[] 0)) w.heap.size s := ⟨_, 0, World.ownsMap_made _ _ _ _, Nat.zero_le _, opens_none h⟩
end Go.Proofs.Ytcljpniknpgmpaa.Hst
