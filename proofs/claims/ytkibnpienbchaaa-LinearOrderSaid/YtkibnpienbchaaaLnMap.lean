/- Maps of texts to values of whatever type, as a call makes them: what a look and a store do. -/
import Derived.Test.YtkibnpienbchaaaRows
import Derived.Test.YtkibnpienbchaaaLnMem
import Derived.Maps.OwnSet
import Derived.Maps.Ext
import Derived.WalkKit
namespace Go.Mem
open Go.RowKit
set_option linter.unusedVariables false
theorem own_keep {H : Type} {P : Program} {k : TypeId} {R : Value → Option (DataW H × List MemPlace)} {w w' : World} {b n : Nat} {D : DataW H} (h : w.ownsMap P k R b n D) (e : w'.heap[b]? = w.heap[b]?) : w'.ownsMap P k R b n D := by
  obtain ⟨es, clock, hb, q⟩ := h
  exact ⟨es, clock, e.trans hb, q⟩
/-- how an element reads: as itself -/
def heldR (v : Value) : Option (DataW Value × List MemPlace) := some (.held v, [])
theorem heldR_inj {v u : Value} {ps : List MemPlace} (h : heldR v = some (.held u, ps)) : v = u := by
  have e := congrArg (fun o : Option (DataW Value × List MemPlace) => match o with | some (.held x, _) => x | _ => undef) h
  exact e
abbrev kl (s : ByteArray) : Lit := .string s.data.toList
theorem kl_inj {s t : ByteArray} (h : kl s = kl t) : s = t := by
  injection h with h
  cases s; cases t
  simp only [ByteArray.mk.injEq]
  exact Array.toList_inj.1 h
theorem kl_key (s : ByteArray) : WideAt.IsKeyLit (kl s) := trivial
/-- one key more -/
def upd (m : ByteArray → Option Value) (k : ByteArray) (v : Value) : ByteArray → Option Value := fun s => if s = k then some v else m s
end Go.Mem
namespace Go.Proofs.Ytkibnpienbchaaa.Lnr
set_option linter.unusedVariables false
open Go.ChangeShapes Go.WideShapes Go.ChangeAt Go.RowKit
open Go.Mem Ln
abbrev TStr : Nat := 9
theorem law : Maps.Keyed Try.prog TStr := Maps.string_keyed Try.underlying9
theorem key_of {s : ByteArray} (h : KeyOk s) : keyOf Try.prog TStr (.string s) = some (kl s) := WideMaps.keyOf_string_mk Try.underlying9 (by unfold KeyOk at h; unfold maxLen; omega)
/-- block b is this map, of at most n stores -/
structure MapV (w : World) (b n : Nat) (m : ByteArray → Option Value) : Prop where
  ex : ∃ D, w.ownsMap Try.prog TStr heldR b n D ∧ (∀ s : ByteArray, Maps.has D (kl s) = (m s).isSome) ∧ ∀ s v, m s = some v → ∀ z, D.atKey (kl s) z = .held v
theorem MapV.lt {w : World} {b n : Nat} {m : ByteArray → Option Value} (h : MapV w b n m) : b < w.heap.size := by
  obtain ⟨D, h1, _⟩ := h
  exact h1.lt
theorem MapV.keep {w w' : World} {b n : Nat} {m : ByteArray → Option Value} (h : MapV w b n m) (e : w'.heap[b]? = w.heap[b]?) : MapV w' b n m := by
  obtain ⟨D, h1, h2⟩ := h
  exact ⟨D, own_keep h1 e, h2⟩
theorem MapV.below {w w' : World} {b n : Nat} {m : ByteArray → Option Value} (h : MapV w b n m) (hb : Below w.heap.size w w') : MapV w' b n m := h.keep (hb.block b h.lt)
theorem MapV.turned {F : Nat → Prop} {w w' : World} {b n : Nat} {m : ByteArray → Option Value} (h : MapV w b n m) (ht : Turned F w w') (hF : ¬ F b) : MapV w' b n m := h.keep (ht.block b h.lt hF)
theorem MapV.congr {w : World} {b n : Nat} {m m' : ByteArray → Option Value} (h : MapV w b n m) (e : ∀ s, m' s = m s) : MapV w b n m' := by
  have : m' = m := funext e
  rw [this]; exact h
theorem MapV.more {w : World} {b n n' : Nat} {m : ByteArray → Option Value} (h : MapV w b n m) (e : n ≤ n') : MapV w b n' m := by
  obtain ⟨D, h1, h2⟩ := h
  exact ⟨D, h1.mono e, h2⟩
/-- v, ok := m[s], where it is there -/
theorem MapV.look {w : World} {b n : Nat} {m : ByteArray → Option Value} (h : MapV w b n m) {T E : TypeId} {Z : Value} (hT : Try.prog.underlying T = some (.map TStr E)) (hZ : ∀ w, (zeroValue E).run Try.prog w = .ok Z w) {s : ByteArray} (hs : KeyOk s) {v : Value} (hv : m s = some v) :
    (Instr.lookup T (.map (some b)) (.string s) true).run Try.prog w = .ok (.tuple #[v, .bool true]) w := by
  obtain ⟨D, h1, h2, h3⟩ := h
  obtain ⟨v', ps, r1, r2⟩ := h1.look_ok law hT (hZ w) (zd := .held _) (zp := []) rfl (key_of hs)
  rw [h3 s v hv] at r2
  have ev : v' = v := heldR_inj r2
  rw [ev, h2, hv] at r1
  exact r1
theorem str_shape {key : Value} {l : Lit} (h : keyOf Try.prog TStr key = some l) : ∃ s : ByteArray, key = .string s := by
  have hu := Try.underlying9
  obtain ⟨P, hP⟩ : ∃ P, Try.prog = P := ⟨_, rfl⟩
  rw [hP] at h hu
  clear hP
  unfold keyOf at h
  rw [hu] at h
  cases key <;> simp [mapKey, hu] at h
  exact ⟨_, rfl⟩
theorem key_lit {s : ByteArray} {l : Lit} (h : keyOf Try.prog TStr (.string s) = some l) : l = kl s := by
  have hu := Try.underlying9
  obtain ⟨P, hP⟩ : ∃ P, Try.prog = P := ⟨_, rfl⟩
  rw [hP] at h hu
  clear hP
  unfold keyOf at h
  rw [hu] at h
  simp [mapKey, hu] at h
  exact h.2.symm
theorem lookup_miss {T E : TypeId} {Z : Value} (hT : Try.prog.underlying T = some (.map TStr E)) (hZ : ∀ w, (zeroValue E).run Try.prog w = .ok Z w) (w : World) (b : Nat) (es : Array MapEntry) (clock : Nat) (hb : w.heap[b]? = some (.map es clock)) (s : ByteArray) (hk : ∀ x ∈ es.toList, ∃ t : ByteArray, x.key = .string t) (hne : ∀ x ∈ es.toList, x.key ≠ .string s) :
    (Instr.lookup T (.map (some b)) (.string s) true).run Try.prog w = .ok (.tuple #[Z, .bool false]) w := by
  have h1 : Instr.findNow .string (.string s) es.toList 0 = some none := by
    rcases MapKept.findNow_spec (d := .string) (k := .string s) trivial es.toList 0 (fun x hx => by obtain ⟨t, e⟩ := hk x hx; rw [e]; trivial) with ⟨q, _⟩ | ⟨j, e, _, h2, h3⟩
    · exact q
    · exact absurd h3 (hne e (List.mem_of_getElem? h2))
  have h2 := MapKept.run_findKey (w := w) Try.underlying9 h1
  have h3 := fun em => MapKept.run_checkKey (w := w) (k := .string s) Try.underlying9 trivial em 9999
  have h4 := run_underlying (w := w) hT
  have hz := hZ w
  clear hZ hT
  obtain ⟨P, hP⟩ : ∃ P, Try.prog = P := ⟨_, rfl⟩
  rw [hP] at h2 h3 h4 hz ⊢
  clear hP
  simp [Instr.lookup, h4, MapKept.run_getObj_map hb, h3, h2, hz, Result.andThen]
/-- .. and where it is not -/
theorem MapV.lookNo {w : World} {b n : Nat} {m : ByteArray → Option Value} (h : MapV w b n m) {T E : TypeId} {Z : Value} (hT : Try.prog.underlying T = some (.map TStr E)) (hZ : ∀ w, (zeroValue E).run Try.prog w = .ok Z w) (s : ByteArray) (hn : m s = none) :
    (Instr.lookup T (.map (some b)) (.string s) true).run Try.prog w = .ok (.tuple #[Z, .bool false]) w := by
  obtain ⟨D, h1, h2, h3⟩ := h
  have hh : Maps.has D (kl s) = false := by rw [h2, hn]; rfl
  obtain ⟨es, clock, hb, F, hs, hD⟩ := h1
  refine lookup_miss hT hZ w b es clock hb s (fun x hx => ?_) (fun x hx e => ?_)
  · obtain ⟨y, hy⟩ := F.reads x hx
    exact str_shape (WideElems.rd_key hy)
  · obtain ⟨y, hy⟩ := F.reads x hx
    have h1 := WideElems.rd_key hy
    rw [e] at h1
    have h2 : y.1 = kl s := key_lit h1
    have : Maps.has D (kl s) = true := by
      rw [hD]
      exact List.any_eq_true.2 ⟨WideElems.rg Try.prog TStr heldR x, mem_sorted.2 (List.mem_map.2 ⟨x, hx, rfl⟩), by rw [WideElems.rg_of hy, h2]; exact WideAt.sameKey_self (kl_key s)⟩
    rw [this] at hh
    cases hh
/-- m[s] = v -/
theorem MapV.store {w : World} {b n : Nat} {m : ByteArray → Option Value} (h : MapV w b n m) {T E : TypeId} (hT : Try.prog.underlying T = some (.map TStr E)) (hn : n ≤ 1000000) {s : ByteArray} (hs : KeyOk s) (v : Value) :
    ∃ w', (Instr.mapUpdate T (.map (some b)) (.string s) v).run Try.prog w = .ok () w' ∧ MapV w' b (n + 1) (upd m s v) ∧ Turned (fun x => x = b) w w' ∧ w'.heap.size = w.heap.size := by
  obtain ⟨D, h1, h2, h3⟩ := h
  obtain ⟨w', r1, r2, r3⟩ := h1.store law hT (by unfold maxLen; omega) (key_of hs) (show heldR v = some (.held v, []) from rfl)
  have hM := (h1.tidy law).isMap
  have htu : Turned (fun x => x = b) w w' := Turned.grown r3.grown (fun k q => (Option.some.inj q).symm)
  have hsz : w'.heap.size = w.heap.size := by
    obtain ⟨es, clock, es', clock', hb, rfl⟩ := r3
    simp [ChangeMaps.setBlock]
  refine ⟨w', r1, ⟨_, r2, fun t => ?_, fun t u q z => ?_⟩, htu, hsz⟩
  · unfold upd
    by_cases e : t = s
    · subst e; rw [if_pos rfl, Maps.has_put_same hM (kl_key _)]; rfl
    · rw [if_neg e, Maps.has_put_other (fun q => e (kl_inj q))]; exact h2 t
  · unfold upd at q
    by_cases e : t = s
    · subst e
      rw [if_pos rfl] at q
      cases q
      exact Maps.atKey_put_same hM (kl_key _) _ _
    · rw [if_neg e] at q
      rw [Maps.atKey_put_other (fun q => e (kl_inj q))]
      exact h3 t u q z
/-- a map that was just made -/
theorem MapV.made (w : World) : MapV (w.alloc (.map #[] 0)) w.heap.size 0 (fun _ => none) := ⟨_, World.ownsMap_made _ _ _ _, fun s => rfl, fun s v q => by cases q⟩
end Go.Proofs.Ytkibnpienbchaaa.Lnr
