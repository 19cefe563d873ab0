/- What the law of layer 14 looks at, plain: objects by their keys, stripes by their numbers, and how many there are. -/
import Derived.Test.YtlgdchflegflkaaTbApAll
namespace Tb
open Go Go.Mem Kl
theorem find_at {α : Type} {p : α → Bool} : ∀ {L : List α} {i : Nat} (hi : i < L.length), (∀ j (hj : j < L.length), j < i → p L[j] = false) → p L[i] = true → L.find? p = some L[i]
  | [], i, hi, _, _ => absurd hi (by simp)
  | a :: L, 0, _, _, e => by
    rw [List.find?_cons, show p a = true from e]
    rfl
  | a :: L, i + 1, hi, h, e => by
    rw [List.find?_cons, show p a = false from h 0 (by simp) (by omega)]
    exact find_at (L := L) (i := i) (by simpa using hi) (fun j hj q => h (j + 1) (by simpa using hj) (by omega)) e
theorem find_obj {L : List ObjD} (h : Rising keyOf L) {i : Nat} (hi : i < L.length) : find keyOf L[i].key.toList L = some L[i] := by
  unfold find
  refine find_at hi (fun j hj q => ?_) (by simp [keyOf])
  have := ne (List.pairwise_iff_getElem.1 h j i hj hi q)
  exact decide_eq_false this
theorem row_lt {t : TabD} (h : t.Ok) {i j : Nat} (hj : j < (rowS t).length) (hi : i < (rowS t).length) (hji : j < i) : (rowS t)[j].id < (rowS t)[i].id := List.pairwise_iff_getElem.1 (rowS_up h) j i hj hi hji
theorem row_find {t : TabD} (h : t.Ok) {i : Nat} (hi : i < (rowS t).length) : stripe t (rowS t)[i].id = some (rowS t)[i] := stripe_self h (rowS_mem.1 (List.getElem_mem hi))
def lenTo (L : List ObjD) (i : Nat) : Nat := ((L.take i).flatMap ObjD.stripes).length
theorem lenTo_zero (L : List ObjD) : lenTo L 0 = 0 := rfl
theorem lenTo_succ {L : List ObjD} {i : Nat} (hi : i < L.length) : lenTo L (i + 1) = lenTo L i + L[i].stripes.length := by
  unfold lenTo
  rw [List.take_succ_eq_append_getElem hi, List.flatMap_append, List.length_append]
  simp
theorem lenTo_all {t : TabD} {n : Nat} (h : t.objs.length = n) : lenTo t.objs n = (rowS t).length := by
  unfold lenTo
  rw [List.take_of_length_le (by omega), rowS_len]
  rfl
theorem len96 {k n : Int} (h0 : 1 ≤ k) {o : ObjD} (h : ObjOk k n o) : o.stripes.length ≤ 96 := by
  have e := h.2.2.2.2.2.2.1
  have := nStp_le (k := k) (size := o.size) h0 h.2.2.2.2.2.1
  omega
theorem lenTo_le {t : TabD} (h : t.Ok) : ∀ {i : Nat}, i ≤ t.objs.length → lenTo t.objs i ≤ 96 * i
  | 0, _ => Nat.le_refl _
  | i + 1, hi => by
    rw [lenTo_succ (show i < t.objs.length by omega)]
    have h1 := lenTo_le h (i := i) (by omega)
    have h2 := len96 h.k1 (h.all.1 _ (List.getElem_mem (show i < t.objs.length by omega))).1
    omega
end Tb
namespace Go.Proofs.Ytlgdchflegflkaa.Tbl
set_option linter.unusedVariables false
open Go.ChangeShapes Go.WideShapes Go.ChangeAt Go.RowKit
open Go.Mem RecM
/-- one element of a slice, as a slice -/
theorem Objs.one {w : World} {b o n C : Nat} {L : List ObjD} (h : Objs w (.slice (some ⟨b, o, none⟩) n C) L) {i : Nat} (hi : i < L.length) (hC : i + 1 ≤ C) (hm : C ≤ 9223372036854775807) : Objs w (.slice (some ⟨b, o + i * 4, none⟩) 1 (C - i)) [L[i]] := by
  obtain ⟨A', n', C', h1, _, _, _, _, h6⟩ := h
  cases h1
  refine ⟨_, 1, C - i, rfl, rfl, by omega, by unfold maxLen; omega, (fun e => by cases e), fun k hk => ?_⟩
  obtain rfl : k = 0 := by simp at hk; exact hk
  obtain ⟨b', o', f, e1, e2, e3⟩ := h6 i hi
  cases e1
  exact ⟨b, o + i * 4, f, rfl, fun j hj => by rw [show o + i * 4 + 0 * 4 + j = o + i * 4 + j by omega]; exact e2 j hj, e3⟩
/-- an object alone, in a block of its own -/
theorem obj_alone {w w' : World} {T : TypeId} {o : ObjD} {A : Option Addr} {C : Nat} (hb : Below (w.alloc (.cells #[.string o.key, .int .i64 o.id, .int .i64 o.size, .slice A o.stripes.length C] T)).heap.size (w.alloc (.cells #[.string o.key, .int .i64 o.id, .int .i64 o.size, .slice A o.stripes.length C] T)) w') (hi : Stps w' (.slice A o.stripes.length C) o.stripes)
    (h0 : I64 o.id) (h1 : I64 o.size) (h2 : KeyOk o.key) (h3 : LenOk o.stripes.length) : Objs w' (.slice (some ⟨w.heap.size, 0, none⟩) 1 1) [o] := by
  have cs := fun (j : Nat) (hj : j < 4) => below_cell hb _ _ (cells_of w #[.string o.key, .int .i64 o.id, .int .i64 o.size, .slice A o.stripes.length C] T (i := j) hj)
  refine ⟨_, 1, 1, rfl, rfl, Nat.le_refl _, by unfold maxLen; omega, (fun e => by cases e), fun i hi' => ?_⟩
  obtain rfl : i = 0 := by simp at hi'; exact hi'
  refine ⟨_, 0, fun j => #[Value.string o.key, .int .i64 o.id, .int .i64 o.size, .slice A o.stripes.length C].getD j undef, rfl, fun j hj => ?_, rfl, rfl, rfl, hi, h0, h1, h2, h3⟩
  rw [show 0 + 0 * 4 + j = j by omega, cs j hj]
  rcases (by omega : j = 0 ∨ j = 1 ∨ j = 2 ∨ j = 3) with rfl | rfl | rfl | rfl <;> rfl
theorem Strs.at {w : World} {A : Option Addr} {n C : Nat} {L : List ByteArray} (h : Strs w (.slice A n C) L) {i : Nat} (hi : i < L.length) : ∃ b o, A = some ⟨b, o, none⟩ ∧ w.cell? ⟨b, o + i, none⟩ = some (.string L[i]) := by
  obtain ⟨A1, n1, C1, h1, _, _, _, _, h6⟩ := h
  cases h1
  obtain ⟨b, o, c, e, q, r⟩ := h6 i hi
  exact ⟨b, o, e, by rw [q, show c = _ from r]⟩
theorem Strs.below {w w' : World} {v : Value} {l : List ByteArray} (h : Strs w v l) (hb : Below w.heap.size w w') : Strs w' v l := SliceOf.mono h (below_cell hb) (fun _ _ h => h)
theorem Strs.shape {w : World} {v : Value} {l : List ByteArray} (h : Strs w v l) : ∃ A C, v = .slice A l.length C ∧ l.length ≤ C ∧ C ≤ 9223372036854775807 ∧ (A = none → C = 0) := SliceOf.shape h
end Go.Proofs.Ytlgdchflegflkaa.Tbl
