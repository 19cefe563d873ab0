/- Keys by their bytes: the order of strings is a strict, total one. No program is named here. -/
import Derived.Lib.Strings
namespace Kl
open Go
abbrev lt (a b : List UInt8) : Bool := Op.bytesLess a b
theorem lt_nil (a : List UInt8) : lt a [] = false := by cases a <;> rfl
theorem lt_cons (a b : UInt8) (x y : List UInt8) : lt (a :: x) (b :: y) = (decide (a < b) || (a == b && lt x y)) := rfl
theorem lt_iff {a b : UInt8} {x y : List UInt8} : lt (a :: x) (b :: y) = true ↔ a.toNat < b.toNat ∨ a = b ∧ lt x y = true := by
  rw [lt_cons]
  simp [UInt8.lt_iff_toNat_lt]
theorem irrefl : ∀ a : List UInt8, lt a a = false
  | [] => rfl
  | a :: x => by
    cases h : lt (a :: x) (a :: x)
    · rfl
    · rcases lt_iff.1 h with q | ⟨_, q⟩
      · omega
      · rw [irrefl x] at q; cases q
theorem trans : ∀ {a b c : List UInt8}, lt a b = true → lt b c = true → lt a c = true
  | _, _, [], _, h => by rw [lt_nil] at h; cases h
  | _, [], _ :: _, h, _ => by rw [lt_nil] at h; cases h
  | [], _ :: _, _ :: _, _, _ => rfl
  | a :: x, b :: y, c :: z, h, k => by
    rw [lt_iff] at h k ⊢
    rcases h with h | ⟨rfl, h⟩ <;> rcases k with k | ⟨rfl, k⟩
    · exact .inl (by omega)
    · exact .inl h
    · exact .inl k
    · exact .inr ⟨rfl, trans h k⟩
theorem total : ∀ (a b : List UInt8), lt a b = true ∨ a = b ∨ lt b a = true
  | [], [] => .inr (.inl rfl)
  | [], _ :: _ => .inl rfl
  | _ :: _, [] => .inr (.inr rfl)
  | a :: x, b :: y => by
    rw [lt_iff, lt_iff]
    rcases (by omega : a.toNat < b.toNat ∨ a.toNat = b.toNat ∨ b.toNat < a.toNat) with h | h | h
    · exact .inl (.inl h)
    · have e : a = b := UInt8.toNat_inj.1 h
      subst e
      rcases total x y with q | q | q
      · exact .inl (.inr ⟨rfl, q⟩)
      · exact .inr (.inl (by rw [q]))
      · exact .inr (.inr (.inr ⟨rfl, q⟩))
    · exact .inr (.inr (.inl h))
theorem asymm {a b : List UInt8} (h : lt a b = true) : lt b a = false := by
  cases k : lt b a
  · rfl
  · have := trans h k
    rw [irrefl] at this
    cases this
theorem ne {a b : List UInt8} (h : lt a b = true) : a ≠ b := fun e => by
  subst e
  rw [irrefl] at h
  cases h
theorem not_lt {a b : List UInt8} (h : lt a b = false) : a = b ∨ lt b a = true := (total a b).resolve_left fun q => by rw [h] at q; cases q
theorem le_lt {a b c : List UInt8} (h : lt b a = false) (k : lt b c = true) : lt a c = true := by
  rcases not_lt h with e | e
  · rw [← e]; exact k
  · exact trans e k
theorem list_inj {s t : ByteArray} (h : s.toList = t.toList) : s = t := by
  rw [ByteArray.toList_eq, ByteArray.toList_eq, Array.toList_inj] at h
  cases s; cases t; cases h; rfl
/-- keys that rise -/
def Rising {α : Type} (key : α → List UInt8) (L : List α) : Prop := L.Pairwise fun a b => lt (key a) (key b) = true
variable {α : Type} {key : α → List UInt8}
/-- x in the place of what bears its key, or where it belongs -/
def put (key : α → List UInt8) (x : α) : List α → List α
  | [] => [x]
  | a :: L => if lt (key a) (key x) = true then a :: put key x L else if key a = key x then x :: L else x :: a :: L
def del (key : α → List UInt8) (k : List UInt8) (L : List α) : List α := L.filter fun a => decide (key a ≠ k)
def find (key : α → List UInt8) (k : List UInt8) (L : List α) : Option α := L.find? fun a => decide (key a = k)
theorem put_mem {x y : α} : ∀ {L : List α}, y ∈ put key x L → y = x ∨ y ∈ L
  | [], h => .inl (List.mem_singleton.1 h)
  | a :: L, h => by
    unfold put at h
    split at h
    · rcases List.mem_cons.1 h with q | q
      · exact .inr (q ▸ List.mem_cons_self)
      · exact (put_mem q).imp id (List.mem_cons_of_mem _)
    · split at h
      · rcases List.mem_cons.1 h with q | q
        · exact .inl q
        · exact .inr (List.mem_cons_of_mem _ q)
      · rcases List.mem_cons.1 h with q | q
        · exact .inl q
        · exact .inr q
theorem put_rising {x : α} : ∀ {L : List α}, Rising key L → Rising key (put key x L)
  | [], _ => List.pairwise_singleton _ _
  | a :: L, h => by
    obtain ⟨h1, h2⟩ := List.pairwise_cons.1 h
    unfold put
    split
    · rename_i c
      refine List.pairwise_cons.2 ⟨fun y hy => ?_, put_rising h2⟩
      rcases put_mem hy with q | q
      · rw [q]; exact c
      · exact h1 y q
    · rename_i c
      split
      · rename_i e
        exact List.pairwise_cons.2 ⟨fun y hy => e ▸ h1 y hy, h2⟩
      · rename_i e
        have hx : lt (key x) (key a) = true := (not_lt (by simpa using c)).resolve_left e
        refine List.pairwise_cons.2 ⟨fun y hy => ?_, h⟩
        rcases List.mem_cons.1 hy with q | q
        · rw [q]; exact hx
        · exact trans hx (h1 y q)
theorem del_rising {k : List UInt8} {L : List α} (h : Rising key L) : Rising key (del key k L) := List.Pairwise.filter _ h
theorem find_put {x : α} {k : List UInt8} : ∀ {L : List α}, Rising key L → find key k (put key x L) = if key x = k then some x else find key k L
  | [], _ => by
    unfold put find
    by_cases e : key x = k <;> simp [e]
  | a :: L, h => by
    obtain ⟨h1, h2⟩ := List.pairwise_cons.1 h
    have ih := find_put (x := x) (k := k) h2
    unfold find at ih ⊢
    unfold put
    split
    · rename_i c
      rw [List.find?_cons, List.find?_cons, ih]
      by_cases e : key x = k
      · have : key a ≠ k := fun q => ne c (q.trans e.symm)
        simp [e, this]
      · simp [e]
    · rename_i c
      split
      · rename_i e
        rw [List.find?_cons, List.find?_cons, e]
        by_cases q : key x = k <;> simp [q]
      · rw [List.find?_cons]
        by_cases q : key x = k <;> simp [q]
theorem find_del {k k' : List UInt8} {L : List α} : find key k' (del key k L) = if k = k' then none else find key k' L := by
  unfold find del
  induction L with
  | nil => simp
  | cons a L ih =>
    by_cases e : key a = k
    · rw [List.filter_cons_of_neg (by simpa using e), ih, List.find?_cons]
      by_cases q : k = k'
      · simp [q]
      · have : key a ≠ k' := fun z => q (e.symm.trans z)
        simp [q, this]
    · rw [List.filter_cons_of_pos (by simpa using e), List.find?_cons, List.find?_cons, ih]
      by_cases z : key a = k'
      · have : k ≠ k' := fun y => e (z.trans y.symm)
        simp [z, this]
      · simp [z]
end Kl
