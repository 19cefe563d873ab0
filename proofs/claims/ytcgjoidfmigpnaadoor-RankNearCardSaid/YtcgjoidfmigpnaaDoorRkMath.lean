/- Who is nearest, plain: an order of drives for a stripe, the nearest ones of those that are in. No program is named here but the document's weight. -/
import Derived.Test.YtcgjoidfmigpnaaDoorShaWeight
import Derived.Test.YtcgjoidfmigpnaaDoorRecD
namespace Go.Proofs.YtcgjoidfmigpnaaDoor.Rk
open Go.Mem Sha Hash
/-- how near a drive is -/
def wt (s d : Int) : Nat := weight (u64 s) (u64 d)
/-- a comes before b, or is it -/
def near (s a b : Int) : Prop := wt s b < wt s a ∨ (wt s a = wt s b ∧ a ≤ b)
instance (s a b : Int) : Decidable (near s a b) := by unfold near; infer_instance
theorem near_refl (s a : Int) : near s a a := .inr ⟨rfl, by omega⟩
theorem near_total (s a b : Int) : near s a b ∨ near s b a := by unfold near; omega
theorem near_trans {s a b c : Int} (h : near s a b) (k : near s b c) : near s a c := by unfold near at *; omega
theorem near_one {s a b : Int} (h : near s a b) (k : near s b a) : a = b := by unfold near at *; omega
def Sorted (s : Int) (m : List Int) : Prop := m.Pairwise (near s)
/-- m is l, the nearest first -/
def IsOrd (s : Int) (l m : List Int) : Prop := m.Perm l ∧ Sorted s m
theorem sorted_one {s : Int} : ∀ {m n : List Int}, m.Perm n → Sorted s m → Sorted s n → m = n
  | [], n, h, _, _ => (List.nil_perm.1 h).symm
  | a :: m, [], h, _, _ => by have := h.length_eq; simp at this
  | a :: m, b :: n, h, hm, hn => by
    obtain ⟨h1, h2⟩ := List.pairwise_cons.1 hm
    obtain ⟨k1, k2⟩ := List.pairwise_cons.1 hn
    have e : a = b := by
      have ha : a ∈ b :: n := h.mem_iff.1 (by simp)
      have hb : b ∈ a :: m := h.mem_iff.2 (by simp)
      rcases List.mem_cons.1 ha with q | q
      · exact q
      · rcases List.mem_cons.1 hb with q2 | q2
        · exact q2.symm
        · exact near_one (h1 b q2) (k1 a q)
    subst e
    rw [sorted_one (List.Perm.cons_inv h) h2 k2]
theorem isOrd_one {s : Int} {l m n : List Int} (h : IsOrd s l m) (k : IsOrd s l n) : m = n := sorted_one (h.1.trans k.1.symm) h.2 k.2
/-- a list with one more in it -/
def ins (s x : Int) : List Int → List Int
  | [] => [x]
  | y :: m => if near s x y then x :: y :: m else y :: ins s x m
def ord (s : Int) : List Int → List Int
  | [] => []
  | x :: l => ins s x (ord s l)
theorem ins_perm (s x : Int) : ∀ m, (ins s x m).Perm (x :: m)
  | [] => List.Perm.refl _
  | y :: m => by
    unfold ins
    split
    · exact List.Perm.refl _
    · exact ((ins_perm s x m).cons y).trans (List.Perm.swap x y m)
theorem ins_sorted (s x : Int) : ∀ {m}, Sorted s m → Sorted s (ins s x m)
  | [], _ => List.pairwise_singleton _ _
  | y :: m, h => by
    obtain ⟨h1, h2⟩ := List.pairwise_cons.1 h
    unfold ins
    split
    · rename_i hn
      exact List.pairwise_cons.2 ⟨fun z hz => (List.mem_cons.1 hz).elim (fun e => e ▸ hn) (fun q => near_trans hn (h1 z q)), h⟩
    · rename_i hn
      have hy : near s y x := (near_total s x y).resolve_left hn
      exact List.pairwise_cons.2 ⟨fun z hz => by
        rcases List.mem_cons.1 ((ins_perm s x m).mem_iff.1 hz) with q | q
        · rw [q]; exact hy
        · exact h1 z q, ins_sorted s x h2⟩
theorem ord_is (s : Int) : ∀ l, IsOrd s l (ord s l)
  | [] => ⟨List.Perm.refl _, List.Pairwise.nil⟩
  | x :: l => ⟨(ins_perm s x _).trans ((ord_is s l).1.cons x), ins_sorted s x (ord_is s l).2⟩
theorem ord_eq {s : Int} {l m : List Int} (h : IsOrd s l m) : m = ord s l := isOrd_one h (ord_is s l)
theorem ord_len (s : Int) (l : List Int) : (ord s l).length = l.length := (ord_is s l).1.length_eq
theorem ord_mem {s : Int} {l : List Int} {x : Int} : x ∈ ord s l ↔ x ∈ l := (ord_is s l).1.mem_iff
theorem ord_swap {s : Int} {l m : List Int} (h : l.Perm m) : ord s l = ord s m := (ord_eq ⟨(ord_is s l).1.trans h, (ord_is s l).2⟩)
/-! ### those that are in -/
def insFrom : Nat → List Int → List Int
  | _, [] => []
  | i, x :: l => if x = 1 then (i : Int) :: insFrom (i + 1) l else insFrom (i + 1) l
theorem insFrom_cons (i : Nat) (x : Int) (l : List Int) : insFrom i (x :: l) = if x = 1 then (i : Int) :: insFrom (i + 1) l else insFrom (i + 1) l := rfl
def insOf (l : List Int) : List Int := insFrom 0 l
theorem insFrom_snoc : ∀ (l : List Int) (i : Nat) (x : Int), insFrom i (l ++ [x]) = insFrom i l ++ (if x = 1 then [((i + l.length : Nat) : Int)] else [])
  | [], i, x => by simp [insFrom]
  | y :: l, i, x => by
    have := insFrom_snoc l (i + 1) x
    simp only [List.cons_append, insFrom, this, List.length_cons]
    rw [show i + 1 + l.length = i + (l.length + 1) by omega]
    split <;> simp
theorem insOf_take {l : List Int} {k : Nat} (h : k < l.length) : insOf (l.take (k + 1)) = insOf (l.take k) ++ (if l[k] = 1 then [(k : Int)] else []) := by
  unfold insOf
  rw [List.take_succ_eq_append_getElem h, insFrom_snoc, List.length_take, Nat.min_eq_left (by omega), Nat.zero_add]
theorem insFrom_len : ∀ (l : List Int) (i : Nat), (insFrom i l).length ≤ l.length
  | [], _ => Nat.le_refl _
  | x :: l, i => by
    have := insFrom_len l (i + 1)
    rw [insFrom_cons]
    split <;> simp only [List.length_cons] <;> omega
theorem insOf_len (l : List Int) : (insOf l).length ≤ l.length := insFrom_len l 0
theorem insFrom_mem : ∀ (l : List Int) (i : Nat) (z : Int), z ∈ insFrom i l ↔ ∃ j, ∃ h : j < l.length, l[j] = 1 ∧ z = ((i + j : Nat) : Int)
  | [], i, z => by simp [insFrom]
  | x :: l, i, z => by
    have ih := insFrom_mem l (i + 1) z
    have key : (∃ j, ∃ h : j < (x :: l).length, (x :: l)[j] = 1 ∧ z = ((i + j : Nat) : Int)) ↔ (x = 1 ∧ z = (i : Int)) ∨ z ∈ insFrom (i + 1) l := by
      rw [ih]
      constructor
      · rintro ⟨j, hj, h1, h2⟩
        rcases j with _ | j
        · exact .inl ⟨h1, by simpa using h2⟩
        · exact .inr ⟨j, by simpa using hj, by simpa using h1, by rw [h2]; congr 1; omega⟩
      · rintro (⟨h1, h2⟩ | ⟨j, hj, h1, h2⟩)
        · exact ⟨0, by simp, h1, by simpa using h2⟩
        · exact ⟨j + 1, by simpa using hj, by simpa using h1, by rw [h2]; congr 1; omega⟩
    rw [key, insFrom_cons]
    split
    · rename_i h; simp [h]
    · rename_i h; simp [h]
theorem insOf_mem (l : List Int) (z : Int) : z ∈ insOf l ↔ ∃ j, ∃ h : j < l.length, l[j] = 1 ∧ z = (j : Int) := by
  unfold insOf
  rw [insFrom_mem]
  simp
theorem insFrom_nodup : ∀ (l : List Int) (i : Nat), (insFrom i l).Nodup
  | [], _ => List.Pairwise.nil
  | x :: l, i => by
    have ih := insFrom_nodup l (i + 1)
    rw [insFrom_cons]
    split
    · refine List.nodup_cons.2 ⟨fun h => ?_, ih⟩
      obtain ⟨j, _, _, e⟩ := (insFrom_mem l (i + 1) i).1 h
      omega
    · exact ih
def tgtOk (l : List Int) (n : Int) : Bool := decide (0 ≤ n) && decide (n ≤ ((insOf l).length : Int))
def tgt (s : Int) (l : List Int) (n : Int) : List Int := if tgtOk l n = true then (ord s (insOf l)).take n.toNat else []
theorem tgt_len {s : Int} {l : List Int} {n : Int} (h : tgtOk l n = true) : (tgt s l n).length = n.toNat := by
  unfold tgt
  rw [if_pos h]
  unfold tgtOk at h
  simp only [Bool.and_eq_true, decide_eq_true_eq] at h
  rw [List.length_take, ord_len]
  omega
theorem tgt_le (s : Int) (l : List Int) (n : Int) : (tgt s l n).length ≤ l.length := by
  unfold tgt
  split
  · rw [List.length_take, ord_len]
    have := insOf_len l
    omega
  · simp
end Go.Proofs.YtcgjoidfmigpnaaDoor.Rk
