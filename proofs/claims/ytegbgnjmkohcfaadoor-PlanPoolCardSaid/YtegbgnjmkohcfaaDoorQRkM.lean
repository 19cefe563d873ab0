/- Who is nearest, plain: an order of drives for a stripe, the nearest ones of those that are in. No program is named here but the document's weight. Drives in the order of their nearness, as they stand in memory while they are put in order, plain. The document's order of drives, as a walk. The document's nearest ones of those that are in, as a walk. -/
import Derived.Test.YtegbgnjmkohcfaaDoorQHsA
import Derived.Test.YtegbgnjmkohcfaaDoorRecD
import Derived.Test.YtegbgnjmkohcfaaDoorZeros
import Derived.Test.YtegbgnjmkohcfaaDoorRows
import Derived.Deep.RegionHeld3
import Derived.Deep.QuietTactic
import Derived.BigQuiet
import Derived.RegionTactic
import Derived.BigRegion
import Derived.IntWalk
namespace Go.Proofs.YtegbgnjmkohcfaaDoor.Rk
open Go.Mem Sha Hash
/-- how near a drive is -/
def wt (s d : Int) : Nat := weight (u64 s) (u64 d)
/-- a comes before b, or is it -/
def near (s a b : Int) : Prop := wt s b < wt s a ∨ (wt s a = wt s b ∧ a ≤ b)
instance (s a b : Int) : Decidable (near s a b) := by unfold near; infer_instance
theorem near_refl (s a : Int) : near s a a := .inr ⟨rfl, by omega⟩
theorem near_total (s a b : Int) : near s a b ∨ near s b a := by unfold near; omega
theorem near_trans {s a b c : Int} (h : near s a b) (k : near s b c) : near s a c := by unfold near at *; omega
theorem near_one {s a b : Int} (h : near s a b) (k : near s b a) : a = b := by unfold near at *; omega
def Sorted (s : Int) (m : List Int) : Prop := m.Pairwise (near s)
/-- m is l, the nearest first -/
def IsOrd (s : Int) (l m : List Int) : Prop := m.Perm l ∧ Sorted s m
theorem sorted_one {s : Int} : ∀ {m n : List Int}, m.Perm n → Sorted s m → Sorted s n → m = n
  | [], n, h, _, _ => (List.nil_perm.1 h).symm
  | a :: m, [], h, _, _ => by have := h.length_eq; simp at this
  | a :: m, b :: n, h, hm, hn => by
    obtain ⟨h1, h2⟩ := List.pairwise_cons.1 hm
    obtain ⟨k1, k2⟩ := List.pairwise_cons.1 hn
    have e : a = b := by
      have ha : a ∈ b :: n := h.mem_iff.1 (by simp)
      have hb : b ∈ a :: m := h.mem_iff.2 (by simp)
      rcases List.mem_cons.1 ha with q | q
      · exact q
      · rcases List.mem_cons.1 hb with q2 | q2
        · exact q2.symm
        · exact near_one (h1 b q2) (k1 a q)
    subst e
    rw [sorted_one (List.Perm.cons_inv h) h2 k2]
theorem isOrd_one {s : Int} {l m n : List Int} (h : IsOrd s l m) (k : IsOrd s l n) : m = n := sorted_one (h.1.trans k.1.symm) h.2 k.2
/-- a list with one more in it -/
def ins (s x : Int) : List Int → List Int
  | [] => [x]
  | y :: m => if near s x y then x :: y :: m else y :: ins s x m
def ord (s : Int) : List Int → List Int
  | [] => []
  | x :: l => ins s x (ord s l)
theorem ins_perm (s x : Int) : ∀ m, (ins s x m).Perm (x :: m)
  | [] => List.Perm.refl _
  | y :: m => by
    unfold ins
    split
    · exact List.Perm.refl _
    · exact ((ins_perm s x m).cons y).trans (List.Perm.swap x y m)
theorem ins_sorted (s x : Int) : ∀ {m}, Sorted s m → Sorted s (ins s x m)
  | [], _ => List.pairwise_singleton _ _
  | y :: m, h => by
    obtain ⟨h1, h2⟩ := List.pairwise_cons.1 h
    unfold ins
    split
    · rename_i hn
      exact List.pairwise_cons.2 ⟨fun z hz => (List.mem_cons.1 hz).elim (fun e => e ▸ hn) (fun q => near_trans hn (h1 z q)), h⟩
    · rename_i hn
      have hy : near s y x := (near_total s x y).resolve_left hn
      exact List.pairwise_cons.2 ⟨fun z hz => by
        rcases List.mem_cons.1 ((ins_perm s x m).mem_iff.1 hz) with q | q
        · rw [q]; exact hy
        · exact h1 z q, ins_sorted s x h2⟩
theorem ord_is (s : Int) : ∀ l, IsOrd s l (ord s l)
  | [] => ⟨List.Perm.refl _, List.Pairwise.nil⟩
  | x :: l => ⟨(ins_perm s x _).trans ((ord_is s l).1.cons x), ins_sorted s x (ord_is s l).2⟩
theorem ord_eq {s : Int} {l m : List Int} (h : IsOrd s l m) : m = ord s l := isOrd_one h (ord_is s l)
theorem ord_len (s : Int) (l : List Int) : (ord s l).length = l.length := (ord_is s l).1.length_eq
theorem ord_mem {s : Int} {l : List Int} {x : Int} : x ∈ ord s l ↔ x ∈ l := (ord_is s l).1.mem_iff
theorem ord_swap {s : Int} {l m : List Int} (h : l.Perm m) : ord s l = ord s m := (ord_eq ⟨(ord_is s l).1.trans h, (ord_is s l).2⟩)
/-! ### those that are in -/
def insFrom : Nat → List Int → List Int
  | _, [] => []
  | i, x :: l => if x = 1 then (i : Int) :: insFrom (i + 1) l else insFrom (i + 1) l
theorem insFrom_cons (i : Nat) (x : Int) (l : List Int) : insFrom i (x :: l) = if x = 1 then (i : Int) :: insFrom (i + 1) l else insFrom (i + 1) l := rfl
def insOf (l : List Int) : List Int := insFrom 0 l
theorem insFrom_snoc : ∀ (l : List Int) (i : Nat) (x : Int), insFrom i (l ++ [x]) = insFrom i l ++ (if x = 1 then [((i + l.length : Nat) : Int)] else [])
  | [], i, x => by simp [insFrom]
  | y :: l, i, x => by
    have := insFrom_snoc l (i + 1) x
    simp only [List.cons_append, insFrom, this, List.length_cons]
    rw [show i + 1 + l.length = i + (l.length + 1) by omega]
    split <;> simp
theorem insOf_take {l : List Int} {k : Nat} (h : k < l.length) : insOf (l.take (k + 1)) = insOf (l.take k) ++ (if l[k] = 1 then [(k : Int)] else []) := by
  unfold insOf
  rw [List.take_succ_eq_append_getElem h, insFrom_snoc, List.length_take, Nat.min_eq_left (by omega), Nat.zero_add]
theorem insFrom_len : ∀ (l : List Int) (i : Nat), (insFrom i l).length ≤ l.length
  | [], _ => Nat.le_refl _
  | x :: l, i => by
    have := insFrom_len l (i + 1)
    rw [insFrom_cons]
    split <;> simp only [List.length_cons] <;> omega
theorem insOf_len (l : List Int) : (insOf l).length ≤ l.length := insFrom_len l 0
theorem insFrom_mem : ∀ (l : List Int) (i : Nat) (z : Int), z ∈ insFrom i l ↔ ∃ j, ∃ h : j < l.length, l[j] = 1 ∧ z = ((i + j : Nat) : Int)
  | [], i, z => by simp [insFrom]
  | x :: l, i, z => by
    have ih := insFrom_mem l (i + 1) z
    have key : (∃ j, ∃ h : j < (x :: l).length, (x :: l)[j] = 1 ∧ z = ((i + j : Nat) : Int)) ↔ (x = 1 ∧ z = (i : Int)) ∨ z ∈ insFrom (i + 1) l := by
      rw [ih]
      constructor
      · rintro ⟨j, hj, h1, h2⟩
        rcases j with _ | j
        · exact .inl ⟨h1, by simpa using h2⟩
        · exact .inr ⟨j, by simpa using hj, by simpa using h1, by rw [h2]; congr 1; omega⟩
      · rintro (⟨h1, h2⟩ | ⟨j, hj, h1, h2⟩)
        · exact ⟨0, by simp, h1, by simpa using h2⟩
        · exact ⟨j + 1, by simpa using hj, by simpa using h1, by rw [h2]; congr 1; omega⟩
    rw [key, insFrom_cons]
    split
    · rename_i h; simp [h]
    · rename_i h; simp [h]
theorem insOf_mem (l : List Int) (z : Int) : z ∈ insOf l ↔ ∃ j, ∃ h : j < l.length, l[j] = 1 ∧ z = (j : Int) := by
  unfold insOf
  rw [insFrom_mem]
  simp
theorem insFrom_nodup : ∀ (l : List Int) (i : Nat), (insFrom i l).Nodup
  | [], _ => List.Pairwise.nil
  | x :: l, i => by
    have ih := insFrom_nodup l (i + 1)
    rw [insFrom_cons]
    split
    · refine List.nodup_cons.2 ⟨fun h => ?_, ih⟩
      obtain ⟨j, _, _, e⟩ := (insFrom_mem l (i + 1) i).1 h
      omega
    · exact ih
def tgtOk (l : List Int) (n : Int) : Bool := decide (0 ≤ n) && decide (n ≤ ((insOf l).length : Int))
def tgt (s : Int) (l : List Int) (n : Int) : List Int := if tgtOk l n = true then (ord s (insOf l)).take n.toNat else []
theorem tgt_len {s : Int} {l : List Int} {n : Int} (h : tgtOk l n = true) : (tgt s l n).length = n.toNat := by
  unfold tgt
  rw [if_pos h]
  unfold tgtOk at h
  simp only [Bool.and_eq_true, decide_eq_true_eq] at h
  rw [List.length_take, ord_len]
  omega
theorem tgt_le (s : Int) (l : List Int) (n : Int) : (tgt s l n).length ≤ l.length := by
  unfold tgt
  split
  · rw [List.length_take, ord_len]
    have := insOf_len l
    omega
  · simp
end Go.Proofs.YtegbgnjmkohcfaaDoor.Rk
namespace Go.Proofs.YtegbgnjmkohcfaaDoor.Rk
set_option linter.unusedVariables false
open Go.ChangeShapes Go.WideShapes Go.ChangeAt Go.RowKit
open Go.Mem Sha Hash
/-- ints that may be written, from the head of block b on -/
structure RowZ (w : World) (b : Nat) (m : List Int) : Prop where
  cell : ∀ i, i < m.length → w.cell? ⟨b, i, none⟩ = some (.int .i64 (m.getD i 0))
  free : ∀ i, i < m.length → w.frozen? ⟨b, i, none⟩ = false
theorem RowZ.lt {w : World} {b : Nat} {m : List Int} (h : RowZ w b m) (hn : 0 < m.length) : b < w.heap.size := World.block_lt_of_cell? _ _ (h.cell 0 hn)
theorem RowZ.keep {w w' : World} {b : Nat} {m : List Int} (h : RowZ w b m) (e : w'.heap[b]? = w.heap[b]?) : RowZ w' b m :=
  ⟨fun i hi => (World.cell?_of_block (w := w) (a := ⟨b, i, none⟩) e).trans (h.cell i hi), fun i hi => (World.frozen?_of_block (w := w) (a := ⟨b, i, none⟩) e).trans (h.free i hi)⟩
theorem RowZ.below {w w' : World} {b : Nat} {m : List Int} (h : RowZ w b m) (hn : 0 < m.length) (hb : Below w.heap.size w w') : RowZ w' b m := h.keep (hb.block b (h.lt hn))
theorem RowZ.set {w : World} {b : Nat} {m : List Int} (h : RowZ w b m) (k : Nat) (x : Int) : RowZ (w.setCell ⟨b, k, none⟩ (.int .i64 x)) b (m.set k x) := by
  refine ⟨fun i hi => ?_, fun i hi => ?_⟩
  · have hi' : i < m.length := by simpa using hi
    by_cases e : i = k
    · subst e
      rw [show (m.set i x).getD i 0 = x by simp [List.getD, hi']]
      exact World.cell?_setCell_same _ _ _ (h.cell i hi')
    · rw [World.cell?_setCell_other _ _ _ _ (fun q => by injection q; omega), show (m.set k x).getD i 0 = m.getD i 0 by simp [List.getD, Ne.symm e]]
      exact h.cell i hi'
  · rw [World.frozen?_setCell]
    exact h.free i (by simpa using hi)
theorem intR_world : ∀ (w1 w2 : World) (c : Value) (x : Int), IntR w1 c x → IntR w2 c x := fun _ _ _ _ h => h
theorem intR_one : ∀ (w : World) (c : Value) (x : Int), IntR w c x → c.oneCell' = true := fun _ _ _ h => by rw [h.1]; rfl
theorem built_rowZ {w : World} {base t : Nat} {v : Value} {L : List Int} (h : Built IntR w base t v L) (h0 : 0 < L.length) : ∃ g C, v = .slice (some ⟨g, 0, none⟩) L.length C ∧ L.length ≤ C ∧ C ≤ 9223372036854775807 ∧ base ≤ g ∧ RowZ w g L := by
  obtain ⟨xs, h1, h2⟩ := h
  have hs := Built.slice ⟨xs, h1, h2⟩
  rcases h1.2 with ⟨_, e⟩ | ⟨g, cap, cur, e, hb, hg, h3, h4, _, _⟩
  · omega
  · subst e
    refine ⟨g, cap, rfl, h3, by unfold maxLen at h4; exact h4, hb, fun i hi => ?_, fun i hi => by simp [World.frozen?, hg]⟩
    have hI : Ints w (.slice (some ⟨g, 0, none⟩) L.length cap) L := hs
    have := (hI.here hi).1
    rw [Nat.zero_add] at this
    rw [this]
    simp [List.getD, hi]
theorem RowZ.ints {w : World} {b C : Nat} {m : List Int} (h : RowZ w b m) (hi : ∀ x ∈ m, I64 x) (h1 : m.length ≤ C) (h2 : C ≤ 9223372036854775807) : Ints w (.slice (some ⟨b, 0, none⟩) m.length C) m :=
  ⟨some ⟨b, 0, none⟩, m.length, C, rfl, rfl, h1, by unfold maxLen; exact h2, (fun e => by cases e), fun i hj => ⟨b, 0, .int .i64 m[i], rfl, by rw [Nat.zero_add, h.cell i hj]; simp [List.getD, hj], rfl, hi _ (List.getElem_mem hj)⟩⟩
theorem ints_i64 {w : World} {v : Value} {l : List Int} (h : Ints w v l) : ∀ x ∈ l, I64 x := by
  intro x hx
  obtain ⟨i, hi, rfl⟩ := List.getElem_of_mem hx
  obtain ⟨A, C, rfl, _⟩ := h.shape
  obtain ⟨_, _, _, _, q⟩ := h.at hi
  exact q
/-- the first k are in order -/
def OutMid (s : Int) (l : List Int) (k : Nat) (m : List Int) : Prop := m.length = l.length ∧ IsOrd s (l.take k) (m.take k) ∧ m.drop k = l.drop k
/-- .. and the next one is on its way, at j -/
def InMid (s : Int) (l : List Int) (i j : Nat) (m : List Int) : Prop :=
  ∃ p x, p.length = i ∧ IsOrd s (l.take i) p ∧ l.drop i = x :: l.drop (i + 1) ∧ j ≤ i ∧ m = p.take j ++ x :: (p.drop j ++ l.drop (i + 1)) ∧ ∀ y ∈ p.drop j, near s x y
section
variable {s : Int} {l m : List Int} {i j k : Nat}
theorem OutMid.start : OutMid s l 0 l := ⟨rfl, by rw [List.take_zero]; exact ⟨List.Perm.refl _, List.Pairwise.nil⟩, rfl⟩
theorem OutMid.done (h : OutMid s l k m) (hk : l.length ≤ k) : m = ord s l := by
  obtain ⟨h1, h2, _⟩ := h
  rw [List.take_of_length_le hk, List.take_of_length_le (by omega)] at h2
  exact ord_eq h2
theorem InMid.start (h : OutMid s l i m) (hi : i < l.length) : InMid s l i i m := by
  obtain ⟨h1, h2, h3⟩ := h
  have hd : l.drop i = l[i] :: l.drop (i + 1) := List.drop_eq_getElem_cons hi
  refine ⟨m.take i, l[i], by rw [List.length_take]; omega, h2, hd, Nat.le_refl _, ?_, ?_⟩
  · rw [List.take_take, Nat.min_self, List.drop_of_length_le (by rw [List.length_take]; omega), List.nil_append, ← hd, ← h3, List.take_append_drop]
  · intro y hy
    rw [List.drop_of_length_le (by rw [List.length_take]; omega)] at hy
    cases hy
theorem InMid.len (h : InMid s l i j m) (hi : i < l.length) : m.length = l.length := by
  obtain ⟨p, x, h1, _, _, h4, h5, _⟩ := h
  rw [h5]
  simp only [List.length_append, List.length_cons, List.length_take, List.length_drop]
  omega
/-- it is where it should be -/
theorem InMid.rest (h : InMid s l i j m) (hi : i < l.length) (he : j = 0 ∨ near s (m.getD (j - 1) 0) (m.getD j 0)) : OutMid s l (i + 1) m := by
  have hlen := h.len hi
  obtain ⟨p, x, h1, ⟨h2, h2'⟩, h3, h4, h5, h6⟩ := h
  have hl : (p.take j).length = j := by rw [List.length_take]; omega
  have htk : m.take (i + 1) = p.take j ++ x :: p.drop j := by
    rw [h5, ← List.cons_append, ← List.append_assoc, List.take_append_of_le_length (by simp; omega), List.take_of_length_le (by simp; omega)]
  have hdr : m.drop (i + 1) = l.drop (i + 1) := by
    rw [h5, ← List.cons_append, ← List.append_assoc, List.drop_append_of_le_length (by simp; omega), List.drop_of_length_le (by simp; omega), List.nil_append]
  have hlt : l.take (i + 1) = l.take i ++ [x] := by
    have hx : l[i] = x := by
      have := List.drop_eq_getElem_cons hi
      rw [h3] at this
      exact (List.cons.inj this).1.symm
    rw [List.take_succ_eq_append_getElem hi, hx]
  refine ⟨hlen, ⟨?_, ?_⟩, hdr⟩
  · rw [htk, hlt]
    refine (List.perm_middle).trans ?_
    rw [List.take_append_drop]
    exact (h2.cons x).trans (List.perm_append_singleton x _).symm
  · rw [htk]
    have hsp : Sorted s (p.take j ++ p.drop j) := by rw [List.take_append_drop]; exact h2'
    obtain ⟨k1, k2, k3⟩ := List.pairwise_append.1 hsp
    refine List.pairwise_append.2 ⟨k1, List.pairwise_cons.2 ⟨h6, k2⟩, fun a ha b hb => ?_⟩
    rcases List.mem_cons.1 hb with q | q
    · subst q
      rcases he with he | he
      · subst he; simp at ha
      · rcases Nat.eq_zero_or_pos j with h0 | h0
        · subst h0; simp at ha
        · have e1 : m.getD j 0 = b := by
            rw [h5, List.getD_eq_getElem?_getD, List.getElem?_append_right (by omega), hl]
            simp
          have e2 : m.getD (j - 1) 0 = p[j - 1]'(by omega) := by
            rw [h5, List.getD_eq_getElem?_getD, List.getElem?_append_left (by omega), List.getElem?_take_of_lt (by omega)]
            simp [show j - 1 < p.length by omega]
          rw [e1, e2] at he
          refine near_trans ?_ he
          obtain ⟨t, ht, rfl⟩ := List.getElem_of_mem ha
          have ht' : t < j := by omega
          rw [List.getElem_take]
          by_cases e : t = j - 1
          · subst e; exact near_refl _ _
          · exact List.pairwise_iff_getElem.1 h2' t (j - 1) (by omega) (by omega) (by omega)
    · exact k3 a ha b q
/-- it goes on -/
theorem InMid.step (h : InMid s l i (j + 1) m) (hi : i < l.length) (hn : ¬ near s (m.getD j 0) (m.getD (j + 1) 0)) : InMid s l i j ((m.set j (m.getD (j + 1) 0)).set (j + 1) (m.getD j 0)) := by
  have hlen := h.len hi
  obtain ⟨p, x, h1, h2, h3, h4, h5, h6⟩ := h
  have hl : (p.take (j + 1)).length = j + 1 := by rw [List.length_take]; omega
  have hjp : j < p.length := by omega
  have e1 : m.getD (j + 1) 0 = x := by
    rw [h5, List.getD_eq_getElem?_getD, List.getElem?_append_right (by omega), hl]
    simp
  have e2 : m.getD j 0 = p[j] := by
    rw [h5, List.getD_eq_getElem?_getD, List.getElem?_append_left (by omega), List.getElem?_take_of_lt (by omega)]
    simp [hjp]
  have hd : p.drop j = p[j] :: p.drop (j + 1) := List.drop_eq_getElem_cons hjp
  rw [e1, e2] at hn ⊢
  have hx : near s x p[j] := (near_total s p[j] x).resolve_left hn
  refine ⟨p, x, h1, h2, h3, by omega, ?_, fun y hy => ?_⟩
  · have htj : p.take (j + 1) = p.take j ++ [p[j]] := List.take_succ_eq_append_getElem hjp
    have hlj : (p.take j).length = j := by rw [List.length_take]; omega
    rw [h5, htj, hd, List.append_assoc]
    rw [List.set_append_right _ _ (by omega), hlj, Nat.sub_self]
    rw [List.set_append_right _ _ (by omega), hlj]
    simp
    rw [hd]
    rfl
  · rw [hd] at hy
    rcases List.mem_cons.1 hy with q | q
    · rw [q]; exact hx
    · exact h6 y q
end
end Go.Proofs.YtegbgnjmkohcfaaDoor.Rk
namespace Go.Proofs.YtegbgnjmkohcfaaDoor.Rk
set_option linter.unusedVariables false
open Go.ChangeShapes Go.WideShapes Go.ChangeAt Go.RowKit
open Go.Mem Sha Hash
theorem infoInt : (Tryd.prog.info? 3).map (fun i => (i.zero, i.size, i.bytes)) = some (some (.int .i64 0), 1, 8) := by kernel_rfl
theorem below_nxt {B : Nat} {w w1 w2 : World} (h : Below B w w1) (k : Below w1.heap.size w1 w2) (hB : B ≤ w.heap.size) : Below B w w2 := h.trans (k.mono (Nat.le_trans hB h.size))
/-- the loop within: one drive on its way -/
def InAt (s : Int) (l : List Int) (i j : Nat) (W : World) (g : Nat) (wi : World) : Prop := ∃ m, InMid s l i j m ∧ RowZ wi g m ∧ Below W.heap.size W wi
def OutAt (s : Int) (l : List Int) (k : Nat) (W : World) (g : Nat) (wr : World) : Prop := ∃ m, OutMid s l k m ∧ RowZ wr g m ∧ Below W.heap.size W wr
def Ordered (W : World) (s : Int) (l : List Int) (e : Ending) (w' : World) : Prop := ∃ u, e = .returned u ∧ Ints w' u (ord s l) ∧ Below W.heap.size W w'
/-- .. in memory of its own -/
def OrderedN (W : World) (s : Int) (l : List Int) (e : Ending) (w' : World) : Prop := ∃ u, e = .returned u ∧ Ints w' u (ord s l) ∧ Below W.heap.size W w' ∧ ∀ b, u.ownBlock = some b → W.heap.size ≤ b
theorem built_new {w : World} {base t : Nat} {v : Value} {L : List Int} (h : Built IntR w base t v L) : ∀ b, v.ownBlock = some b → base ≤ b := by
  obtain ⟨xs, h1, h2⟩ := h
  intro b q
  rcases h1.2 with ⟨e, _⟩ | ⟨g, cap, cur, e, hb, _⟩
  · subst e; cases q
  · subst e; cases q; exact hb
theorem in_swap {s : Int} {l m : List Int} {k j1 J g : Nat} {a b : Int} {W wx : World} (h : InMid s l k j1 ((m.set j1 b).set J a)) (hr : RowZ wx g m) (hb : Below W.heap.size W wx) (hg : W.heap.size ≤ g) (hne : ¬ j1 = J) :
    (∀ n, InAt s l k j1 W g (((wx.setCell ⟨g, j1, none⟩ (.int .i64 b)).setCell ⟨g, J, none⟩ (.int .i64 a)).drewN n)) ∧ ∀ n, InAt s l k j1 W g (((wx.setCell ⟨g, J, none⟩ (.int .i64 a)).setCell ⟨g, j1, none⟩ (.int .i64 b)).drewN n) := by
  have hc : (m.set J a).set j1 b = (m.set j1 b).set J a := List.set_comm _ _ (fun e => hne e.symm)
  refine ⟨fun n => ⟨_, h, ((hr.set j1 b).set J a).keep rfl, ((hb.setCell hg _).setCell hg _).trans (below_drewN _ _ n)⟩, fun n => ⟨_, h, ?_, ((hb.setCell hg _).setCell hg _).trans (below_drewN _ _ n)⟩⟩
  rw [← hc]
  exact ((hr.set J a).set j1 b).keep rfl
set_option maxRecDepth 100000 in
set_option maxHeartbeats 4000000 in
theorem refOrder (W : World) (s : Int) (v : Value) (l : List Int) (hI : Ints W v l) (hs : I64 s) (hl : l.length ≤ 100) :
    Calls Tryd.prog 17 #[.int .i64 s, v] W (OrderedN W s l) := by
  have HWT := Lib.hid (fun (x : Int) (w : World) => (show Calls Tryd.prog 25 #[.int .i64 s, .int .i64 x] w fun e w' => e = .returned (.int .u64 (wt s x : Nat)) ∧ Below w.heap.size w w' from refWeightC s x w))
  obtain ⟨A, C, rfl, g1, g2, -⟩ := hI.shape
  have hal : Below W.heap.size W (W.alloc (.cells #[] 3)) := (Below.refl _ _).alloc (Nat.le_refl _) _
  have h64 := ints_i64 hI
  obtain ⟨v1, w1, hrun, hbu, _, hb1⟩ := run_append_list (P := Tryd.prog) intR_world intR_one (W.alloc (.cells #[] 3)) W.heap.size 22 22 3 (.int .i64 0) 8 Tryd.underlying22 infoInt rfl _ [] (built_none W (Nat.le_refl _)) _ _ _ l (hI.below hal) (by simp; omega) (by simp)
  rw [List.nil_append] at hbu
  have hbw : Below W.heap.size W w1 := hal.trans hb1
  have HBW := Lib.hid hbw
  have H64 := Lib.hid h64
  have hgo : ∀ (ops : Array Oper) (rest : List Oper) (o : Oper) (a : Act) (Q : Exit → Act → World → Prop), True := fun _ _ _ _ _ => trivial
  rcases Nat.eq_zero_or_pos l.length with h0 | h0
  · have e0 : l = [] := List.length_eq_zero_iff.1 h0
    subst e0
    have HI1 := Lib.hid (show Ints w1 v1 [] from hbu.slice)
    have HNW := Lib.hid (built_new hbu)
    obtain ⟨A1, C1, e1, -, -⟩ := hbu.len
    subst e1
    clear hI h64 hbu hbw hgo hb1 hal h0
    go_enter Tryd.func17, Tryd.ntmps17
    go_wp2_with (refine Lib.wpList_append_run _ rfl (.tmp 10) (.tmp 11) 22 22 rfl _ _ rfl rfl _ _ hrun ?_; clear hrun)
    refine wp_loop_rounds 1 ?_
    rw [rounds_succ]
    go_wp2
    go_ret
    exact ⟨_, rfl, HI1.out, HBW.out, HNW.out⟩
  · obtain ⟨g, C1, rfl, k1, k2, hg, hrow⟩ := built_rowZ hbu h0
    have HST := Lib.hid (show OutAt s l 0 W g w1 from ⟨l, OutMid.start, hrow, hbw⟩)
    obtain ⟨L, hL⟩ : ∃ L, l.length = L := ⟨_, rfl⟩
    have HL := Lib.hid hL
    rw [hL] at h0 hl g1 k1 hrun ⊢
    clear hI h64 hbu hbw hgo hb1 hal hrow hL
    go_enter Tryd.func17, Tryd.ntmps17
    go_wp2_with (refine Lib.wpList_append_run _ rfl (.tmp 10) (.tmp 11) 22 22 rfl _ _ rfl rfl _ _ hrun ?_; clear hrun)
    go_loopw [6] (fun c wr => ∃ k : Nat, k ≤ L ∧ c = .int .i64 k ∧ OutAt s l k W g wr) (fun c _ => L - (intOf c).toNat)
    case atStart => exact ⟨0, Nat.zero_le _, rfl, HST.out⟩
    case round =>
      obtain ⟨k, hk, rfl, hout⟩ := hrel
      by_cases hlt : k < L
      · obtain ⟨m, hm, hro, hbl⟩ := hout
        have HIN := Lib.hid (show InAt s l k k W g wr from ⟨m, InMid.start hm (by rw [HL.out]; exact hlt), hro, hbl⟩)
        have q1 : (k : Int) < (L : Int) := by omega
        clear hm hro hbl
        obtain ⟨wo, hwo⟩ : ∃ wo : World, wo = wr := ⟨_, rfl⟩
        subst hwo
        go_wp2
        go_loopw [7] (fun c wr => ∃ j : Nat, j ≤ k ∧ c = .int .i64 j ∧ InAt s l k j W g wr) (fun c _ => (intOf c).toNat)
        case atStart => exact ⟨k, Nat.le_refl _, rfl, HIN.out⟩
        case round =>
          obtain ⟨J, hj, rfl, m, hm, hro, hbl⟩ := hrel
          have hkl : k < l.length := by rw [HL.out]; exact hlt
          rcases Nat.eq_zero_or_pos J with hJ | hJ
          · subst hJ
            have HOUT := Lib.hid (show OutAt s l (k + 1) W g wr from ⟨m, hm.rest hkl (.inl rfl), hro, hbl⟩)
            clear hm hro hbl
            go_wp2
            go_roundw
            case rel => exact ⟨k + 1, by omega, by go_num, HOUT.out⟩
            case measure => simp [intOf]; omega
          · obtain ⟨j1, hJe⟩ : ∃ j1, J = j1 + 1 := ⟨J - 1, by omega⟩
            have hml : m.length = L := by rw [hm.len hkl]; exact HL.out
            have hmp : 0 < m.length := by omega
            obtain ⟨a, ha⟩ : ∃ a, m.getD j1 0 = a := ⟨_, rfl⟩
            obtain ⟨b, hb⟩ : ∃ b, m.getD J 0 = b := ⟨_, rfl⟩
            have ca := hro.cell j1 (by omega)
            have cb := hro.cell J (by omega)
            rw [ha] at ca
            rw [hb] at cb
            have hd0 : Below wr.heap.size wr wr.drew := below_drewN _ wr 1
            have ca0 := below_cell hd0 _ _ ca
            have cb0 := below_cell hd0 _ _ cb
            have hwj : IntKind.i64.wrap ((J : Int) - 1) = (j1 : Int) := by rw [IntWalk.i64_in _ (by omega)]; omega
            have q2 : (J : Int) < (L : Int) := by omega
            have q3 : (j1 : Int) < (L : Int) := by omega
            have q4 : j1 < L := by omega
            have q6 : (0 : Int) ≤ (j1 : Int) := by omega
            have q7 : (0 : Int) ≤ (J : Int) := by omega
            have q5 : J < L := by omega
            obtain ⟨wA, hwA⟩ : ∃ wA, wt s a = wA := ⟨_, rfl⟩
            obtain ⟨wB, hwB⟩ : ∃ wB, wt s b = wB := ⟨_, rfl⟩
            have HWA := Lib.hid (fun w => by have := HWT.out a w; rw [hwA] at this; exact this)
            have HWB := Lib.hid (fun w => by have := HWT.out b w; rw [hwB] at this; exact this)
            have HNEAR := Lib.hid (show near s a b ↔ wB < wA ∨ (wA = wB ∧ a ≤ b) by rw [← hwA, ← hwB]; exact Iff.rfl)
            have HRO := Lib.hid hro
            have HBL := Lib.hid hbl
            have HGO := Lib.hid (show near s a b → ∀ w', Below wr.heap.size wr w' → OutAt s l (k + 1) W g w' from fun hn w' hw => ⟨m, hm.rest hkl (.inr (by rw [show J - 1 = j1 by omega, ha, hb]; exact hn)), hro.below hmp hw, hbl.trans (hw.mono hbl.size)⟩)
            have HSW := Lib.hid (show ¬ near s a b → InMid s l k j1 ((m.set j1 b).set J a) from fun hn => by
              subst hJe
              rw [← ha, ← hb] at hn ⊢
              exact hm.step hkl hn)
            have HMP := Lib.hid hmp
            have HJE := Lib.hid hJe
            have i1 : J ≤ j1 + 1 := by omega
            have i2 : j1 + 1 ≤ J := by omega
            have HML := Lib.hid hml
            have HG := Lib.hid hg
            clear hm hro hbl ha hb hwA hwB ca cb hmp hJe hml q4 q5
            rcases (show wB < wA ∨ (wA = wB ∧ a ≤ b) ∨ (wA = wB ∧ b < a) ∨ wA < wB by omega) with d1 | ⟨d1, d2⟩ | ⟨d1, d2⟩ | d1
            · have e1 : decide (wB < wA) = true := by simpa using d1
              have HGO := Lib.hid (HGO.out (HNEAR.out.2 (.inl d1)))
              clear d1
              go_wp2
              go_region_held3 (fun w' => Below wr.heap.size wr w' ∧ w'.cell? ⟨g, j1, none⟩ = some (.int .i64 a) ∧ w'.cell? ⟨g, J, none⟩ = some (.int .i64 b))
                (first | exact ⟨hd2, ca2, cb2⟩ | exact ⟨hd1, ca1, cb1⟩ | exact ⟨hd0, ca0, cb0⟩)
                (first
                  | (go_at_call 25; (with_reducible refine (HWA.out _).mono ?_); rintro _ wa1 ⟨rfl, hx1⟩; first | (have hd2 := below_nxt hd1 hx1 (Nat.le_refl _); have ca2 := below_cell hx1 _ _ ca1; have cb2 := below_cell hx1 _ _ cb1; clear hx1) | (have hd1 := below_nxt hd0 hx1 (Nat.le_refl _); have ca1 := below_cell hx1 _ _ ca0; have cb1 := below_cell hx1 _ _ cb0; clear hx1))
                  | (go_at_call 25; (with_reducible refine (HWB.out _).mono ?_); rintro _ wa1 ⟨rfl, hx1⟩; first | (have hd2 := below_nxt hd1 hx1 (Nat.le_refl _); have ca2 := below_cell hx1 _ _ ca1; have cb2 := below_cell hx1 _ _ cb1; clear hx1) | (have hd1 := below_nxt hd0 hx1 (Nat.le_refl _); have ca1 := below_cell hx1 _ _ ca0; have cb1 := below_cell hx1 _ _ cb0; clear hx1)))
              all_goals
                have HBE := Lib.hid hd2
                clear hd0 hd1 hd2 ca0 ca1 cb0 cb1
                go_wp2
                go_quiet (fail)
                have HOUT := Lib.hid (fun n => HGO.out _ (below_nxt HBE.out (below_drewN _ _ n) (Nat.le_refl _)))
                clear ca2 cb2
                go_wp2
                go_roundw
                case rel => exact ⟨k + 1, by omega, by go_num, HOUT.out _⟩
                case measure => simp [intOf]; omega
            · subst d1
              have e1 : decide (wA < wA) = false := by simp
              have e2 : ((wA : Int) == (wA : Int)) = true := by simp
              have e3 : decide (a ≤ b) = true := by simpa using d2
              have HGO := Lib.hid (HGO.out (HNEAR.out.2 (.inr ⟨rfl, d2⟩)))
              go_wp2
              go_region_held3 (fun w' => Below wr.heap.size wr w' ∧ w'.cell? ⟨g, j1, none⟩ = some (.int .i64 a) ∧ w'.cell? ⟨g, J, none⟩ = some (.int .i64 b))
                (first | exact ⟨hd2, ca2, cb2⟩ | exact ⟨hd1, ca1, cb1⟩ | exact ⟨hd0, ca0, cb0⟩)
                (first
                  | (go_at_call 25; (with_reducible refine (HWA.out _).mono ?_); rintro _ wa1 ⟨rfl, hx1⟩; first | (have hd2 := below_nxt hd1 hx1 (Nat.le_refl _); have ca2 := below_cell hx1 _ _ ca1; have cb2 := below_cell hx1 _ _ cb1; clear hx1) | (have hd1 := below_nxt hd0 hx1 (Nat.le_refl _); have ca1 := below_cell hx1 _ _ ca0; have cb1 := below_cell hx1 _ _ cb0; clear hx1))
                  | (go_at_call 25; (with_reducible refine (HWB.out _).mono ?_); rintro _ wa1 ⟨rfl, hx1⟩; first | (have hd2 := below_nxt hd1 hx1 (Nat.le_refl _); have ca2 := below_cell hx1 _ _ ca1; have cb2 := below_cell hx1 _ _ cb1; clear hx1) | (have hd1 := below_nxt hd0 hx1 (Nat.le_refl _); have ca1 := below_cell hx1 _ _ ca0; have cb1 := below_cell hx1 _ _ cb0; clear hx1)))
              all_goals
                have HBE := Lib.hid hd2
                clear hd0 hd1 hd2 ca0 ca1 cb0 cb1
                go_wp2
                go_quiet (fail)
                have HOUT := Lib.hid (fun n => HGO.out _ (below_nxt HBE.out (below_drewN _ _ n) (Nat.le_refl _)))
                clear ca2 cb2
                go_wp2
                go_roundw
                case rel => exact ⟨k + 1, by omega, by go_num, HOUT.out _⟩
                case measure => simp [intOf]; omega
            · subst d1
              have e1 : decide (wA < wA) = false := by simp
              have e2 : ((wA : Int) == (wA : Int)) = true := by simp
              have e3 : decide (a ≤ b) = false := by simpa using d2
              have HSW := Lib.hid (HSW.out (fun h => by have := HNEAR.out.1 h; omega))
              go_wp2
              go_region_held3 (fun w' => Below wr.heap.size wr w' ∧ w'.cell? ⟨g, j1, none⟩ = some (.int .i64 a) ∧ w'.cell? ⟨g, J, none⟩ = some (.int .i64 b))
                (first | exact ⟨hd2, ca2, cb2⟩ | exact ⟨hd1, ca1, cb1⟩ | exact ⟨hd0, ca0, cb0⟩)
                (first
                  | (go_at_call 25; (with_reducible refine (HWA.out _).mono ?_); rintro _ wa1 ⟨rfl, hx1⟩; first | (have hd2 := below_nxt hd1 hx1 (Nat.le_refl _); have ca2 := below_cell hx1 _ _ ca1; have cb2 := below_cell hx1 _ _ cb1; clear hx1) | (have hd1 := below_nxt hd0 hx1 (Nat.le_refl _); have ca1 := below_cell hx1 _ _ ca0; have cb1 := below_cell hx1 _ _ cb0; clear hx1))
                  | (go_at_call 25; (with_reducible refine (HWB.out _).mono ?_); rintro _ wa1 ⟨rfl, hx1⟩; first | (have hd2 := below_nxt hd1 hx1 (Nat.le_refl _); have ca2 := below_cell hx1 _ _ ca1; have cb2 := below_cell hx1 _ _ cb1; clear hx1) | (have hd1 := below_nxt hd0 hx1 (Nat.le_refl _); have ca1 := below_cell hx1 _ _ ca0; have cb1 := below_cell hx1 _ _ cb0; clear hx1)))
              all_goals
                have HBE := Lib.hid hd2
                clear hd0 hd1 hd2 ca0 ca1 cb0 cb1
                go_wp2
                go_quiet (fail)
                rename_i nq
                go_wp2
                obtain ⟨wx, hwx⟩ : ∃ wx : World, wa1.drewN nq = wx := ⟨_, rfl⟩
                rw [hwx]
                have hbx : Below wr.heap.size wr wx := by rw [← hwx]; exact below_nxt HBE.out (below_drewN _ _ nq) (Nat.le_refl _)
                have hrx := HRO.out.below HMP.out hbx
                have cax : wx.cell? ⟨g, j1, none⟩ = some (.int .i64 a) := by rw [← hwx]; exact ca2
                have cbx : wx.cell? ⟨g, J, none⟩ = some (.int .i64 b) := by rw [← hwx]; exact cb2
                have fax := hrx.free j1 (by have := HML.out; omega)
                have fbx := hrx.free J (by have := HML.out; omega)
                have hne : ¬ j1 = J := by omega
                have HS := Lib.hid (in_swap (j1 := j1) (J := J) HSW.out hrx (HBL.out.trans (hbx.mono HBL.out.size)) HG.out hne)
                clear hwx hbx hrx ca2 cb2 hne
                go_region
                all_goals
                  go_wp2
                  go_roundw
                  case rel => exact ⟨j1, by omega, congrArg (Value.int .i64) (by omega), by first | exact HS.out.1 1 | exact HS.out.2 1 | exact HS.out.1 0 | exact HS.out.2 0⟩
                  case measure => simp [intOf]; omega
            · have e1 : decide (wB < wA) = false := by simp; omega
              have e2 : ((wA : Int) == (wB : Int)) = false := by simp; omega
              have HSW := Lib.hid (HSW.out (fun h => by have := HNEAR.out.1 h; omega))
              go_wp2
              go_region_held3 (fun w' => Below wr.heap.size wr w' ∧ w'.cell? ⟨g, j1, none⟩ = some (.int .i64 a) ∧ w'.cell? ⟨g, J, none⟩ = some (.int .i64 b))
                (first | exact ⟨hd2, ca2, cb2⟩ | exact ⟨hd1, ca1, cb1⟩ | exact ⟨hd0, ca0, cb0⟩)
                (first
                  | (go_at_call 25; (with_reducible refine (HWA.out _).mono ?_); rintro _ wa1 ⟨rfl, hx1⟩; first | (have hd2 := below_nxt hd1 hx1 (Nat.le_refl _); have ca2 := below_cell hx1 _ _ ca1; have cb2 := below_cell hx1 _ _ cb1; clear hx1) | (have hd1 := below_nxt hd0 hx1 (Nat.le_refl _); have ca1 := below_cell hx1 _ _ ca0; have cb1 := below_cell hx1 _ _ cb0; clear hx1))
                  | (go_at_call 25; (with_reducible refine (HWB.out _).mono ?_); rintro _ wa1 ⟨rfl, hx1⟩; first | (have hd2 := below_nxt hd1 hx1 (Nat.le_refl _); have ca2 := below_cell hx1 _ _ ca1; have cb2 := below_cell hx1 _ _ cb1; clear hx1) | (have hd1 := below_nxt hd0 hx1 (Nat.le_refl _); have ca1 := below_cell hx1 _ _ ca0; have cb1 := below_cell hx1 _ _ cb0; clear hx1)))
              all_goals
                have HBE := Lib.hid hd2
                clear hd0 hd1 hd2 ca0 ca1 cb0 cb1
                go_wp2
                go_quiet (fail)
                rename_i nq
                go_wp2
                obtain ⟨wx, hwx⟩ : ∃ wx : World, wa1.drewN nq = wx := ⟨_, rfl⟩
                rw [hwx]
                have hbx : Below wr.heap.size wr wx := by rw [← hwx]; exact below_nxt HBE.out (below_drewN _ _ nq) (Nat.le_refl _)
                have hrx := HRO.out.below HMP.out hbx
                have cax : wx.cell? ⟨g, j1, none⟩ = some (.int .i64 a) := by rw [← hwx]; exact ca2
                have cbx : wx.cell? ⟨g, J, none⟩ = some (.int .i64 b) := by rw [← hwx]; exact cb2
                have fax := hrx.free j1 (by have := HML.out; omega)
                have fbx := hrx.free J (by have := HML.out; omega)
                have hne : ¬ j1 = J := by omega
                have HS := Lib.hid (in_swap (j1 := j1) (J := J) HSW.out hrx (HBL.out.trans (hbx.mono HBL.out.size)) HG.out hne)
                clear hwx hbx hrx ca2 cb2 hne
                go_region
                all_goals
                  go_wp2
                  go_roundw
                  case rel => exact ⟨j1, by omega, congrArg (Value.int .i64) (by omega), by first | exact HS.out.1 1 | exact HS.out.2 1 | exact HS.out.1 0 | exact HS.out.2 0⟩
                  case measure => simp [intOf]; omega
      · obtain rfl : k = L := by omega
        obtain ⟨m, hm, hro, hbl⟩ := hout
        have hml : m.length = k := by rw [← HL.out]; exact hm.1
        have hme := hm.done (Nat.le_of_eq HL.out)
        have HF := Lib.hid (show Ints wr (.slice (some ⟨g, 0, none⟩) k C1) (ord s l) by
          have := hro.ints (C := C1) (fun x hx => H64.out x (by rw [hme] at hx; exact ord_mem.1 hx)) (by omega) k2
          rw [hml, hme] at this
          exact this)
        have HB2 := Lib.hid hbl
        clear hm hro hbl hml hme
        go_wp2
        go_ret
        exact ⟨_, rfl, HF.out, HB2.out, fun b q => by cases q; exact hg⟩
end Go.Proofs.YtegbgnjmkohcfaaDoor.Rk
namespace Go.Proofs.YtegbgnjmkohcfaaDoor.Rk
set_option linter.unusedVariables false
open Go.ChangeShapes Go.WideShapes Go.ChangeAt Go.RowKit
open Go.Mem Sha Hash
theorem ints_take {w : World} {A : Option Addr} {n C : Nat} {l : List Int} (h : Ints w (.slice A n C) l) {j : Nat} (hj : j ≤ l.length) : Ints w (.slice A j C) (l.take j) := by
  obtain ⟨A', n', C', q1, q2, q3, q4, q5, q6⟩ := h
  cases q1
  refine ⟨A, j, C, rfl, by simp; omega, by omega, q4, q5, fun i hi => ?_⟩
  have hi' : i < j := by simp at hi; omega
  rw [List.getElem_take]
  exact q6 i (by omega)
def Tgted (W : World) (s : Int) (l : List Int) (n : Int) (e : Ending) (w' : World) : Prop := ∃ u, e = .returned (.tuple #[u, .bool (tgtOk l n)]) ∧ Ints w' u (tgt s l n) ∧ Below W.heap.size W w'
def TgtedN (W : World) (s : Int) (l : List Int) (n : Int) (e : Ending) (w' : World) : Prop := ∃ u, e = .returned (.tuple #[u, .bool (tgtOk l n)]) ∧ Ints w' u (tgt s l n) ∧ Below W.heap.size W w' ∧ ∀ b, u.ownBlock = some b → W.heap.size ≤ b
/-- those that are in, told one by one -/
def InsAt (l : List Int) (k : Nat) (W : World) (v : Value) (wr : World) : Prop := Built IntR wr W.heap.size 3 v (insOf (l.take k)) ∧ Below W.heap.size W wr
theorem tgt_no {s : Int} {l : List Int} {n : Int} (h : tgtOk l n = false) : tgt s l n = [] := by unfold tgt; rw [if_neg (by rw [h]; simp)]
theorem tgt_yes {s : Int} {l : List Int} {n : Int} (h : tgtOk l n = true) : tgt s l n = (ord s (insOf l)).take n.toNat := by unfold tgt; rw [if_pos h]
set_option maxRecDepth 100000 in
set_option maxHeartbeats 4000000 in
theorem refTargets (W : World) (s : Int) (v : Value) (l : List Int) (n : Int) (hI : Ints W v l) (hs : I64 s) (hn : I64 n) (hl : l.length ≤ 100) :
    Calls Tryd.prog 8 #[.int .i64 s, v, .int .i64 n] W (TgtedN W s l n) := by
  obtain ⟨A, C, rfl, g1, g2, -⟩ := hI.shape
  have HI := Lib.hid hI
  obtain ⟨n0, n1⟩ := hn
  obtain ⟨L, hL⟩ : ∃ L, l.length = L := ⟨_, rfl⟩
  have HL := Lib.hid hL
  have HIL := Lib.hid (show ∀ k, (insOf (l.take k)).length ≤ L from fun k => Nat.le_trans (insOf_len _) (by rw [List.length_take]; omega))
  rw [hL] at hl g1 HI ⊢
  clear hI hL
  go_enter Tryd.func8, Tryd.ntmps8
  go_wp2
  go_loopw [8, 9] (fun v c wr => ∃ k : Nat, k ≤ L ∧ c = .int .i64 k ∧ InsAt l k W v wr) (fun _ c _ => L - (intOf c).toNat)
  case atStart => exact ⟨0, Nat.zero_le _, rfl, by rw [InsAt, List.take_zero]; exact ⟨Built.start _ _ _, Below.refl _ _⟩⟩
  case round =>
    obtain ⟨k, hk, rfl, hbu, hbl⟩ := hrel
    have HBU := Lib.hid hbu
    have HBL := Lib.hid hbl
    by_cases hlt : k < L
    · have hk' : k < l.length := by rw [HL.out]; exact hlt
      obtain ⟨b, o, rfl, hc, hz⟩ := (HI.out.below hbl).at hk'
      have HNX := Lib.hid (insOf_take hk')
      obtain ⟨x, hx⟩ : ∃ x, l[k] = x := ⟨_, rfl⟩
      rw [hx] at hc hz HNX
      have q1 : (0 : Int) ≤ (k : Int) := by omega
      have q2 : (k : Int) < (L : Int) := by omega
      obtain ⟨A1, C1, e1, hl1, hl2⟩ := hbu.len
      obtain ⟨M, hM⟩ : ∃ M, (insOf (l.take k)).length = M := ⟨_, rfl⟩
      have HM := Lib.hid hM
      rw [hM] at e1 hl1
      subst e1
      have hML : M ≤ L := by rw [← hM]; exact HIL.out k
      clear hbu hx hk' hM
      by_cases h1 : x = 1
      · have hq : (x == 1) = true := by rw [h1]; rfl
        have HNX2 := Lib.hid (show insOf (l.take (k + 1)) = insOf (l.take k) ++ [(k : Int)] by rw [HNX.out, if_pos h1])
        clear h1 hbl
        go_wp2_with (at_builtin; refine wpList_append_built (R := IntR) _ rfl (.tmp 21) (.tmp 23) 22 rfl W.heap.size 3 (.int .i64 0) 8 Tryd.underlying22 infoInt rfl _ _ rfl HBU.out _ (k : Int) _ rfl rfl rfl (fun _ _ => ⟨rfl, by omega, by omega⟩) (by rw [HM.out]; omega) HBL.out.size ?_; intro v' w' hbu' hg' hb'; have HX := Lib.hid (show InsAt l (k + 1) W v' w' from ⟨by rw [HNX2.out]; exact hbu', HBL.out.trans hb'⟩); obtain ⟨A2, C2, e2, _⟩ := hbu'.len; obtain ⟨L2, hL2⟩ : ∃ L2, (insOf (l.take k) ++ [(k : Int)]).length = L2 := ⟨_, rfl⟩; rw [hL2] at e2; subst e2; clear hbu' hg' hb' hL2)
        go_roundw
        case rel => exact ⟨k + 1, by omega, by go_num, HX.out⟩
        case measure => simp [intOf]; omega
      · have hq : (x == 1) = false := by simpa using h1
        have HX := Lib.hid (show InsAt l (k + 1) W (.slice A1 M C1) wr from ⟨by rw [HNX.out, if_neg h1, List.append_nil]; exact HBU.out, HBL.out⟩)
        clear h1 hbl
        go_wp2
        go_roundw
        case rel => exact ⟨k + 1, by omega, by go_num, HX.out⟩
        case measure => simp [intOf]; omega
    · obtain rfl : k = L := by omega
      rw [List.take_of_length_le (Nat.le_of_eq HL.out)] at hbu HBU
      have HIN := Lib.hid (show Ints wr _ (insOf l) from hbu.slice)
      obtain ⟨A1, C1, e1, hl1, hl2⟩ := hbu.len
      have hle := HIL.out k
      rw [List.take_of_length_le (Nat.le_of_eq HL.out)] at hle
      have HOL := Lib.hid (ord_len s (insOf l))
      have HTO := Lib.hid (show tgtOk l n = (decide (0 ≤ n) && decide (n ≤ ((insOf l).length : Int))) from rfl)
      obtain ⟨M, hM⟩ : ∃ M, (insOf l).length = M := ⟨_, rfl⟩
      have HM := Lib.hid hM
      rw [hM] at e1 hl1 hle HOL HTO
      subst e1
      clear hbu hM hbl
      by_cases c1 : n < 0
      · have d1 : decide (n < 0) = true := by simpa using c1
        have HF := Lib.hid (show tgtOk l n = false by rw [HTO.out]; simp; omega)
        go_wp2
        go_ret2
        exact ⟨.slice none 0 0, by rw [HF.out]; rfl, by rw [tgt_no HF.out]; exact Ints.nil _, HBL.out, fun b q => by cases q⟩
      · have d1 : decide (n < 0) = false := by simpa using c1
        by_cases c2 : (M : Int) < n
        · have d2 : decide ((M : Int) < n) = true := by simpa using c2
          have HF := Lib.hid (show tgtOk l n = false by rw [HTO.out]; simp; omega)
          go_wp2
          go_ret2
          exact ⟨.slice none 0 0, by rw [HF.out]; rfl, by rw [tgt_no HF.out]; exact Ints.nil _, HBL.out, fun b q => by cases q⟩
        · have d2 : decide ((M : Int) < n) = false := by simpa using c2
          have HF := Lib.hid (show tgtOk l n = true by rw [HTO.out]; simp; omega)
          obtain ⟨N, rfl⟩ := Int.eq_ofNat_of_zero_le (show 0 ≤ n by omega)
          have hNM : N ≤ M := by omega
          go_wp2_with fail
          refine (refOrder _ s _ (insOf l) HIN.out hs (by rw [HM.out]; omega)).mono ?_
          rintro _ w2 ⟨u, rfl, hu, hb2, hn2⟩
          have HB2 := Lib.hid (below_nxt HBL.out hb2 (Nat.le_refl _))
          obtain ⟨A2, C2, rfl, k1, k2, -⟩ := hu.shape
          rw [HOL.out] at hu k1 hn2 ⊢
          have HT := Lib.hid (show Ints w2 (.slice A2 N C2) (tgt s l (N : Nat)) by
            rw [tgt_yes HF.out, Int.toNat_natCast]
            exact ints_take hu (by rw [HOL.out]; omega))
          have HN2 := Lib.hid (show ∀ b, (Value.slice A2 N C2).ownBlock = some b → W.heap.size ≤ b from fun b q => Nat.le_trans HBL.out.size (hn2 b (by rcases A2 with _ | a2; cases q; exact q)))
          clear hu hb2 hn2
          go_wp2
          go_ret2
          exact ⟨.slice A2 N C2, by rw [HF.out]; rfl, HT.out, HB2.out, HN2.out⟩
end Go.Proofs.YtegbgnjmkohcfaaDoor.Rk
