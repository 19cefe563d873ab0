/- Records read out of bytes, plain: what a reader tells, part by part. No program is named here. -/
import Derived.Test.YtjhlcddmpkalfaaRecUniq
namespace RecM
open Go Go.Mem
def val (l : List Nat) : Nat := l.foldl (fun n b => n * 256 + b) 0
theorem val_snoc (l : List Nat) (b : Nat) : val (l ++ [b]) = val l * 256 + b := by unfold val; rw [List.foldl_append]; rfl
theorem numB_val : ∀ (n : Nat) (l : List Nat), l.length = n → (∀ x ∈ l, x < 256) → Sha.numB (val l) n = l ∧ val l < 256 ^ n
  | 0, l, hl, _ => by
    have : l = [] := List.length_eq_zero_iff.1 hl
    subst this
    exact ⟨rfl, by decide⟩
  | n + 1, l, hl, hb => by
    have hne : l ≠ [] := by intro e; rw [e] at hl; simp at hl
    have e := List.dropLast_concat_getLast hne
    have hl2 : l.dropLast.length = n := by rw [List.length_dropLast]; omega
    obtain ⟨h1, h2⟩ := numB_val n l.dropLast hl2 (fun x hx => hb x (List.dropLast_subset _ hx))
    have hlast := hb _ (List.getLast_mem hne)
    obtain ⟨b, hbe⟩ : ∃ b, l.getLast hne = b := ⟨_, rfl⟩
    rw [hbe] at e hlast
    rw [← e, val_snoc, numB_snoc]
    refine ⟨?_, by rw [Nat.pow_succ]; omega⟩
    rw [show (val l.dropLast * 256 + b) / 256 = val l.dropLast by omega, show (val l.dropLast * 256 + b) % 256 = b by omega, h1]
theorem val_numB {v k : Nat} (h : v < 256 ^ k) : val (Sha.numB v k) = v := by
  obtain ⟨h1, h2⟩ := numB_val k (Sha.numB v k) (Sha.numB_len v k) (fun x hx => by
    unfold Sha.numB at hx
    obtain ⟨i, _, rfl⟩ := List.mem_map.1 hx
    exact Nat.mod_lt _ (by decide))
  exact numB_inj h2 h h1
theorem val_take {l : List Nat} {j : Nat} (h : j < l.length) : val (l.take (j + 1)) = val (l.take j) * 256 + l[j] := by
  rw [List.take_succ_eq_append_getElem h, val_snoc]
theorem or_byte (a b : Nat) (h : b < 256) : a * 256 ||| b = a * 256 + b := by
  rw [show a * 256 = a <<< 8 by rw [Nat.shiftLeft_eq]]
  exact (Nat.shiftLeft_add_eq_or_of_lt (i := 8) h a).symm
/-- of l a reader has told x, which E writes, and l' is left; or that it is none -/
structure Rds {α : Type} (ok : α → Prop) (E : α → List Nat) (l : List Nat) (bad : Bool) (x : α) (l' : List Nat) (bad' : Bool) : Prop where
  was : bad = true → bad' = true
  yes : bad' = false → ok x ∧ l = E x ++ l'
  no : bad = false → bad' = true → ∀ z y, ok z → l ≠ E z ++ y
  len : l'.length ≤ l.length
section
variable {α β γ : Type} {ok : α → Prop} {E : α → List Nat} {ok2 : β → Prop} {E2 : β → List Nat} {l l1 l2 : List Nat} {b b1 b2 : Bool} {x : α} {y : β}
theorem Rds.bad (h : b = true) (x : α) : Rds ok E l b x l true := ⟨fun _ => rfl, (fun q => by cases q), (fun q => by rw [h] at q; cases q), Nat.le_refl _⟩
theorem Rds.live (h : Rds ok E l b x l1 b1) (hb : b1 = false) : b = false := by
  cases hq : b with
  | false => rfl
  | true => rw [h.was hq] at hb; cases hb
theorem Rds.pair (h : Rds ok E l b x l1 b1) (k : Rds ok2 E2 l1 b1 y l2 b2) (hc : Code ok E) : Rds (fun z : α × β => ok z.1 ∧ ok2 z.2) (fun z => E z.1 ++ E2 z.2) l b (x, y) l2 b2 := by
  refine ⟨fun q => k.was (h.was q), fun q => ?_, fun q q2 z t ⟨z1, z2⟩ e => ?_, Nat.le_trans k.len h.len⟩
  · obtain ⟨k1, k2⟩ := k.yes q
    obtain ⟨h1, h2⟩ := h.yes (k.live q)
    exact ⟨⟨h1, k1⟩, by rw [h2, k2, List.append_assoc]⟩
  · simp only [List.append_assoc] at e
    cases hb1 : b1 with
    | true => exact h.no q hb1 z.1 _ z1 e
    | false =>
      obtain ⟨h1, h2⟩ := h.yes hb1
      have := hc z.1 x _ _ z1 h1 (by rw [← e, h2])
      exact k.no hb1 q2 z.2 t z2 this.2.symm
theorem Rds.to {ok' : γ → Prop} {E' : γ → List Nat} (h : Rds ok E l b x l1 b1) (g : γ → α) (hok : ∀ z, ok' z ↔ ok (g z)) (hE : ∀ z, E' z = E (g z)) {x' : γ} (hx : g x' = x) : Rds ok' E' l b x' l1 b1 := by
  refine ⟨h.was, fun q => ?_, fun q q2 z t hz e => ?_, h.len⟩
  · obtain ⟨h1, h2⟩ := h.yes q
    exact ⟨(hok x').2 (by rw [hx]; exact h1), by rw [hE, hx]; exact h2⟩
  · exact h.no q q2 (g z) t ((hok z).1 hz) (by rw [← hE]; exact e)
/-- what a bad one told counts for nothing -/
theorem Rds.any (h : Rds ok E l b x l1 true) (x' : α) : Rds ok E l b x' l1 true := ⟨h.was, (fun q => by cases q), h.no, h.len⟩
end
section
variable {least most : Int} {k : Nat} {l : List Nat}
theorem rds_get (h0 : 0 ≤ least) (hm : most < 256 ^ k) (hb : ∀ x ∈ l, x < 256) (hk : k ≤ l.length) :
    Rds (fun z : Int => least ≤ z ∧ z ≤ most) (fun z => Sha.numB z.toNat k) l false (val (l.take k) : Int) (l.drop k) (decide ((val (l.take k) : Int) < least) || decide (most < (val (l.take k) : Int))) := by
  have htl : (l.take k).length = k := by rw [List.length_take]; omega
  obtain ⟨h1, h2⟩ := numB_val k (l.take k) htl (fun x hx => hb x (List.mem_of_mem_take hx))
  refine ⟨(fun q => by cases q), fun q => ?_, fun _ q z y hz e => ?_, by rw [List.length_drop]; omega⟩
  · simp only [Bool.or_eq_false_iff, decide_eq_false_iff_not] at q
    refine ⟨by omega, ?_⟩
    rw [Int.toNat_natCast, h1, List.take_append_drop]
  · simp only [Bool.or_eq_true, decide_eq_true_eq] at q
    have hz2 : z.toNat < 256 ^ k := by have := hz.2; have : ((256 ^ k : Nat) : Int) = 256 ^ k := by simp
                                       omega
    have e2 : l.take k = Sha.numB z.toNat k := by rw [e, List.take_append_of_le_length (by rw [Sha.numB_len]; exact Nat.le_refl _), List.take_of_length_le (by rw [Sha.numB_len]; exact Nat.le_refl _)]
    rw [e2, val_numB hz2] at q
    have := hz.1
    omega
theorem rds_short (hk : l.length < k) (x : Int) : Rds (fun z : Int => least ≤ z ∧ z ≤ most) (fun z => Sha.numB z.toNat k) l false x l true := by
  refine ⟨(fun q => by cases q), (fun q => by cases q), fun _ _ z y _ e => ?_, Nat.le_refl _⟩
  have := congrArg List.length e
  rw [List.length_append, Sha.numB_len] at this
  omega
end
/-- so many of a list -/
def okL {α : Type} (ok : α → Prop) (j : Nat) (ys : List α) : Prop := ys.length = j ∧ ∀ a ∈ ys, ok a
section
variable {α : Type} {ok : α → Prop} {E : α → List Nat} {l l1 l2 : List Nat} {b b1 b2 : Bool} {x : α} {xs : List α} {j : Nat}
theorem code_okL (hc : Code ok E) (j : Nat) : Code (okL ok j) (fun ys => ys.flatMap E) := fun a c u v ha hb e => code_flat hc a c u v (by rw [ha.1, hb.1]) ha.2 hb.2 e
theorem rds_none : Rds (okL ok 0) (fun ys => ys.flatMap E) l b [] l b :=
  ⟨id, fun _ => ⟨⟨rfl, (fun a ha => by cases ha)⟩, rfl⟩, (fun q q2 => by rw [q] at q2; cases q2), Nat.le_refl _⟩
theorem rds_more (hc : Code ok E) (h : Rds (okL ok j) (fun ys => ys.flatMap E) l b xs l1 b1) (k : Rds ok E l1 b1 x l2 b2) (hx : xs.length = j) : Rds (okL ok (j + 1)) (fun ys => ys.flatMap E) l b (xs ++ [x]) l2 b2 := by
  have hp := h.pair k (code_okL hc j)
  refine ⟨hp.was, fun q => ?_, fun q q2 z t hz e => ?_, hp.len⟩
  · obtain ⟨⟨h1, h2⟩, h3⟩ := hp.yes q
    refine ⟨⟨by simp [hx], fun a ha => ?_⟩, by rw [h3]; simp⟩
    rcases List.mem_append.1 ha with q1 | q1
    · exact h1.2 a q1
    · rw [List.mem_singleton.1 q1]; exact h2
  · have hne : z ≠ [] := by intro e0; rw [e0] at hz; have := hz.1; simp at this
    have ez := List.dropLast_concat_getLast hne
    refine hp.no q q2 (z.dropLast, z.getLast hne) t ⟨⟨by rw [List.length_dropLast, hz.1]; omega, fun a ha => hz.2 a (List.dropLast_subset _ ha)⟩, hz.2 _ (List.getLast_mem hne)⟩ ?_
    rw [e]
    congr 1
    conv => lhs; rw [← ez]
    simp
/-- a list with how many it has ahead of it -/
theorem rds_list {most k N : Nat} (hmk : most < 256 ^ k)
    (h : Rds (fun z : Int => 0 ≤ z ∧ z ≤ (most : Int)) (fun z => Sha.numB z.toNat k) l b (N : Int) l1 b1) (hj : Rds (okL ok j) (fun ys => ys.flatMap E) l1 b1 xs l2 b2) (hx : xs.length = j) (hjn : j ≤ N) (hend : b2 = true ∨ j = N) (ys : List α) (hys : b2 = false → ys = xs) :
    Rds (fun l : List α => (0 ≤ ((l.length : Nat) : Int) ∧ ((l.length : Nat) : Int) ≤ (most : Int)) ∧ ∀ a ∈ l, ok a) (fun l => Sha.numB ((l.length : Nat) : Int).toNat k ++ l.flatMap E) l b ys l2 b2 := by
  refine ⟨fun q => hj.was (h.was q), fun q => ?_, fun q q2 z t hz e => ?_, Nat.le_trans hj.len h.len⟩
  · have e1 := hys q
    subst e1
    obtain ⟨h1, h2⟩ := hj.yes q
    obtain ⟨h3, h4⟩ := h.yes (hj.live q)
    have hN : j = N := by rcases hend with x | x; rw [q] at x; cases x; exact x
    rw [hx, hN]
    exact ⟨⟨h3, h1.2⟩, by rw [h4, h2, List.append_assoc]⟩
  · simp only [List.append_assoc] at e
    cases hb1 : b1 with
    | true => exact h.no q hb1 ((z.length : Nat) : Int) _ hz.1 e
    | false =>
      obtain ⟨h3, h4⟩ := h.yes hb1
      rw [h4] at e
      simp only [Int.toNat_natCast] at e
      have h5 : N ≤ most := by have := h3.2; omega
      have h6 : z.length ≤ most := by have := hz.1.2; omega
      obtain ⟨e1, e2⟩ := code_nat k N z.length _ _ (show N < 256 ^ k by omega) (show z.length < 256 ^ k by omega) e
      refine hj.no hb1 q2 (z.take j) ((z.drop j).flatMap E ++ t) ⟨by rw [List.length_take]; omega, fun a ha => hz.2 a (List.mem_of_mem_take ha)⟩ ?_
      rw [e2, ← List.append_assoc, ← List.flatMap_append, List.take_append_drop]
end
end RecM
