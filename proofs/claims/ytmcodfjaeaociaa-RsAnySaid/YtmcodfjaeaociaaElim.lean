/- What the changes of rows that make an inverse do: the invariant of the elimination. No program is named here. -/
import Derived.Test.YtmcodfjaeaociaaLin
namespace GfLin
open GfPlain
def tg (x : Nat) : GF := ⟨x % 256, by omega⟩
theorem tg_val {x : Nat} (h : x < 256) : (tg x).val = x := Nat.mod_eq_of_lt h
theorem tg_xor (x y : Nat) : tg (x ^^^ y) = tg x + tg y := GF.ext (by
  show (x ^^^ y) % 256 = x % 256 ^^^ y % 256
  exact Nat.xor_mod_two_pow (n := 8))
theorem tg_mul {x y : Nat} (hx : x < 256) (hy : y < 256) : tg (mul x y) = tg x * tg y := GF.ext (by
  rw [mul_val, tg_val hx, tg_val hy, tg_val (mul_lt x y hx)])
theorem tg_inv {x : Nat} (hx : x < 256) : tg (inv x) = gi (tg x) := GF.ext (by
  show inv x % 256 = inv (tg x).val
  rw [tg_val hx, Nat.mod_eq_of_lt (inv_lt x)])
theorem tg_ne {x : Nat} (hx : x < 256) (h : x ≠ 0) : tg x ≠ g0 := fun e => h (by
  have := congrArg GF.val e
  rw [tg_val hx] at this; exact this)
theorem tg_zero {x : Nat} (hx : x < 256) (h : tg x = g0) : x = 0 := by
  have := congrArg GF.val h
  rw [tg_val hx] at this; exact this
/-- the three changes: two rows change places, a row is multiplied, other rows have its multiples added -/
def swG (F : Nat → Nat → GF) (a b : Nat) : Nat → Nat → GF := fun i => if i = a then F b else if i = b then F a else F i
def scG (F : Nat → Nat → GF) (q : Nat) (s : GF) : Nat → Nat → GF := fun i => if i = q then fun c => s * F q c else F i
def clG (F : Nat → Nat → GF) (q k : Nat) : Nat → Nat → GF := fun j => if j < k ∧ j ≠ q then fun c => F j c + F j q * F q c else F j
/-- F: n rows, n places of what was A and n of what was a unit -/
structure Keeps (n : Nat) (A F : Nat → Nat → GF) : Prop where
  left : ∀ r, r < n → ∀ c, c < n → S n (fun k => F r (n + k) * A k c) = F r c
  back : ∃ T : Nat → Nat → GF, ∀ r, r < n → ∀ c, c < n → S n (fun k => T r k * F k (n + c)) = eye r c
  det0 : det n F = g0 ↔ det n A = g0
theorem swG_swp (F : Nat → Nat → GF) (a b : Nat) : swG F a b = swp F b a := by
  funext r c; unfold swG swp upd
  by_cases e : r = a
  · rw [if_pos e, if_pos e]
  · rw [if_neg e, if_neg e]
    by_cases e' : r = b
    · rw [if_pos e', if_pos e']
    · rw [if_neg e', if_neg e']
theorem scG_upd (F : Nat → Nat → GF) (q : Nat) (s : GF) : scG F q s = upd F q (fun c => s * F q c) := by
  funext r c; unfold scG upd
  by_cases e : r = q
  · rw [if_pos e, if_pos e]
  · rw [if_neg e, if_neg e]
theorem S_swap (f : Nat → GF) {a b n : Nat} (ha : a < n) (hb : b < n) : S n (fun k => if k = a then f b else if k = b then f a else f k) = S n f := by
  have h : ∀ x, x < n → S n (fun k => if k = x then f x else g0) = f x := fun x hx => by
    rw [S_one hx (fun i _ hne => if_neg hne)]; exact if_pos rfl
  have h2 : ∀ x y, x < n → S n (fun k => if k = x then f y else g0) = f y := fun x y hx => by
    rw [S_one hx (fun i _ hne => if_neg hne)]; exact if_pos rfl
  by_cases e : a = b
  · subst e
    refine S_congr fun k _ => ?_
    by_cases e : k = a
    · rw [if_pos e, e]
    · rw [if_neg e, if_neg e]
  · have key : ∀ k, k < n → (if k = a then f b else if k = b then f a else f k) = f k + (((if k = a then f a else g0) + (if k = a then f b else g0)) + ((if k = b then f b else g0) + (if k = b then f a else g0))) := by
      intro k _
      by_cases e1 : k = a
      · subst e1
        rw [if_pos rfl, if_pos rfl, if_pos rfl, if_neg e, if_neg e, add0, add0, ← addA, addS, zadd]
      · by_cases e2 : k = b
        · subst e2
          rw [if_neg e1, if_pos rfl, if_neg e1, if_neg e1, if_pos rfl, if_pos rfl, add0, zadd, ← addA, addS, zadd]
        · rw [if_neg e1, if_neg e2, if_neg e1, if_neg e1, if_neg e2, if_neg e2, add0, add0, add0]
    rw [S_congr key, S_add, S_add, S_add, S_add, h a ha, h2 a b ha, h b hb, h2 b a hb, addC (f b) (f a), addS, add0]
theorem Keeps.swap {n : Nat} {A F : Nat → Nat → GF} (h : Keeps n A F) {a b : Nat} (ha : a < n) (hb : b < n) : Keeps n A (swG F a b) := by
  refine ⟨fun r hr c hc => ?_, ?_, by rw [swG_swp, det_swap F hb ha]; exact h.det0⟩
  · unfold swG
    by_cases e : r = a
    · rw [if_pos e]; exact h.left b hb c hc
    · rw [if_neg e]
      by_cases e' : r = b
      · rw [if_pos e']; exact h.left a ha c hc
      · rw [if_neg e']; exact h.left r hr c hc
  · obtain ⟨T, hT⟩ := h.back
    refine ⟨fun r k => if k = a then T r b else if k = b then T r a else T r k, fun r hr c hc => ?_⟩
    rw [← hT r hr c hc, ← S_swap (fun k => T r k * F k (n + c)) ha hb]
    refine S_congr fun k _ => ?_
    unfold swG
    dsimp only
    by_cases e : k = a
    · rw [if_pos e, if_pos e, if_pos e]
    · rw [if_neg e, if_neg e, if_neg e]
      by_cases e' : k = b
      · rw [if_pos e', if_pos e', if_pos e']
      · rw [if_neg e', if_neg e', if_neg e']
theorem Keeps.scale {n : Nat} {A F : Nat → Nat → GF} (h : Keeps n A F) {q : Nat} {s p : GF} (hq : q < n) (hs : p * s = g1) : Keeps n A (scG F q s) := by
  have hs0 : s ≠ g0 := fun e => g10 (by rw [← hs, e, mul0])
  refine ⟨fun r hr c hc => ?_, ?_, ?_⟩
  · unfold scG
    by_cases e : r = q
    · rw [if_pos e, ← h.left q hq c hc, S_mul]
      exact S_congr fun k _ => mulA' _ _ _
    · rw [if_neg e]; exact h.left r hr c hc
  · obtain ⟨T, hT⟩ := h.back
    refine ⟨fun r k => if k = q then T r q * p else T r k, fun r hr c hc => ?_⟩
    rw [← hT r hr c hc]
    refine S_congr fun k _ => ?_
    unfold scG
    dsimp only
    by_cases e : k = q
    · rw [if_pos e, if_pos e, e, mulA', ← mulA' p, hs, omul]
    · rw [if_neg e, if_neg e]
  · rw [scG_upd, det_scale s (F q) F hq, upd_self, ← h.det0]
    exact ⟨fun e => mul_ne hs0 e, fun e => by rw [e, mul0]⟩
theorem clG_succ (F : Nat → Nat → GF) (q k : Nat) : clG F q (k + 1) = if k = q then clG F q k else upd (clG F q k) k (fun c => clG F q k k c + F k q * clG F q k q c) := by
  have hq : clG F q k q = F q := by unfold clG; rw [if_neg (by omega)]
  have hk : clG F q k k = F k := by unfold clG; rw [if_neg (by omega)]
  by_cases e : k = q
  · rw [if_pos e]
    funext j c; unfold clG
    by_cases h : j < k ∧ j ≠ q
    · rw [if_pos h, if_pos (by omega)]
    · rw [if_neg h, if_neg (by omega)]
  · rw [if_neg e, hq, hk]
    funext j c; unfold clG upd
    dsimp only
    by_cases h : j = k
    · subst h; rw [if_pos rfl, if_pos (by omega)]
    · rw [if_neg h]
      by_cases h' : j < k ∧ j ≠ q
      · rw [if_pos h', if_pos (by omega)]
      · rw [if_neg h', if_neg (by omega)]
theorem clG_det (n : Nat) (F : Nat → Nat → GF) {q : Nat} (hq : q < n) : ∀ k, k ≤ n → det n (clG F q k) = det n F
  | 0, _ => det_congr fun r _ c _ => by unfold clG; rw [if_neg (by omega)]
  | k + 1, hk => by
    rw [clG_succ]
    by_cases e : k = q
    · rw [if_pos e]; exact clG_det n F hq k (by omega)
    · rw [if_neg e, det_add (clG F q k) (F k q) (by omega) hq e]; exact clG_det n F hq k (by omega)
theorem Keeps.clear {n : Nat} {A F : Nat → Nat → GF} (h : Keeps n A F) {q : Nat} (hq : q < n) : Keeps n A (clG F q n) := by
  refine ⟨fun r hr c hc => ?_, ?_, by rw [clG_det n F hq n (Nat.le_refl _)]; exact h.det0⟩
  · unfold clG
    by_cases e : r < n ∧ r ≠ q
    · rw [if_pos e, ← h.left r hr c hc, ← h.left q hq c hc, S_mul, ← S_add]
      exact S_congr fun k _ => by rw [Dmul, mulA']
    · rw [if_neg e]; exact h.left r hr c hc
  · obtain ⟨T, hT⟩ := h.back
    refine ⟨fun r k => T r k + if k = q then S n (fun j => T r j * if j = q then g0 else F j q) else g0, fun r hr c hc => ?_⟩
    rw [← hT r hr c hc]
    have hk : ∀ k, k < n → (T r k + if k = q then S n (fun j => T r j * if j = q then g0 else F j q) else g0) * clG F q n k (n + c) =
        T r k * F k (n + c) + ((T r k * if k = q then g0 else F k q) * F q (n + c) + if k = q then S n (fun j => T r j * if j = q then g0 else F j q) * F q (n + c) else g0) := by
      intro k hk
      unfold clG
      by_cases e : k = q
      · rw [if_pos e, if_neg (by omega), if_pos e, if_pos e, mul0, zmul, zadd, Dmul, e]
      · rw [if_neg e, if_pos ⟨hk, e⟩, if_neg e, if_neg e, add0, add0, mulD, mulA']
    rw [S_congr hk, S_add, S_add, S_one (k := q) (f := fun k => if k = q then S n (fun j => T r j * if j = q then g0 else F j q) * F q (n + c) else g0) hq (fun i _ hne => if_neg hne), if_pos rfl, ← S_rmul, addS, add0]
/-- the first q places are a unit's -/
def Clean (n : Nat) (F : Nat → Nat → GF) (q : Nat) : Prop := ∀ c, c < q → ∀ r, r < n → F r c = eye r c
theorem eye_off {r c : Nat} (h : r ≠ c) : eye r c = g0 := if_neg h
theorem clean_step {n : Nat} {F : Nat → Nat → GF} {q f : Nat} (h : Clean n F q) (hf : q + f < n) (hne : F (q + f) q ≠ g0) :
    Clean n (clG (scG (swG F q (q + f)) q (gi (F (q + f) q))) q n) (q + 1) := by
  have sw : ∀ c, c < q → ∀ r, r < n → swG F q (q + f) r c = eye r c := fun c hc r hr => by
    unfold swG
    by_cases e : r = q
    · rw [if_pos e, h c hc _ hf, eye_off (by omega), eye_off (by omega)]
    · rw [if_neg e]
      by_cases e' : r = q + f
      · rw [if_pos e', h c hc q (by omega), eye_off (by omega), eye_off (by omega)]
      · rw [if_neg e']; exact h c hc r hr
  have sq : swG F q (q + f) q = F (q + f) := if_pos rfl
  have scq : ∀ c, scG (swG F q (q + f)) q (gi (F (q + f) q)) q c = gi (F (q + f) q) * F (q + f) c := fun c => by unfold scG; rw [if_pos rfl, sq]
  have one : scG (swG F q (q + f)) q (gi (F (q + f) q)) q q = g1 := by rw [scq, mulC, gi_mul _ hne]
  have sc : ∀ c, c < q → ∀ r, r < n → scG (swG F q (q + f)) q (gi (F (q + f) q)) r c = eye r c := fun c hc r hr => by
    by_cases e : r = q
    · rw [e, scq, h c hc _ hf, eye_off (by omega), eye_off (by omega), mul0]
    · unfold scG; rw [if_neg e]; exact sw c hc r hr
  intro c hc r hr
  unfold clG
  by_cases e : r < n ∧ r ≠ q
  · rw [if_pos e]
    by_cases ec : c = q
    · subst ec; rw [one, mul1, addS, eye_off e.2]
    · rw [sc c (by omega) r hr, sc c (by omega) q (by omega), eye_off (r := q) (by omega), mul0, add0]
  · rw [if_neg e]
    have er : r = q := by omega
    subst er
    by_cases ec : c = r
    · subst ec; rw [one]; exact (if_pos rfl).symm
    · exact sc c (by omega) r hr
/-- column q has nothing from row q on: so the determinant is none -/
theorem stuck_det {n : Nat} {F : Nat → Nat → GF} {q : Nat} (h : Clean n F q) (hq : q < n) (hz : ∀ r, q ≤ r → r < n → F r q = g0) : det n F = g0 :=
  det_bare n q F hq fun r hr hr' c hc => by
    by_cases e : c = q
    · subst e; exact hz r hr hr'
    · rw [h c (by omega) r hr', eye_off (by omega)]
theorem done_det {n : Nat} {F : Nat → Nat → GF} (h : Clean n F n) : det n F = g1 := by
  rw [det_congr (M' := eye) fun r hr c hc => h c hc r hr, det_eye]
/-- what stands at the right is the inverse, from both sides -/
theorem done_left {n : Nat} {A F : Nat → Nat → GF} (k : Keeps n A F) (h : Clean n F n) : ∀ r, r < n → ∀ c, c < n → S n (fun i => F r (n + i) * A i c) = eye r c := fun r hr c hc => by
  rw [k.left r hr c hc, h c hc r hr]
theorem done_right {n : Nat} {A F : Nat → Nat → GF} (k : Keeps n A F) (h : Clean n F n) : ∀ r, r < n → ∀ c, c < n → S n (fun i => A r i * F i (n + c)) = eye r c := by
  obtain ⟨T, hT⟩ := k.back
  have hTA : ∀ r, r < n → ∀ c, c < n → T r c = A r c := fun r hr c hc => by
    have h1 : S n (fun i => T r i * S n (fun j => F i (n + j) * A j c)) = T r c := by
      rw [S_congr (g := fun i => T r i * eye i c) (fun i hi => by rw [done_left k h i hi c hc]), S_one hc (fun i _ hne => by rw [eye_off hne, mul0]), show eye c c = g1 from if_pos rfl, mul1]
    have h2 : S n (fun i => T r i * S n (fun j => F i (n + j) * A j c)) = A r c := by
      rw [S_congr (g := fun i => S n (fun j => T r i * F i (n + j) * A j c)) (fun i _ => by rw [S_mul]; exact S_congr fun j _ => (mulA' _ _ _).symm), S_comm,
        S_congr (g := fun j => eye r j * A j c) (fun j hj => by rw [← hT r hr j hj, S_rmul]), S_one hr (fun i _ hne => by rw [eye_off (fun q => hne q.symm), zmul]), show eye r r = g1 from if_pos rfl, omul]
    rw [← h1, h2]
  intro r hr c hc
  rw [← hT r hr c hc]
  exact S_congr fun i hi => by rw [hTA r hr i hi]
end GfLin
