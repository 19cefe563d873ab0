/- Bytes as a field of two to the eight, sums, tables, determinants, and what rows that are changed do to them. No program is named here. -/
import Derived.Test.YtmcodfjaeaociaaGfPlain
namespace GfLin
open GfPlain
/-- a byte as a number of the field -/
structure GF where
  val : Nat
  lt : val < 256
theorem GF.ext {a b : GF} (h : a.val = b.val) : a = b := by
  cases a; cases b; cases h; rfl
def g0 : GF := ⟨0, by omega⟩
def g1 : GF := ⟨1, by omega⟩
instance : Add GF := ⟨fun a b => ⟨a.val ^^^ b.val, Nat.xor_lt_two_pow (n := 8) a.lt b.lt⟩⟩
instance : Mul GF := ⟨fun a b => ⟨mul a.val b.val, mul_lt a.val b.val a.lt⟩⟩
def gi (a : GF) : GF := ⟨inv a.val, inv_lt a.val⟩
theorem add_val (a b : GF) : (a + b).val = a.val ^^^ b.val := rfl
theorem mul_val (a b : GF) : (a * b).val = mul a.val b.val := rfl
theorem addC (a b : GF) : a + b = b + a := GF.ext (Nat.xor_comm _ _)
theorem addA (a b c : GF) : a + b + c = a + (b + c) := GF.ext (Nat.xor_assoc _ _ _)
theorem add0 (a : GF) : a + g0 = a := GF.ext (Nat.xor_zero _)
theorem zadd (a : GF) : g0 + a = a := GF.ext (Nat.zero_xor _)
theorem addS (a : GF) : a + a = g0 := GF.ext (Nat.xor_self _)
theorem mulC (a b : GF) : a * b = b * a := GF.ext (GfPlain.mul_comm _ _ a.lt b.lt)
theorem mulA' (a b c : GF) : a * b * c = a * (b * c) := GF.ext (GfPlain.mul_assoc _ _ _ a.lt b.lt c.lt).symm
theorem mulD (a b c : GF) : a * (b + c) = a * b + a * c := GF.ext (mul_linr _ _ _)
theorem Dmul (a b c : GF) : (a + b) * c = a * c + b * c := GF.ext (mul_linl _ _ _)
theorem mul0 (a : GF) : a * g0 = g0 := GF.ext (mul_zero a.val)
theorem zmul (a : GF) : g0 * a = g0 := GF.ext (zero_mul a.val)
theorem mul1 (a : GF) : a * g1 = a := GF.ext (GfPlain.mul_one a.val a.lt)
theorem omul (a : GF) : g1 * a = a := GF.ext (GfPlain.one_mul a.val a.lt)
theorem gi_mul (a : GF) (h : a ≠ g0) : a * gi a = g1 := GF.ext (mul_inv a.val a.lt (fun e => h (GF.ext e)))
theorem g10 : g1 ≠ g0 := fun h => by
  have := congrArg GF.val h
  simp [g0, g1] at this
theorem mul_ne {a b : GF} (ha : a ≠ g0) (hb : a * b = g0) : b = g0 := by
  have h : gi a * (a * b) = b := by rw [← mulA', mulC (gi a), gi_mul a ha, omul]
  rw [← h, hb, mul0]
theorem addX (a b c d : GF) : a + b + (c + d) = a + c + (b + d) := by rw [addA, addA, ← addA b, addC b c, addA c]
theorem mulX (a b c : GF) : a * (b * c) = b * (a * c) := by rw [← mulA', mulC a b, mulA']
/-! sums -/
def S : Nat → (Nat → GF) → GF
  | 0, _ => g0
  | n + 1, f => S n f + f n
theorem S_congr {f g : Nat → GF} : ∀ {n}, (∀ i, i < n → f i = g i) → S n f = S n g
  | 0, _ => rfl
  | n + 1, h => by rw [S, S, S_congr (fun i hi => h i (by omega)), h n (by omega)]
theorem S_add (f g : Nat → GF) : ∀ n, S n (fun i => f i + g i) = S n f + S n g
  | 0 => (add0 g0).symm
  | n + 1 => by rw [S, S, S, S_add f g n, addX]
theorem S_mul (a : GF) (f : Nat → GF) : ∀ n, a * S n f = S n (fun i => a * f i)
  | 0 => mul0 a
  | n + 1 => by rw [S, S, mulD, S_mul a f n]
theorem S_rmul (a : GF) (f : Nat → GF) (n : Nat) : S n f * a = S n (fun i => f i * a) := by
  rw [mulC, S_mul]; exact S_congr fun i _ => mulC _ _
theorem S_zero {f : Nat → GF} : ∀ {n}, (∀ i, i < n → f i = g0) → S n f = g0
  | 0, _ => rfl
  | n + 1, h => by rw [S, S_zero (fun i hi => h i (by omega)), h n (by omega), add0]
theorem S_comm (f : Nat → Nat → GF) (m : Nat) : ∀ n, S n (fun i => S m (fun j => f i j)) = S m (fun j => S n (fun i => f i j))
  | 0 => (S_zero (f := fun _ => g0) (fun _ _ => rfl)).symm
  | n + 1 => by rw [S, S_comm f m n, ← S_add]; rfl
theorem S_one {f : Nat → GF} {k : Nat} : ∀ {n}, k < n → (∀ i, i < n → i ≠ k → f i = g0) → S n f = f k
  | 0, h, _ => absurd h (by omega)
  | n + 1, h, hz => by
    rw [S]
    by_cases e : k = n
    · subst e; rw [S_zero (fun i hi => hz i (by omega) (by omega)), zadd]
    · rw [S_one (by omega) (fun i hi hne => hz i (by omega) hne), hz n (by omega) (fun q => e q.symm), add0]
/-- the place that place c was, with place j taken out -/
def up (j c : Nat) : Nat := if c < j then c else c + 1
theorem S_skip (f : Nat → GF) {j : Nat} : ∀ {n}, j ≤ n → S n (fun k => f (up j k)) + f j = S (n + 1) f
  | 0, h => by
    obtain rfl : j = 0 := by omega
    rfl
  | n + 1, h => by
    by_cases e : j = n + 1
    · subst e
      have e1 : S (n + 1) (fun k => f (up (n + 1) k)) = S (n + 1) f := S_congr (fun i hi => by unfold up; rw [if_pos hi])
      rw [e1]; rfl
    · rw [S, addA, addC (f (up j n)), ← addA, S_skip f (show j ≤ n by omega), show f (up j n) = f (n + 1) by unfold up; rw [if_neg (by omega)]]
      rfl
theorem S_sym (h : Nat → Nat → GF) (hs : ∀ a b, h a b = h b a) : ∀ m, S m (fun j => S m (fun c => h j c)) = S m (fun j => h j j)
  | 0 => rfl
  | m + 1 => by
    show S m (fun j => S m (fun c => h j c) + h j m) + (S m (fun c => h m c) + h m m) = S m (fun j => h j j) + h m m
    rw [S_add, S_sym h hs m]
    rw [S_congr (f := fun j => h j m) (g := fun c => h m c) (fun j _ => hs j m)]
    rw [addA, ← addA (S m fun c => h m c), addS, zadd]
/-! determinants, by their first row -/
def minor (M : Nat → Nat → GF) (j : Nat) : Nat → Nat → GF := fun r c => M (r + 1) (up j c)
def det : Nat → (Nat → Nat → GF) → GF
  | 0, _ => g1
  | n + 1, M => S (n + 1) (fun j => M 0 j * det n (minor M j))
theorem up_lt {j c n : Nat} (hc : c < n) : up j c < n + 1 := by unfold up; split <;> omega
theorem det_congr : ∀ {n} {M M' : Nat → Nat → GF}, (∀ r, r < n → ∀ c, c < n → M r c = M' r c) → det n M = det n M'
  | 0, _, _, _ => rfl
  | n + 1, M, M', h => by
    rw [det, det]
    exact S_congr fun j hj => by
      rw [h 0 (by omega) j hj]
      exact congrArg _ (det_congr (fun r hr c hc => h (r + 1) (by omega) _ (up_lt hc)))
def upd (M : Nat → Nat → GF) (a : Nat) (v : Nat → GF) : Nat → Nat → GF := fun r c => if r = a then v c else M r c
theorem minor_upd0 (M : Nat → Nat → GF) (v : Nat → GF) (j : Nat) : minor (upd M 0 v) j = minor M j := by
  funext r c; unfold minor upd; rw [if_neg (by omega)]
theorem minor_updS (M : Nat → Nat → GF) (a : Nat) (v : Nat → GF) (j : Nat) : minor (upd M (a + 1) v) j = upd (minor M j) a (fun c => v (up j c)) := by
  funext r c; unfold minor upd
  by_cases e : r = a
  · rw [if_pos (by omega), if_pos e]
  · rw [if_neg (by omega), if_neg e]
theorem upd_self (M : Nat → Nat → GF) (a : Nat) : upd M a (M a) = M := by
  funext r c; unfold upd; split
  · rename_i h; rw [h]
  · rfl
theorem upd0 (M : Nat → Nat → GF) (v : Nat → GF) (c : Nat) : upd M 0 v 0 c = v c := if_pos rfl
theorem updS0 (M : Nat → Nat → GF) (a : Nat) (v : Nat → GF) (c : Nat) : upd M (a + 1) v 0 c = M 0 c := if_neg (by omega)
theorem det_comb (k : GF) (u v : Nat → GF) : ∀ {n} (M : Nat → Nat → GF) {a}, a < n → det n (upd M a (fun c => u c + k * v c)) = det n (upd M a u) + k * det n (upd M a v)
  | 0, _, _, h => absurd h (by omega)
  | n + 1, M, 0, _ => by
    rw [det, det, det, S_mul, ← S_add]
    exact S_congr fun j _ => by rw [minor_upd0, minor_upd0, minor_upd0, upd0, upd0, upd0, Dmul, mulA']
  | n + 1, M, a + 1, h => by
    rw [det, det, det, S_mul, ← S_add]
    exact S_congr fun j _ => by
      rw [minor_updS, minor_updS, minor_updS, updS0, updS0, updS0, det_comb k (fun c => u (up j c)) (fun c => v (up j c)) (minor M j) (by omega), mulD, mulX]
theorem det_scale (k : GF) (v : Nat → GF) {n : Nat} (M : Nat → Nat → GF) {a : Nat} (h : a < n) : det n (upd M a (fun c => k * v c)) = k * det n (upd M a v) := by
  have h1 := det_comb k (fun _ => g0) v M h
  have h0 : det n (upd M a (fun _ => g0)) = g0 := by
    have h3 := det_comb g1 (fun _ => g0) (fun _ => g0) M h
    rw [show (fun _ : Nat => g0 + g1 * g0) = fun _ => g0 from funext fun _ => by rw [mul0, add0], omul, addS] at h3
    exact h3
  rw [h0, zadd] at h1
  rw [← h1]
  exact congrArg _ (congrArg _ (funext fun _ => (zadd _).symm))
def sk (lo hi c : Nat) : Nat := if c < lo then c else if c + 1 < hi then c + 1 else c + 2
theorem up_up (j k c : Nat) : up j (up k c) = sk (min j (up j k)) (max j (up j k)) c := by
  by_cases h1 : k < j
  · have e : up j k = k := if_pos h1
    rw [e, Nat.min_eq_right (by omega), Nat.max_eq_left (by omega)]
    unfold up sk
    by_cases h2 : c < k
    · rw [if_pos h2, if_pos h2, if_pos (by omega)]
    · rw [if_neg h2, if_neg h2]
  · have e : up j k = k + 1 := if_neg h1
    rw [e, Nat.min_eq_left (by omega), Nat.max_eq_right (by omega)]
    unfold up sk
    by_cases h2 : c < k
    · rw [if_pos h2]
      by_cases h3 : c < j
      · rw [if_pos h3, if_pos h3]
      · rw [if_neg h3, if_neg h3, if_pos (by omega)]
    · rw [if_neg h2, if_neg (by omega), if_neg (by omega), if_neg (by omega)]
theorem alt01 (n : Nat) (M : Nat → Nat → GF) (h : ∀ c, c < n + 2 → M 0 c = M 1 c) : det (n + 2) M = g0 := by
  have hh : ∀ j, j < n + 2 → M 0 j * det (n + 1) (minor M j) = S (n + 2) (fun c => M 0 j * (M 0 c * det n (fun r x => M (r + 2) (sk (min j c) (max j c) x)))) + M 0 j * (M 0 j * det n (fun r x => M (r + 2) (sk (min j j) (max j j) x))) := by
    intro j hj
    rw [← S_skip (fun c => M 0 j * (M 0 c * det n (fun r x => M (r + 2) (sk (min j c) (max j c) x)))) (show j ≤ n + 1 by omega), addA, addS, add0, det, S_mul]
    refine S_congr fun k hk => ?_
    have e : minor M j 0 k = M 0 (up j k) := (h _ (up_lt hk)).symm
    rw [e]
    refine congrArg _ (congrArg _ (det_congr fun r _ c _ => ?_))
    show M (r + 1 + 1) (up j (up k c)) = _
    rw [up_up]
  rw [det, S_congr hh, S_add, S_sym _ (fun a b => by rw [mulX, Nat.min_comm, Nat.max_comm]), addS]
def swp (M : Nat → Nat → GF) (a b : Nat) : Nat → Nat → GF := upd (upd M a (M b)) b (M a)
theorem upd_upd (M : Nat → Nat → GF) {a b : Nat} (h : a ≠ b) (u v : Nat → GF) : upd (upd M a u) b v = upd (upd M b v) a u := by
  funext r c; unfold upd
  by_cases e : r = b
  · rw [if_pos e, if_neg (fun q => h (by omega)), if_pos e]
  · rw [if_neg e, if_neg e]
/-- rows that are alike make nothing: so rows that change places change nothing -/
theorem swap_of_alt {n : Nat} (alt : ∀ (M : Nat → Nat → GF) (a b : Nat), a < n → b < n → a ≠ b → (∀ c, c < n → M a c = M b c) → det n M = g0) (M : Nat → Nat → GF) {a b : Nat} (ha : a < n) (hb : b < n) (hne : a ≠ b) : det n (swp M a b) = det n M := by
  have key : ∀ u v : Nat → GF, det n (upd (upd M a (fun c => u c + g1 * v c)) b (fun c => u c + g1 * v c)) = g0 := fun u v =>
    alt _ a b ha hb hne (fun c _ => by unfold upd; rw [if_neg hne, if_pos rfl, if_pos rfl])
  have k2 := key (M a) (M b)
  have z1 : det n (upd (upd M a (M a)) b (M a)) = g0 := alt _ a b ha hb hne (fun c _ => by unfold upd; rw [if_neg hne, if_pos rfl, if_pos rfl])
  have z2 : det n (upd (upd M a (M b)) b (M b)) = g0 := alt _ a b ha hb hne (fun c _ => by unfold upd; rw [if_neg hne, if_pos rfl, if_pos rfl])
  rw [det_comb g1 (M a) (M b) _ hb, omul, upd_upd M hne, upd_upd M hne _ (M b), det_comb g1 (M a) (M b) _ ha, det_comb g1 (M a) (M b) _ ha, omul, omul, ← upd_upd M hne, ← upd_upd M hne, ← upd_upd M hne, ← upd_upd M hne, z1, z2, zadd, add0, upd_self, upd_self] at k2
  have : det n (swp M a b) + det n M + det n M = det n M := by
    show det n (upd (upd M a (M b)) b (M a)) + det n M + det n M = _
    rw [k2, zadd]
  rw [addA, addS, add0] at this
  exact this
theorem det_alt : ∀ (n : Nat) (M : Nat → Nat → GF) (a b : Nat), a < n → b < n → a ≠ b → (∀ c, c < n → M a c = M b c) → det n M = g0
  | 0, _, _, _, h, _, _, _ => absurd h (by omega)
  | 1, _, _, _, h, h', hne, _ => absurd hne (by omega)
  | n + 2, M, a, b, ha, hb, hne, he => by
    have ih := det_alt (n + 1)
    have both : ∀ (M : Nat → Nat → GF) (a b : Nat), a < n + 1 → b < n + 1 → a ≠ b → (∀ c, c < n + 2 → M (a + 1) c = M (b + 1) c) → det (n + 2) M = g0 := fun M a b ha hb hne he => by
      rw [det]
      refine S_zero fun j _ => ?_
      rw [ih (minor M j) a b ha hb hne (fun c hc => he _ (up_lt hc)), mul0]
    have first : ∀ (M : Nat → Nat → GF) (b : Nat), b < n + 1 → (∀ c, c < n + 2 → M 0 c = M (b + 1) c) → det (n + 2) M = g0 := fun M b hb he => by
      by_cases e : b = 0
      · subst e; exact alt01 n M he
      · have hs : det (n + 2) (swp M 1 (b + 1)) = det (n + 2) M := by
          rw [det, det]
          refine S_congr fun j _ => ?_
          have e1 : swp M 1 (b + 1) 0 j = M 0 j := by unfold swp upd; rw [if_neg (by omega), if_neg (by omega)]
          have e2 : minor (swp M 1 (b + 1)) j = swp (minor M j) 0 b := by
            unfold swp
            rw [minor_updS, show (1 : Nat) = 0 + 1 from rfl, minor_updS]; rfl
          rw [e1, e2, swap_of_alt ih (minor M j) (show 0 < n + 1 by omega) hb (fun q => e q.symm)]
        rw [← hs]
        refine alt01 n _ fun c hc => ?_
        have e1 : swp M 1 (b + 1) 0 c = M 0 c := by unfold swp upd; rw [if_neg (by omega), if_neg (by omega)]
        have e2 : swp M 1 (b + 1) 1 c = M (b + 1) c := by unfold swp upd; rw [if_neg (by omega), if_pos rfl]
        rw [e1, e2]; exact he c hc
    match a, b, ha, hb, hne, he with
    | 0, 0, _, _, hne, _ => exact absurd rfl hne
    | 0, b + 1, _, hb, _, he => exact first M b (by omega) he
    | a + 1, 0, ha, _, _, he => exact first M a (by omega) (fun c hc => (he c hc).symm)
    | a + 1, b + 1, ha, hb, hne, he => exact both M a b (by omega) (by omega) (by omega) he
theorem det_swap {n : Nat} (M : Nat → Nat → GF) {a b : Nat} (ha : a < n) (hb : b < n) : det n (swp M a b) = det n M := by
  by_cases e : a = b
  · subst e
    unfold swp; rw [upd_self, upd_self]
  · exact swap_of_alt (det_alt n) M ha hb e
/-- a row that has another one's multiple added -/
theorem det_add {n : Nat} (M : Nat → Nat → GF) {a b : Nat} (k : GF) (ha : a < n) (hb : b < n) (hne : a ≠ b) : det n (upd M a (fun c => M a c + k * M b c)) = det n M := by
  rw [det_comb k (M a) (M b) M ha, upd_self, det_alt n (upd M a (M b)) a b ha hb hne (fun c _ => by unfold upd; rw [if_pos rfl, if_neg (fun q => hne q.symm)]), mul0, add0]
def eye : Nat → Nat → GF := fun r c => if r = c then g1 else g0
theorem det_eye : ∀ n, det n eye = g1
  | 0 => rfl
  | n + 1 => by
    rw [det, S_one (k := 0) (by omega) (fun i _ hne => by rw [show eye 0 i = g0 from if_neg (fun q => hne q.symm), zmul]), show eye 0 0 = g1 from if_pos rfl, omul, ← det_eye n]
    refine det_congr fun r _ c _ => ?_
    show eye (r + 1) (up 0 c) = eye r c
    rw [show up 0 c = c + 1 from if_neg (by omega)]
    unfold eye
    by_cases e : r = c
    · rw [if_pos e, if_pos (by omega)]
    · rw [if_neg e, if_neg (by omega)]
/-- where too many rows have nothing at the first places -/
theorem det_bare : ∀ (n q : Nat) (M : Nat → Nat → GF), q < n → (∀ r, q ≤ r → r < n → ∀ c, c ≤ q → M r c = g0) → det n M = g0
  | 0, _, _, h, _ => absurd h (by omega)
  | n + 1, 0, M, _, hz => by
    rw [det]
    refine S_zero fun j hj => ?_
    by_cases e : j = 0
    · subst e; rw [hz 0 (by omega) (by omega) 0 (by omega), zmul]
    · rw [det_bare n 0 (minor M j) (by omega) (fun r _ hr c hc => by
        show M (r + 1) (up j c) = g0
        exact hz (r + 1) (by omega) (by omega) _ (by unfold up; rw [if_pos (by omega)]; exact hc)), mul0]
  | n + 1, q + 1, M, h, hz => by
    rw [det]
    refine S_zero fun j hj => ?_
    rw [det_bare n q (minor M j) (by omega) (fun r hr hr' c hc => by
      show M (r + 1) (up j c) = g0
      exact hz (r + 1) (by omega) (by omega) _ (by unfold up; split <;> omega)), mul0]
end GfLin
