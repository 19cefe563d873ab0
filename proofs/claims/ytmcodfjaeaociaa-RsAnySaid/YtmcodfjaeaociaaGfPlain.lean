/- Bytes that are multiplied, as plain numbers: no program is named here. -/
namespace GfPlain
def dbl (a : Nat) : Nat := if a / 128 % 2 = 1 then a * 2 % 256 ^^^ 29 else a * 2 % 256
def mulA (a : Nat) : Nat → Nat
  | 0 => a
  | i + 1 => dbl (mulA a i)
def mulP (a b : Nat) : Nat → Nat
  | 0 => 0
  | i + 1 => if b / 2 ^ i % 2 = 1 then mulP a b i ^^^ mulA a i else mulP a b i
def mul (a b : Nat) : Nat := mulP a b 8
def clm (a b : Nat) : Nat → Nat
  | 0 => 0
  | i + 1 => if b / 2 ^ i % 2 = 1 then clm a b i ^^^ a * 2 ^ i else clm a b i
def red (v : Nat) : Nat → Nat
  | 0 => v
  | j + 1 => if red v j / 2 ^ (14 - j) % 2 = 1 then red v j ^^^ 285 * 2 ^ (6 - j) else red v j
def rmul (a b : Nat) : Nat := red (clm a b 8) 7 % 256
def allLt (p : Nat → Bool) : Nat → Bool
  | 0 => true
  | n + 1 => p n && allLt p n
theorem allLt_spec {p : Nat → Bool} : ∀ {n : Nat}, allLt p n = true → ∀ k, k < n → p k = true
  | n + 1, h, k, hk => by
    simp only [allLt, Bool.and_eq_true] at h
    by_cases e : k = n
    · rw [e]; exact h.1
    · exact allLt_spec h.2 k (by omega)

/-! xor: bit i of x, and a sum under a bit -/
abbrev bt (x i : Nat) : Prop := x / 2 ^ i % 2 = 1
theorem bt_iff (x i : Nat) : bt x i ↔ x.testBit i = true := by
  unfold bt; rw [Nat.testBit_eq_decide_div_mod_eq]; simp
/-- p, with q besides where c holds. -/
def on (c : Prop) [Decidable c] (p q : Nat) : Nat := if c then p ^^^ q else p
theorem xor4 (a b c d : Nat) : (a ^^^ b) ^^^ (c ^^^ d) = (a ^^^ c) ^^^ (b ^^^ d) := by
  rw [Nat.xor_assoc, Nat.xor_assoc, ← Nat.xor_assoc b c d, Nat.xor_comm b c, Nat.xor_assoc c b d]
theorem on_lin (x y i p p' q : Nat) : on (bt (x ^^^ y) i) (p ^^^ p') q ^^^ 0 = on (bt x i) p q ^^^ on (bt y i) p' q := by
  unfold on
  simp only [bt_iff, Nat.testBit_xor, Nat.xor_zero]
  cases x.testBit i <;> cases y.testBit i <;> simp
  · rw [Nat.xor_assoc]
  · rw [Nat.xor_assoc, Nat.xor_comm p' q, Nat.xor_assoc]
  · rw [xor4, Nat.xor_self, Nat.xor_zero]
theorem on_lin2 (c : Prop) [Decidable c] (p p' q q' : Nat) : on c (p ^^^ p') (q ^^^ q') = on c p q ^^^ on c p' q' := by
  unfold on; split
  · exact xor4 _ _ _ _
  · rfl
theorem mul2_xor (x y i : Nat) : (x ^^^ y) * 2 ^ i = x * 2 ^ i ^^^ y * 2 ^ i := by
  rw [← Nat.shiftLeft_eq, ← Nat.shiftLeft_eq, ← Nat.shiftLeft_eq, Nat.shiftLeft_xor_distrib]
theorem dbl_lin (x y : Nat) : dbl (x ^^^ y) = dbl x ^^^ dbl y := by
  have h := on_lin x y 7 (x * 2 % 256) (y * 2 % 256) 29
  have e : (x ^^^ y) * 2 % 256 = (x * 2 % 256) ^^^ (y * 2 % 256) := by
    have := mul2_xor x y 1; simp only [Nat.pow_one] at this; rw [this]; exact Nat.xor_mod_two_pow (n := 8)
  rw [← e, Nat.xor_zero] at h; exact h
theorem dbl_lt (x : Nat) : dbl x < 256 := by
  unfold dbl; split
  · exact Nat.xor_lt_two_pow (n := 8) (by omega) (by omega)
  · omega
theorem mulA_lin (x y : Nat) : ∀ i, mulA (x ^^^ y) i = mulA x i ^^^ mulA y i
  | 0 => rfl
  | i + 1 => by simp only [mulA, mulA_lin x y i, dbl_lin]
theorem mulA_lt (x : Nat) (h : x < 256) : ∀ i, mulA x i < 256
  | 0 => h
  | _ + 1 => dbl_lt _
theorem mulP_lt (x y : Nat) (h : x < 256) : ∀ i, mulP x y i < 256
  | 0 => by simp [mulP]
  | i + 1 => by
    have h1 := mulP_lt x y h i; have h2 := mulA_lt x h i
    simp only [mulP]; split
    · exact Nat.xor_lt_two_pow (n := 8) h1 h2
    · exact h1
theorem mul_lt (x y : Nat) (h : x < 256) : mul x y < 256 := mulP_lt x y h 8
theorem mulP_on (x y i : Nat) : mulP x y (i + 1) = on (bt y i) (mulP x y i) (mulA x i) := rfl
theorem mulP_linl (x y b : Nat) : ∀ i, mulP (x ^^^ y) b i = mulP x b i ^^^ mulP y b i
  | 0 => by simp [mulP]
  | i + 1 => by simp only [mulP_on, mulP_linl x y b i, mulA_lin, on_lin2]
theorem mulP_linr (a x y : Nat) : ∀ i, mulP a (x ^^^ y) i = mulP a x i ^^^ mulP a y i
  | 0 => by simp [mulP]
  | i + 1 => by
    have h := on_lin x y i (mulP a x i) (mulP a y i) (mulA a i)
    rw [Nat.xor_zero] at h
    simp only [mulP_on, mulP_linr a x y i, h]
theorem mul_linl (x y b : Nat) : mul (x ^^^ y) b = mul x b ^^^ mul y b := mulP_linl x y b 8
theorem mul_linr (a x y : Nat) : mul a (x ^^^ y) = mul a x ^^^ mul a y := mulP_linr a x y 8
theorem clm_on (x y i : Nat) : clm x y (i + 1) = on (bt y i) (clm x y i) (x * 2 ^ i) := rfl
theorem clm_linl (x y b : Nat) : ∀ i, clm (x ^^^ y) b i = clm x b i ^^^ clm y b i
  | 0 => by simp [clm]
  | i + 1 => by simp only [clm_on, clm_linl x y b i, mul2_xor, on_lin2]
theorem clm_linr (a x y : Nat) : ∀ i, clm a (x ^^^ y) i = clm a x i ^^^ clm a y i
  | 0 => by simp [clm]
  | i + 1 => by
    have h := on_lin x y i (clm a x i) (clm a y i) (a * 2 ^ i)
    rw [Nat.xor_zero] at h
    simp only [clm_on, clm_linr a x y i, h]
theorem red_on (v j : Nat) : red v (j + 1) = on (bt (red v j) (14 - j)) (red v j) (285 * 2 ^ (6 - j)) := rfl
theorem red_lin (x y : Nat) : ∀ i, red (x ^^^ y) i = red x i ^^^ red y i
  | 0 => rfl
  | j + 1 => by
    have h := on_lin (red x j) (red y j) (14 - j) (red x j) (red y j) (285 * 2 ^ (6 - j))
    rw [Nat.xor_zero] at h
    simp only [red_on, red_lin x y j, h]
theorem rmul_linl (x y b : Nat) : rmul (x ^^^ y) b = rmul x b ^^^ rmul y b := by
  unfold rmul; rw [clm_linl, red_lin]; exact Nat.xor_mod_two_pow (n := 8)
theorem rmul_linr (a x y : Nat) : rmul a (x ^^^ y) = rmul a x ^^^ rmul a y := by
  unfold rmul; rw [clm_linr, red_lin]; exact Nat.xor_mod_two_pow (n := 8)
theorem rmul_lt (x y : Nat) : rmul x y < 256 := by unfold rmul; omega

theorem clm_lt (a b : Nat) (ha : a < 256) : ∀ i, i ≤ 8 → clm a b i < 65536
  | 0, _ => by simp [clm]
  | i + 1, h => by
    have h1 := clm_lt a b ha i (by omega)
    have h2 : 2 ^ i ≤ 2 ^ 7 := Nat.pow_le_pow_right (by decide) (by omega)
    have h3 : a * 2 ^ i ≤ 255 * 2 ^ 7 := Nat.mul_le_mul (by omega) h2
    simp only [clm]; split
    · exact Nat.xor_lt_two_pow (n := 16) h1 (by omega)
    · exact h1
theorem red_lt (v : Nat) (hv : v < 65536) : ∀ j, red v j < 65536
  | 0 => by simpa [red] using hv
  | j + 1 => by
    have h1 := red_lt v hv j
    have h2 : 2 ^ (6 - j) ≤ 2 ^ 6 := Nat.pow_le_pow_right (by decide) (by omega)
    have h3 : 285 * 2 ^ (6 - j) ≤ 285 * 2 ^ 6 := Nat.mul_le_mul (by omega) h2
    simp only [red]; split
    · exact Nat.xor_lt_two_pow (n := 16) h1 (by omega)
    · exact h1
/-! What is linear, and the same at 1, 2, 4, .. 128, is the same. -/
theorem split_all : allLt (fun x => Nat.beq x 0 || (Nat.beq (2 ^ Nat.log2 x ^^^ (x - 2 ^ Nat.log2 x)) x && Nat.blt (x - 2 ^ Nat.log2 x) x && Nat.blt (Nat.log2 x) 8)) 256 = true := by decide +kernel
theorem lin_zero (f : Nat → Nat) (hf : ∀ x y, f (x ^^^ y) = f x ^^^ f y) : f 0 = 0 := by
  have := hf 0 0; simp at this; exact this
theorem lin_ext (f g : Nat → Nat) (hf : ∀ x y, f (x ^^^ y) = f x ^^^ f y) (hg : ∀ x y, g (x ^^^ y) = g x ^^^ g y)
    (h : ∀ i, i < 8 → f (2 ^ i) = g (2 ^ i)) (x : Nat) (hx : x < 256) : f x = g x := by
  induction x using Nat.strongRecOn with
  | ind x ih =>
    have s := allLt_spec split_all x hx
    simp only [Bool.or_eq_true, Bool.and_eq_true] at s
    rcases s with s | ⟨⟨s1, s2⟩, s3⟩
    · have := Nat.eq_of_beq_eq_true s; subst this; rw [lin_zero f hf, lin_zero g hg]
    · have e := Nat.eq_of_beq_eq_true s1
      have l : x - 2 ^ Nat.log2 x < x := Nat.le_of_ble_eq_true s2
      have l3 : Nat.log2 x < 8 := Nat.le_of_ble_eq_true s3
      rw [← e, hf, hg, h _ (by omega), ih _ (by omega) (by omega)]
theorem basis2 : allLt (fun i => allLt (fun j => Nat.beq (mul (2 ^ i) (2 ^ j)) (rmul (2 ^ i) (2 ^ j)) && Nat.beq (mul (2 ^ i) (2 ^ j)) (mul (2 ^ j) (2 ^ i))) 8) 8 = true := by decide +kernel
theorem basis3 : allLt (fun i => allLt (fun j => allLt (fun k => Nat.beq (mul (2 ^ i) (mul (2 ^ j) (2 ^ k))) (mul (mul (2 ^ i) (2 ^ j)) (2 ^ k))) 8) 8) 8 = true := by decide +kernel
theorem basis1 : allLt (fun i => Nat.beq (mul (2 ^ i) 1) (2 ^ i)) 8 = true := by decide +kernel
theorem mul_rmul (a b : Nat) (ha : a < 256) (hb : b < 256) : mul a b = rmul a b :=
  lin_ext (mul a) (rmul a) (mul_linr a) (rmul_linr a) (fun j hj =>
    lin_ext (fun a => mul a (2 ^ j)) (fun a => rmul a (2 ^ j)) (fun x y => mul_linl x y _) (fun x y => rmul_linl x y _) (fun i hi => by
      have := allLt_spec (allLt_spec basis2 i hi) j hj
      simp only [Bool.and_eq_true] at this
      exact Nat.eq_of_beq_eq_true this.1) a ha) b hb
theorem mul_comm (a b : Nat) (ha : a < 256) (hb : b < 256) : mul a b = mul b a :=
  lin_ext (mul a) (fun b => mul b a) (mul_linr a) (fun x y => mul_linl x y a) (fun j hj =>
    lin_ext (fun a => mul a (2 ^ j)) (mul (2 ^ j)) (fun x y => mul_linl x y _) (mul_linr _) (fun i hi => by
      have := allLt_spec (allLt_spec basis2 i hi) j hj
      simp only [Bool.and_eq_true] at this
      exact Nat.eq_of_beq_eq_true this.2) a ha) b hb
theorem mul_assoc (a b c : Nat) (ha : a < 256) (hb : b < 256) (hc : c < 256) : mul a (mul b c) = mul (mul a b) c :=
  lin_ext (fun c => mul a (mul b c)) (fun c => mul (mul a b) c) (fun x y => by rw [mul_linr, mul_linr]) (mul_linr _) (fun k hk =>
    lin_ext (fun b => mul a (mul b (2 ^ k))) (fun b => mul (mul a b) (2 ^ k)) (fun x y => by rw [mul_linl, mul_linr]) (fun x y => by rw [mul_linr, mul_linl]) (fun j hj =>
      lin_ext (fun a => mul a (mul (2 ^ j) (2 ^ k))) (fun a => mul (mul a (2 ^ j)) (2 ^ k)) (fun x y => by rw [mul_linl]) (fun x y => by rw [mul_linl, mul_linl]) (fun i hi =>
        Nat.eq_of_beq_eq_true (allLt_spec (allLt_spec (allLt_spec basis3 i hi) j hj) k hk)) a ha) b hb) c hc
theorem mul_one (a : Nat) (ha : a < 256) : mul a 1 = a :=
  lin_ext (fun a => mul a 1) (fun a => a) (fun x y => mul_linl x y 1) (fun _ _ => rfl) (fun i hi => Nat.eq_of_beq_eq_true (allLt_spec basis1 i hi)) a ha
theorem one_mul (a : Nat) (ha : a < 256) : mul 1 a = a := by rw [mul_comm 1 a (by decide) ha, mul_one a ha]
theorem zero_mul (b : Nat) : mul 0 b = 0 := lin_zero (fun a => mul a b) (fun x y => mul_linl x y b)
theorem mul_zero (a : Nat) : mul a 0 = 0 := lin_zero (mul a) (mul_linr a)

/-! Powers -/
def npow (a : Nat) : Nat → Nat
  | 0 => 1
  | n + 1 => mul (npow a n) a
theorem npow_lt (a : Nat) : ∀ n, npow a n < 256
  | 0 => by simp [npow]
  | n + 1 => mul_lt _ _ (npow_lt a n)
theorem npow_add (a : Nat) (ha : a < 256) (m : Nat) : ∀ k, npow a (m + k) = mul (npow a m) (npow a k)
  | 0 => by rw [show npow a 0 = 1 from rfl, mul_one _ (npow_lt a m)]; rfl
  | k + 1 => by
    rw [← Nat.add_assoc]; simp only [npow]
    rw [npow_add a ha m k, mul_assoc _ _ _ (npow_lt a m) (npow_lt a k) ha]
theorem npow_one (a : Nat) (ha : a < 256) : npow a 1 = a := one_mul a ha
theorem npow_zero (n : Nat) (h : 0 < n) : npow 0 n = 0 := by
  cases n with
  | zero => omega
  | succ n => exact mul_zero _
/-- by squaring: the squares, and the product so far -/
theorem sq_step (a : Nat) (ha : a < 256) (i : Nat) : mul (npow a (2 ^ i)) (npow a (2 ^ i)) = npow a (2 ^ (i + 1)) := by
  rw [← npow_add a ha, Nat.pow_succ, Nat.mul_two]
theorem mod_step1 (n i : Nat) (h : n / 2 ^ i % 2 = 1) : n % 2 ^ (i + 1) = n % 2 ^ i + 2 ^ i := by
  rw [Nat.mod_pow_succ, h, Nat.mul_one]
theorem mod_step0 (n i : Nat) (h : ¬ n / 2 ^ i % 2 = 1) : n % 2 ^ (i + 1) = n % 2 ^ i := by
  rw [Nat.mod_pow_succ, show n / 2 ^ i % 2 = 0 by omega, Nat.mul_zero, Nat.add_zero]
theorem pow_step (a : Nat) (ha : a < 256) (n i : Nat) (h : n / 2 ^ i % 2 = 1) : mul (npow a (n % 2 ^ i)) (npow a (2 ^ i)) = npow a (n % 2 ^ (i + 1)) := by
  rw [mod_step1 n i h, npow_add a ha]
/-- 255 times -/
def sqs (a : Nat) : Nat → Nat
  | 0 => a
  | i + 1 => mul (sqs a i) (sqs a i)
theorem sqs_eq (a : Nat) (ha : a < 256) : ∀ i, sqs a i = npow a (2 ^ i)
  | 0 => (npow_one a ha).symm
  | i + 1 => by rw [← sq_step a ha, ← sqs_eq a ha i]; rfl
theorem round_all : allLt (fun a => Nat.beq (sqs a 8) a) 256 = true := by decide +kernel
def ps (a : Nat) : Nat → Nat
  | 0 => 1
  | i + 1 => mul (ps a i) (sqs a i)
theorem ps_eq (a : Nat) (ha : a < 256) : ∀ i, ps a i = npow a (2 ^ i - 1)
  | 0 => rfl
  | i + 1 => by
    simp only [ps]
    rw [ps_eq a ha i, sqs_eq a ha i, ← npow_add a ha]
    have := Nat.two_pow_pos i
    rw [Nat.pow_succ]; congr 1; omega
theorem ps_all : allLt (fun a => Nat.beq a 0 || Nat.beq (ps a 8) 1) 256 = true := by decide +kernel
theorem npow_255 (a : Nat) (ha : a < 256) (h0 : a ≠ 0) : npow a 255 = 1 := by
  have := allLt_spec ps_all a ha
  simp only [Bool.or_eq_true] at this
  rcases this with h | h
  · exact absurd (Nat.eq_of_beq_eq_true h) h0
  · have e := Nat.eq_of_beq_eq_true h; rw [ps_eq a ha 8] at e; exact e
theorem npow_255_mul (a : Nat) (ha : a < 256) (h0 : a ≠ 0) : ∀ k, npow a (255 * k) = 1
  | 0 => rfl
  | k + 1 => by rw [Nat.mul_succ, npow_add a ha, npow_255_mul a ha h0 k, npow_255 a ha h0]; exact mul_one 1 (by decide)
theorem npow_mod (a n : Nat) (ha : a < 256) (h0 : a ≠ 0) : npow a n = npow a (n % 255) := by
  have e : n = n % 255 + 255 * (n / 255) := by omega
  have := npow_add a ha (n % 255) (255 * (n / 255))
  rw [← e, npow_255_mul a ha h0, mul_one _ (npow_lt a _)] at this
  exact this
def inv (a : Nat) : Nat := npow a 254
theorem inv_lt (a : Nat) : inv a < 256 := npow_lt a 254
theorem mul_inv (a : Nat) (ha : a < 256) (h0 : a ≠ 0) : mul a (inv a) = 1 := by
  rw [mul_comm a _ ha (inv_lt a)]; exact npow_255 a ha h0
theorem inv_zero : inv 0 = 0 := npow_zero 254 (by decide)
theorem mul_cancel (a b c : Nat) (ha : a < 256) (h0 : a ≠ 0) (hb : b < 256) (hc : c < 256) (h : mul a b = mul a c) : b = c := by
  have e : mul (inv a) (mul a b) = mul (inv a) (mul a c) := by rw [h]
  rw [mul_assoc _ _ _ (inv_lt a) ha hb, mul_assoc _ _ _ (inv_lt a) ha hc, mul_comm (inv a) a (inv_lt a) ha, mul_inv a ha h0, one_mul b hb, one_mul c hc] at e
  exact e
theorem inv_unique (a b : Nat) (ha : a < 256) (hb : b < 256) (h : mul a b = 1) : b = inv a := by
  have h0 : a ≠ 0 := by intro e; subst e; rw [zero_mul] at h; exact absurd h (by decide)
  exact mul_cancel a b (inv a) ha h0 hb (inv_lt a) (by rw [h, mul_inv a ha h0])
/-! the search: the first i with a product 1 is the inverse; of 0 there is none -/
theorem search_hit (a i : Nat) (ha : a < 256) (hi : i < 256) (h : rmul a i = 1) : i = inv a :=
  inv_unique a i ha hi (by rw [mul_rmul a i ha hi]; exact h)
theorem search_miss (a : Nat) (ha : a < 256) (h : ∀ i, i < 256 → ¬ rmul a i = 1) : inv a = 0 := by
  by_cases h0 : a = 0
  · subst h0; exact inv_zero
  · exact absurd (by rw [← mul_rmul a _ ha (inv_lt a)]; exact mul_inv a ha h0) (h (inv a) (inv_lt a))
/-! 2 -/
theorem two_inj (m : Nat) (h1 : 0 < m) (h2 : m < 255) : npow 2 m ≠ 1 := by
  have d : allLt (fun m => Nat.beq m 0 || !Nat.beq (npow 2 m) 1) 255 = true := by decide +kernel
  have := allLt_spec d m h2
  simp only [Bool.or_eq_true, Bool.not_eq_true'] at this
  rcases this with h | h
  · have := Nat.eq_of_beq_eq_true h; omega
  · intro e; rw [e] at h; exact absurd h (by decide)
theorem npow_ne (a : Nat) (ha : a < 256) (h0 : a ≠ 0) (n : Nat) : npow a n ≠ 0 := by
  intro e
  have h : npow a (n + (255 * n + 255 - n - n % 255 + n % 255 - 255 * 0)) = 0 := by rw [npow_add a ha, e, zero_mul]
  have h2 : n + (255 * n + 255 - n - n % 255 + n % 255 - 255 * 0) = 255 * (n + 1) := by omega
  rw [h2, npow_255_mul a ha h0] at h
  exact absurd h (by decide)
theorem two_ne (i j : Nat) (hij : i < j) (hj : j < 255) : npow 2 i ≠ npow 2 j := by
  intro e
  have h : npow 2 j = mul (npow 2 i) (npow 2 (j - i)) := by rw [← npow_add 2 (by decide)]; congr 1; omega
  rw [← e] at h
  have := mul_cancel (npow 2 i) 1 (npow 2 (j - i)) (npow_lt 2 i) (npow_ne 2 (by decide) (by decide) i) (by decide) (npow_lt 2 _) (by rw [mul_one _ (npow_lt 2 i)]; exact h)
  exact two_inj (j - i) (by omega) (by omega) this.symm
/-! The same over integers -/
def idbl (a : Int) : Int := (dbl a.toNat : Nat)
def gmul (a b : Int) : Int := (mul a.toNat b.toNat : Nat)
def grmul (a b : Int) : Int := (rmul a.toNat b.toNat : Nat)
def gpow (a : Int) (n : Nat) : Int := (npow a.toNat n : Nat)
def ginv (a : Int) : Int := (inv a.toNat : Nat)
theorem idbl_bd (a : Int) : 0 ≤ idbl a ∧ idbl a ≤ 255 := by unfold idbl; have := dbl_lt a.toNat; omega
theorem gmul_bd (a b : Int) (h : a ≤ 255) : 0 ≤ gmul a b ∧ gmul a b ≤ 255 := by unfold gmul; have := mul_lt a.toNat b.toNat (by omega); omega
theorem gpow_bd (a : Int) (n : Nat) : 0 ≤ gpow a n ∧ gpow a n ≤ 255 := by unfold gpow; have := npow_lt a.toNat n; omega
theorem ginv_bd (a : Int) : 0 ≤ ginv a ∧ ginv a ≤ 255 := by unfold ginv; have := inv_lt a.toNat; omega
end GfPlain
