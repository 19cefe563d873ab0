/- Records as bytes, plain: no bytes are those of two records, nor the beginning of another record's. No program is named here. -/
import Derived.Test.YtlgdchflegflkaaRecMath
namespace RecM
open Go Go.Mem
theorem numB_snoc (v n : Nat) : Sha.numB v (n + 1) = Sha.numB (v / 256) n ++ [v % 256] := by
  unfold Sha.numB
  rw [List.range_succ, List.map_append]
  congr 1
  · refine List.map_congr_left fun i hi => ?_
    have hi' : i < n := List.mem_range.1 hi
    rw [Nat.div_div_eq_div_mul, show n + 1 - 1 - i = (n - 1 - i) + 1 by omega, Nat.pow_succ, Nat.mul_comm]
  · simp
theorem numB_inj : ∀ {n v u : Nat}, v < 256 ^ n → u < 256 ^ n → Sha.numB v n = Sha.numB u n → v = u
  | 0, v, u, hv, hu, _ => by simp at hv hu; omega
  | n + 1, v, u, hv, hu, h => by
    rw [numB_snoc, numB_snoc] at h
    obtain ⟨h1, h2⟩ := List.append_inj h (by simp [Sha.numB_len])
    have h3 : v % 256 = u % 256 := by simpa using h2
    have h4 : v / 256 = u / 256 := numB_inj (by rw [Nat.pow_succ] at hv; omega) (by rw [Nat.pow_succ] at hu; omega) h1
    omega
/-- of what E writes the front of no other is -/
def Code {α : Type} (ok : α → Prop) (E : α → List Nat) : Prop := ∀ a b x y, ok a → ok b → E a ++ x = E b ++ y → a = b ∧ x = y
theorem code_nat (n : Nat) : Code (fun v : Nat => v < 256 ^ n) (fun v => Sha.numB v n) := by
  intro a b x y ha hb h
  obtain ⟨h1, h2⟩ := List.append_inj h (by simp [Sha.numB_len])
  exact ⟨numB_inj ha hb h1, h2⟩
theorem code_num : Code okNum numE := by
  intro a b x y ha hb h
  have h256 : (256 : Nat) ^ 4 = 4294967296 := rfl
  unfold okNum at ha hb
  obtain ⟨h1, h2⟩ := code_nat 4 a.toNat b.toNat x y (by show a.toNat < 256 ^ 4; rw [h256]; omega) (by show b.toNat < 256 ^ 4; rw [h256]; omega) h
  exact ⟨by omega, h2⟩
theorem strB_inj {s t : ByteArray} (h : strB s = strB t) : s = t := by
  unfold strB at h
  have h1 : s.data.toList = t.data.toList := by
    apply List.ext_getElem (by simpa using congrArg List.length h)
    intro i h1 h2
    have h3 := List.getElem_of_eq h (i := i) (by simpa using h1)
    simp only [List.getElem_map] at h3
    exact UInt8.toNat_inj.1 h3
  cases s; cases t
  simp only [ByteArray.mk.injEq]
  exact Array.toList_inj.1 h1
theorem code_key : Code (fun s : ByteArray => s.size ≤ 16) keyE := by
  intro a b x y ha hb h
  unfold keyE at h
  rw [List.append_assoc, List.append_assoc] at h
  have ha' : a.size ≤ 16 := ha
  have hb' : b.size ≤ 16 := hb
  obtain ⟨h1, h2⟩ := code_nat 1 a.size b.size _ _ (by show a.size < 256 ^ 1; omega) (by show b.size < 256 ^ 1; omega) h
  obtain ⟨h3, h4⟩ := List.append_inj h2 (by rw [strB_len, strB_len, h1])
  exact ⟨strB_inj h3, h4⟩
theorem code_flat {α : Type} {ok : α → Prop} {E : α → List Nat} (h : Code ok E) : ∀ (l m : List α) (x y : List Nat), l.length = m.length → (∀ a ∈ l, ok a) → (∀ a ∈ m, ok a) → l.flatMap E ++ x = m.flatMap E ++ y → l = m ∧ x = y
  | [], [], x, y, _, _, _, q => ⟨rfl, by simpa using q⟩
  | [], _ :: _, _, _, q, _, _, _ => by simp at q
  | _ :: _, [], _, _, q, _, _, _ => by simp at q
  | a :: l, b :: m, x, y, hl, ha, hb, q => by
    simp only [List.flatMap_cons, List.append_assoc] at q
    obtain ⟨h1, h2⟩ := h a b _ _ (ha a (by simp)) (hb b (by simp)) q
    obtain ⟨h3, h4⟩ := code_flat h l m x y (by simpa using hl) (fun c hc => ha c (by simp [hc])) (fun c hc => hb c (by simp [hc])) h2
    exact ⟨by rw [h1, h3], h4⟩
theorem code_list {α : Type} {ok : α → Prop} {E : α → List Nat} (h : Code ok E) (n most : Nat) (hm : most < 256 ^ n) :
    Code (fun l : List α => (0 ≤ ((l.length : Nat) : Int) ∧ ((l.length : Nat) : Int) ≤ (most : Int)) ∧ ∀ a ∈ l, ok a) (fun l => Sha.numB ((l.length : Nat) : Int).toNat n ++ l.flatMap E) := by
  intro l m x y hl hk q
  obtain ⟨⟨_, l2⟩, l3⟩ := hl
  obtain ⟨⟨_, m2⟩, m3⟩ := hk
  simp only [List.append_assoc, Int.toNat_natCast] at q
  obtain ⟨h1, h2⟩ := code_nat n l.length m.length _ _ (by show l.length < 256 ^ n; omega) (by show m.length < 256 ^ n; omega) q
  exact code_flat h l m x y h1 l3 m3 h2
theorem code_ints : Code okInts intsE := code_list code_num 1 255 (by decide)
theorem code_stp : Code okStp stpE := by
  intro a b x y ha hb h
  unfold stpE at h
  simp only [List.append_assoc] at h
  obtain ⟨h1, h2⟩ := code_num _ _ _ _ ha.1.1 hb.1.1 h
  obtain ⟨h3, h4⟩ := code_num _ _ _ _ ha.1.2 hb.1.2 h2
  obtain ⟨h5, h6⟩ := code_ints _ _ _ _ ha.2 hb.2 h4
  obtain ⟨a1, a2, a3⟩ := a
  obtain ⟨b1, b2, b3⟩ := b
  simp only at h1 h3 h5
  exact ⟨by rw [h1, h3, h5], h6⟩
theorem code_stps : Code okStps stpsE := code_list code_stp 1 255 (by decide)
theorem code_obj : Code okObj objE := by
  intro a b x y ha hb h
  unfold objE at h
  simp only [List.append_assoc] at h
  obtain ⟨h1, h2⟩ := code_key _ _ _ _ ha.1.1.1 hb.1.1.1 h
  obtain ⟨h3, h4⟩ := code_num _ _ _ _ ha.1.1.2 hb.1.1.2 h2
  obtain ⟨h5, h6⟩ := code_num _ _ _ _ ha.1.2 hb.1.2 h4
  obtain ⟨h7, h8⟩ := code_stps _ _ _ _ ha.2 hb.2 h6
  obtain ⟨a1, a2, a3, a4⟩ := a
  obtain ⟨b1, b2, b3, b4⟩ := b
  simp only at h1 h3 h5 h7
  exact ⟨by rw [h1, h3, h5, h7], h8⟩
theorem code_objs : Code okObjs objsE := code_list code_obj 2 65535 (by decide)
theorem code_rec : Code okRec recE := by
  intro a b x y ha hb h
  unfold recE headE at h
  simp only [List.append_assoc] at h
  obtain ⟨⟨⟨⟨⟨⟨ha1, ha1'⟩, ha2⟩, ha3⟩, ha4⟩, ha5⟩, ha6⟩ := ha.1
  obtain ⟨⟨⟨⟨⟨⟨hb1, hb1'⟩, hb2⟩, hb3⟩, hb4⟩, hb5⟩, hb6⟩ := hb.1
  obtain ⟨h1, h2⟩ := code_nat 1 _ _ _ _ (by show a.kind.toNat < 256 ^ 1; omega) (by show b.kind.toNat < 256 ^ 1; omega) h
  obtain ⟨h3, h4⟩ := code_num _ _ _ _ ha2 hb2 h2
  obtain ⟨h5, h6⟩ := code_num _ _ _ _ ha3 hb3 h4
  obtain ⟨h7, h8⟩ := code_key _ _ _ _ ha4 hb4 h6
  obtain ⟨h9, h10⟩ := code_stps _ _ _ _ ha5 hb5 h8
  obtain ⟨h11, h12⟩ := code_objs _ _ _ _ ha6 hb6 h10
  obtain ⟨h13, h14⟩ := code_ints _ _ _ _ ha.2 hb.2 h12
  have h1' : a.kind = b.kind := by omega
  obtain ⟨a1, a2, a3, a4, a5, a6, a7⟩ := a
  obtain ⟨b1, b2, b3, b4, b5, b6, b7⟩ := b
  simp only at h1' h3 h5 h7 h9 h11 h13
  exact ⟨by rw [h1', h3, h5, h7, h9, h11, h13], h14⟩
/-- bytes are a record's -/
def IsRec (l : List Nat) (r : RecD) : Prop := Fits r ∧ recE r = l ∧ l.length ≤ 8192
theorem isRec_one {l : List Nat} {r q : RecD} (h : IsRec l r) (k : IsRec l q) : r = q :=
  (code_rec r q [] [] h.1.2 k.1.2 (by rw [h.2.1, k.2.1])).1
theorem isRec_enc {r : RecD} (h : encE r = 0) : IsRec (encB r) r := by
  have h1 := encE_zero.1 h
  rw [encB_ok h]
  exact ⟨h1.1, rfl, h1.2⟩
theorem isRec_back {l : List Nat} {r : RecD} (h : IsRec l r) : encE r = 0 ∧ encB r = l := by
  have h1 : encE r = 0 := encE_zero.2 ⟨h.1, by rw [h.2.1]; exact h.2.2⟩
  exact ⟨h1, by rw [encB_ok h1]; exact h.2.1⟩
theorem isRec_cut {l : List Nat} {r : RecD} (h : IsRec l r) {k : Nat} (hk : k < l.length) : ∀ q, ¬ IsRec (l.take k) q := by
  intro q hq
  have := (code_rec q r (l.drop k) [] hq.1.2 h.1.2 (by rw [hq.2.1, h.2.1]; simp)).2
  have h2 := congrArg List.length this
  simp at h2
  omega
theorem isRec_more {l : List Nat} {r : RecD} (h : IsRec l r) (x : Nat) : ∀ q, ¬ IsRec (l ++ [x]) q := by
  intro q hq
  have := (code_rec q r [] [x] hq.1.2 h.1.2 (by rw [hq.2.1, h.2.1]; simp)).2
  simp at this
theorem recE_len (r : RecD) : (recE r).length = 13 + r.key.size + 9 * r.stripes.length + 4 * locsSum r.stripes + (objsE r.objects).length + (1 + 4 * r.drives.length) - 2 + 0 := by
  unfold recE headE keyE
  simp only [List.length_append, Sha.numB_len, numE, strB_len, stpsE_len, intsE_len]
  omega
theorem objsE_ge (L : List ObjD) : 2 + L.length + objSum L ≤ (objsE L).length := by
  unfold objsE
  rw [List.length_append, Sha.numB_len]
  have : ∀ L : List ObjD, L.length + objSum L ≤ (L.flatMap objE).length := by
    intro L
    induction L with
    | nil => simp [objSum]
    | cons x L ih =>
      have := objE_len x
      simp only [List.flatMap_cons, List.length_append, List.length_cons, objSum, List.map_cons, List.sum_cons] at ih ⊢
      omega
  have := this L
  omega
/-- a record that has bytes has not more things than bytes -/
theorem items_le {l : List Nat} {r : RecD} (h : IsRec l r) : items r ≤ 8192 := by
  have h1 := recE_len r
  have h2 := objsE_ge r.objects
  have h3 := h.2.2
  rw [← h.2.1] at h3
  unfold items base
  omega
end RecM
