/- Steps as text, as plain data: a step's line, what a line is read as, a text's lines, and that the one undoes the other. No program is named here. -/
import Derived.Lib.ItoaNum
import Derived.Lib.AtoiAll
import Derived.Lib.ParseIntB
import Derived.Lib.IndexMore
import Derived.Lib.IndexBytes
import Derived.Lib.IndexLaws
namespace Sc
open Go.Lib
set_option linter.unusedVariables false
structure SD where
  kind : Int
  a : Int
  key : List UInt8
  data : List UInt8
  keep : Nat
def I6 (z : Int) : Prop := -9223372036854775808 ≤ z ∧ z ≤ 9223372036854775807
structure SD.Ok (x : SD) : Prop where
  k : I6 x.kind
  a : I6 x.a
  p : x.keep < 18446744073709551616
def hexDigits : List UInt8 := [48, 49, 50, 51, 52, 53, 54, 55, 56, 57, 97, 98, 99, 100, 101, 102]
def hexd (n : Nat) : UInt8 := hexDigits.getD n 0
def hex2 (b : UInt8) : List UInt8 := [hexd (b.toNat / 16), hexd (b.toNat % 16)]
def hexL (l : List UInt8) : List UInt8 := l.flatMap hex2
def dig (l : List UInt8) : List UInt8 := 120 :: hexL l
/-- a step's line -/
def lineOf (x : SD) : List UInt8 := itoa x.kind ++ 32 :: (itoa x.a ++ 32 :: (decDigits x.keep ++ 32 :: (dig x.key ++ 32 :: (dig x.data ++ [10]))))
def textOf (l : List SD) : List UInt8 := l.flatMap lineOf
/-- what a line is read as -/
def atoiV (l : List UInt8) : Int := match atoiAll l with
  | .ok v => v
  | .range => atoiSat l
  | _ => 0
def uintV (l : List UInt8) : Nat := match parseUintB 64 l with
  | .ok u => u
  | .range => 18446744073709551615
  | _ => 0
def hv (c : UInt8) : Option Nat := if 48 ≤ c.toNat ∧ c.toNat ≤ 57 then some (c.toNat - 48) else if 97 ≤ (c.toNat ||| 32) ∧ (c.toNat ||| 32) ≤ 102 then some ((c.toNat ||| 32) - 87) else none
def hx (c d : UInt8) : UInt8 := match hv c, hv d with
  | some a, some b => UInt8.ofNat (16 * a + b)
  | _, _ => 0
def pairs : List UInt8 → List UInt8
  | c :: d :: r => hx c d :: pairs r
  | _ => []
def undig (f : List UInt8) : List UInt8 := pairs (f.drop 1)
def bef (l : List UInt8) : List UInt8 := (cut l [32]).1
def aft (l : List UInt8) : List UInt8 := (cut l [32]).2.1
def readF (l : List UInt8) : SD := ⟨atoiV (bef l), atoiV (bef (aft l)), undig (bef (aft (aft (aft l)))), undig (aft (aft (aft (aft l)))), uintV (bef (aft (aft l)))⟩
/-! numbers -/
theorem dec_range (n : Nat) : ∀ c ∈ decDigits n, 48 ≤ c.toNat ∧ c.toNat ≤ 57 := by
  induction n using Nat.strongRecOn with
  | _ n ih =>
    intro c hc
    rw [decDigits] at hc
    split at hc
    · rename_i h
      have e : c = UInt8.ofNat (48 + n) := by simpa using hc
      subst e
      rw [UInt8.toNat_ofNat']
      omega
    · rename_i h
      rcases List.mem_append.1 hc with h1 | h1
      · exact ih _ (by omega) c h1
      · have e : c = UInt8.ofNat (48 + n % 10) := by simpa using h1
        subst e
        rw [UInt8.toNat_ofNat']
        omega
theorem itoa_range (z : Int) : ∀ c ∈ itoa z, c.toNat = 45 ∨ (48 ≤ c.toNat ∧ c.toNat ≤ 57) := by
  intro c hc
  unfold itoa at hc
  split at hc
  · rcases List.mem_cons.1 hc with rfl | h
    · exact .inl rfl
    · exact .inr (dec_range _ c h)
  · exact .inr (dec_range _ c hc)
theorem dec_ne (n : Nat) : decDigits n ≠ [] := by
  rw [decDigits]
  split
  · simp
  · simp
theorem parse10_snoc (l : List UInt8) (c : UInt8) : ∀ acc, parseUint10 acc (l ++ [c]) = match parseUint10 acc l with
    | .ok u => parseUint10 u [c]
    | e => e := by
  induction l with
  | nil => intro acc; rfl
  | cons d r ih =>
    intro acc
    rw [List.cons_append]
    simp only [parseUint10]
    split
    · split
      · rfl
      · split
        · rfl
        · exact ih _
    · rfl
theorem parse10_dec (n : Nat) (h : n < 18446744073709551616) : parseUint10 0 (decDigits n) = .ok n := by
  induction n using Nat.strongRecOn with
  | _ n ih =>
    rw [decDigits]
    split
    · rename_i h1
      have e : (UInt8.ofNat (48 + n)).toNat = 48 + n := by rw [UInt8.toNat_ofNat']; omega
      simp only [parseUint10]
      rw [e, if_pos (by omega), if_neg (by omega), if_neg (by omega)]
      congr 1; omega
    · rename_i h1
      rw [parse10_snoc, ih (n / 10) (by omega) (by omega)]
      have e : (UInt8.ofNat (48 + n % 10)).toNat = 48 + n % 10 := by rw [UInt8.toNat_ofNat']; omega
      simp only [parseUint10]
      rw [e, if_pos (by omega), if_neg (by omega), if_neg (by omega)]
      congr 1; omega
theorem parseM_eq (l : List UInt8) : ∀ acc, parseUintM 18446744073709551615 acc l = parseUint10 acc l := by
  induction l with
  | nil => intro acc; rfl
  | cons d r ih =>
    intro acc
    simp only [parseUint10, parseUintM]
    split
    · split
      · rfl
      · by_cases h : 18446744073709551615 < acc * 10 + (d.toNat - 48)
        · rw [if_pos h, if_pos (by omega)]
        · rw [if_neg h, if_neg (by omega)]; exact ih _
    · rfl
theorem uintB_dec (n : Nat) (h : n < 18446744073709551616) : parseUintB 64 (decDigits n) = .ok n := by
  unfold parseUintB
  rw [if_neg (dec_ne n), show (2 : Nat) ^ 64 - 1 = 18446744073709551615 by decide, parseM_eq, parse10_dec n h]
theorem uintV_dec (n : Nat) (h : n < 18446744073709551616) : uintV (decDigits n) = n := by
  unfold uintV; rw [uintB_dec n h]
theorem mag_dec (n : Nat) (h : n < 18446744073709551616) : parseMag (decDigits n) = .ok n := by
  unfold parseMag; rw [if_neg (dec_ne n), parse10_dec n h]
theorem atoi_itoa (z : Int) (h : I6 z) : atoiAll (itoa z) = .ok z := by
  obtain ⟨h0, h1⟩ := h
  unfold itoa
  split
  · rename_i hz
    unfold atoiAll
    simp only
    rw [if_pos (.inr (by decide)), mag_dec _ (by omega)]
    simp only
    rw [if_neg (by simp), if_neg (by omega), if_pos (by decide)]
    congr 1; omega
  · rename_i hz
    obtain ⟨c, r, e⟩ : ∃ c r, decDigits z.toNat = c :: r := by
      cases hd : decDigits z.toNat with
      | nil => exact absurd hd (dec_ne _)
      | cons c r => exact ⟨c, r, rfl⟩
    have hr := dec_range z.toNat c (by rw [e]; exact List.mem_cons_self ..)
    have hm := mag_dec z.toNat (by omega)
    rw [e] at hm ⊢
    unfold atoiAll
    simp only
    rw [if_neg (by omega), hm]
    simp only
    rw [if_neg (by omega), if_neg (by omega), if_neg (by omega)]
    congr 1; omega
theorem atoiV_itoa (z : Int) (h : I6 z) : atoiV (itoa z) = z := by
  unfold atoiV; rw [atoi_itoa z h]
theorem atoiAll_in {l : List UInt8} {v : Int} (h : atoiAll l = .ok v) : I6 v := by
  unfold atoiAll at h
  split at h
  · cases h
  · rename_i c r
    simp only at h
    split at h
    · cases h
    · cases h
    · rename_i u hu
      split at h
      · cases h
      · rename_i g1
        split at h
        · cases h
        · rename_i g2
          have e : (if c.toNat = 45 then -(u : Int) else u) = v := by injection h
          subst e
          unfold I6
          by_cases hc : c.toNat = 45
          · rw [if_pos hc]; have := g2; simp [hc] at this; omega
          · rw [if_neg hc]; have := g1; simp [hc] at this; omega
theorem atoiV_in (l : List UInt8) : I6 (atoiV l) := by
  unfold atoiV
  split
  · rename_i v h; exact atoiAll_in h
  · unfold atoiSat I6; split <;> omega
  · exact ⟨by decide, by decide⟩
theorem uintB_lt {l : List UInt8} {u : Nat} (h : parseUintB 64 l = .ok u) : u < 18446744073709551616 := by
  unfold parseUintB at h
  split at h
  · cases h
  · rw [show (2 : Nat) ^ 64 - 1 = 18446744073709551615 by decide, parseM_eq] at h
    exact parseUint10_lt l 0 u (by omega) h
theorem uintV_lt (l : List UInt8) : uintV l < 18446744073709551616 := by
  unfold uintV
  split
  · rename_i u h; exact uintB_lt h
  · omega
  · omega
theorem readF_ok (l : List UInt8) : (readF l).Ok := ⟨atoiV_in _, atoiV_in _, uintV_lt _⟩
/-! digits of bytes -/
theorem hexd_range : ∀ n : Fin 16, (48 ≤ (hexd n.val).toNat ∧ (hexd n.val).toNat ≤ 57) ∨ (97 ≤ (hexd n.val).toNat ∧ (hexd n.val).toNat ≤ 102) := by decide
theorem hexL_range (l : List UInt8) : ∀ c ∈ hexL l, (48 ≤ c.toNat ∧ c.toNat ≤ 57) ∨ (97 ≤ c.toNat ∧ c.toNat ≤ 102) := by
  intro c hc
  obtain ⟨b, _, hb⟩ := List.mem_flatMap.1 hc
  have hlt := b.toNat_lt
  unfold hex2 at hb
  rcases List.mem_cons.1 hb with rfl | h
  · exact hexd_range ⟨b.toNat / 16, by omega⟩
  · rw [List.mem_singleton.1 h]
    exact hexd_range ⟨b.toNat % 16, by omega⟩
theorem hx_hex : ∀ n : Fin 256, hx (hexd (n.val / 16)) (hexd (n.val % 16)) = UInt8.ofNat n.val := by decide +kernel
theorem hx_hex2 (b : UInt8) : hx (hexd (b.toNat / 16)) (hexd (b.toNat % 16)) = b := by
  have := hx_hex ⟨b.toNat, b.toNat_lt⟩
  rw [this]; simp
theorem pairs_hex (l : List UInt8) (r : List UInt8) (hr : r.length < 2) : pairs (hexL l ++ r) = l := by
  induction l with
  | nil =>
    match r, hr with
    | [], _ => rfl
    | [c], _ => rfl
  | cons b l ih =>
    show pairs (hexd (b.toNat / 16) :: hexd (b.toNat % 16) :: (hexL l ++ r)) = _
    rw [pairs, ih, hx_hex2]
theorem undig_dig (l : List UInt8) : undig (dig l) = l := by
  have := pairs_hex l [] (by simp)
  rw [List.append_nil] at this
  exact this
theorem undig_dig_end (l : List UInt8) : undig (dig l ++ [10]) = l := pairs_hex l [10] (by simp)
/-! cutting -/
theorem indexByte_at (p r : List UInt8) (c : UInt8) (h : c ∉ p) : indexByte (p ++ c :: r) c = p.length := by
  induction p with
  | nil => simp [indexByte]
  | cons b p ih =>
    have hb : b ≠ c := fun e => h (e ▸ List.mem_cons_self ..)
    have := ih (fun q => h (List.mem_cons_of_mem _ q))
    rw [List.cons_append, indexByte, if_neg (by simpa using hb), this, if_neg (by simp)]
    simp
theorem cut_at (p r : List UInt8) (h : (32 : UInt8) ∉ p) : cut (p ++ 32 :: r) [32] = (p, r, true) := by
  unfold cut
  rw [index_one, indexByte_at p r 32 h, if_pos (by omega)]
  simp
theorem not_in {l : List UInt8} {c : UInt8} (h : ∀ d ∈ l, d.toNat ≠ c.toNat) : c ∉ l := fun q => h c q rfl
theorem no32_itoa (z : Int) : (32 : UInt8) ∉ itoa z := not_in fun d hd => by
  have := itoa_range z d hd
  rw [show (32 : UInt8).toNat = 32 by decide]; omega
theorem no32_dec (n : Nat) : (32 : UInt8) ∉ decDigits n := not_in fun d hd => by
  have := dec_range n d hd
  rw [show (32 : UInt8).toNat = 32 by decide]; omega
theorem no32_dig (l : List UInt8) : (32 : UInt8) ∉ dig l := not_in fun d hd => by
  rw [show (32 : UInt8).toNat = 32 by decide]
  rcases List.mem_cons.1 hd with rfl | h
  · decide
  · have := hexL_range l d h; omega
theorem no10_itoa (z : Int) : (10 : UInt8) ∉ itoa z := not_in fun d hd => by
  have := itoa_range z d hd
  rw [show (10 : UInt8).toNat = 10 by decide]; omega
theorem no10_dec (n : Nat) : (10 : UInt8) ∉ decDigits n := not_in fun d hd => by
  have := dec_range n d hd
  rw [show (10 : UInt8).toNat = 10 by decide]; omega
theorem no10_dig (l : List UInt8) : (10 : UInt8) ∉ dig l := not_in fun d hd => by
  rw [show (10 : UInt8).toNat = 10 by decide]
  rcases List.mem_cons.1 hd with rfl | h
  · decide
  · have := hexL_range l d h; omega
theorem readF_line (x : SD) (h : x.Ok) : readF (lineOf x) = x := by
  obtain ⟨kind, a, key, data, keep⟩ := x
  obtain ⟨hk, ha, hp⟩ := h
  unfold lineOf readF bef aft
  simp only [cut_at _ _ (no32_itoa _), cut_at _ _ (no32_dec _), cut_at _ _ (no32_dig _)]
  rw [atoiV_itoa _ hk, atoiV_itoa _ ha, uintV_dec _ hp, undig_dig, undig_dig_end]
/-! lines -/
def linesFrom (cur : List UInt8) : List UInt8 → List (List UInt8)
  | [] => if cur = [] then [] else [cur]
  | c :: r => if c = 10 then (cur ++ [c]) :: linesFrom [] r else linesFrom (cur ++ [c]) r
def lines (t : List UInt8) : List (List UInt8) := linesFrom [] t
theorem linesFrom_hit (p r : List UInt8) (h : (10 : UInt8) ∉ p) : ∀ cur, linesFrom cur (p ++ 10 :: r) = (cur ++ p ++ [10]) :: lines r := by
  induction p with
  | nil => intro cur; simp [linesFrom, lines]
  | cons b p ih =>
    intro cur
    have hb : b ≠ 10 := fun e => h (e ▸ List.mem_cons_self ..)
    rw [List.cons_append, linesFrom, if_neg hb, ih (fun q => h (List.mem_cons_of_mem _ q))]
    simp
theorem linesFrom_miss (p : List UInt8) (h : (10 : UInt8) ∉ p) : ∀ cur, cur ++ p ≠ [] → linesFrom cur p = [cur ++ p] := by
  induction p with
  | nil => intro cur hc; rw [linesFrom, if_neg (by simpa using hc)]; simp
  | cons b p ih =>
    intro cur _
    have hb : b ≠ 10 := fun e => h (e ▸ List.mem_cons_self ..)
    rw [linesFrom, if_neg hb, ih (fun q => h (List.mem_cons_of_mem _ q)) _ (by simp)]
    simp
theorem lines_hit (p r : List UInt8) (h : (10 : UInt8) ∉ p) : lines (p ++ 10 :: r) = (p ++ [10]) :: lines r := by
  unfold lines; rw [linesFrom_hit p r h]; simp [lines]
theorem lines_miss (p : List UInt8) (h : (10 : UInt8) ∉ p) (h0 : p ≠ []) : lines p = [p] := by
  unfold lines; rw [linesFrom_miss p h [] (by simpa using h0)]; simp
theorem lines_nil : lines [] = [] := rfl
theorem linesFrom_join (t : List UInt8) : ∀ cur, (linesFrom cur t).flatten = cur ++ t := by
  induction t with
  | nil => intro cur; rw [linesFrom]; split <;> simp_all
  | cons c r ih =>
    intro cur
    rw [linesFrom]
    split
    · rw [List.flatten_cons, ih]; simp
    · rw [ih]; simp
theorem lines_join (t : List UInt8) : (lines t).flatten = t := by unfold lines; rw [linesFrom_join]; rfl
theorem linesFrom_len (t : List UInt8) : ∀ cur, (linesFrom cur t).length ≤ t.count 10 + 1 := by
  induction t with
  | nil => intro cur; rw [linesFrom]; split <;> simp
  | cons c r ih =>
    intro cur
    rw [linesFrom, List.count_cons]
    split
    · rename_i e; subst e; have := ih []; simp; omega
    · rename_i e; have := ih (cur ++ [c]); split <;> omega
theorem lines_len (t : List UInt8) : (lines t).length ≤ t.count 10 + 1 := linesFrom_len t []
theorem linesFrom_le (t : List UInt8) : ∀ cur, (linesFrom cur t).length ≤ t.length + (if cur = [] then 0 else 1) := by
  induction t with
  | nil => intro cur; rw [linesFrom]; split <;> simp
  | cons c r ih =>
    intro cur
    rw [linesFrom]
    split
    · have := ih []; simp at this ⊢; omega
    · have := ih (cur ++ [c]); simp at this ⊢; omega
theorem lines_le (t : List UInt8) : (lines t).length ≤ t.length := by have := linesFrom_le t []; simpa [lines] using this
/-- a text whose every line is a step's, or the number of the first that is none -/
inductive Res
  | ok (l : List SD)
  | bad (n : Nat)
def parseL : List SD → List (List UInt8) → Res
  | acc, [] => .ok acc
  | acc, l :: r => if lineOf (readF l) = l then parseL (acc ++ [readF l]) r else .bad (acc.length + 1)
def good (l : List UInt8) : Prop := lineOf (readF l) = l
theorem parseL_all : ∀ (ls : List (List UInt8)) (acc : List SD), (∀ l ∈ ls, good l) → parseL acc ls = .ok (acc ++ ls.map readF)
  | [], acc, _ => by simp [parseL]
  | l :: r, acc, h => by
    rw [parseL, if_pos (show lineOf (readF l) = l from h l (List.mem_cons_self ..)), parseL_all r _ (fun x hx => h x (List.mem_cons_of_mem _ hx))]
    simp
theorem parseL_bad : ∀ (ls : List (List UInt8)) (acc : List SD) (l : List UInt8) (r : List (List UInt8)), (∀ l ∈ ls, good l) → ¬ good l → parseL acc (ls ++ l :: r) = .bad (acc.length + ls.length + 1)
  | [], acc, l, r, _, h => by rw [List.nil_append, parseL, if_neg (show ¬ lineOf (readF l) = l from h)]; simp
  | m :: ls, acc, l, r, hh, h => by
    rw [List.cons_append, parseL, if_pos (show lineOf (readF m) = m from hh m (List.mem_cons_self ..)), parseL_bad ls _ l r (fun x hx => hh x (List.mem_cons_of_mem _ hx)) h]
    simp; omega
theorem parseL_cases : ∀ (ls : List (List UInt8)) (acc : List SD), (parseL acc ls = .ok (acc ++ ls.map readF) ∧ ∀ l ∈ ls, good l) ∨ ∃ n, parseL acc ls = .bad (acc.length + n) ∧ 1 ≤ n ∧ n ≤ ls.length
  | [], acc => .inl ⟨by simp [parseL], fun _ h => (by cases h)⟩
  | l :: r, acc => by
    rw [parseL]
    by_cases h : lineOf (readF l) = l
    · rw [if_pos h]
      rcases parseL_cases r (acc ++ [readF l]) with ⟨h1, h2⟩ | ⟨n, h1, h2, h3⟩
      · exact .inl ⟨by rw [h1]; simp, fun x hx => by
          rcases List.mem_cons.1 hx with rfl | hx
          · exact h
          · exact h2 x hx⟩
      · exact .inr ⟨n + 1, by rw [h1]; simp; omega, by omega, by simp; omega⟩
    · rw [if_neg h]
      exact .inr ⟨1, rfl, by omega, by simp⟩
/-! a line ends with a byte 10, and has no other -/
def body (x : SD) : List UInt8 := itoa x.kind ++ 32 :: (itoa x.a ++ 32 :: (decDigits x.keep ++ 32 :: (dig x.key ++ 32 :: dig x.data)))
theorem lineOf_body (x : SD) : lineOf x = body x ++ [10] := by simp [lineOf, body]
theorem no10_body (x : SD) : (10 : UInt8) ∉ body x := by
  intro h
  unfold body at h
  simp only [List.mem_append, List.mem_cons] at h
  rcases h with h | h | h | h | h | h | h | h | h
  · exact no10_itoa _ h
  · exact absurd h (by decide)
  · exact no10_itoa _ h
  · exact absurd h (by decide)
  · exact no10_dec _ h
  · exact absurd h (by decide)
  · exact no10_dig _ h
  · exact absurd h (by decide)
  · exact no10_dig _ h
theorem lineOf_ne (x : SD) : lineOf x ≠ [] := by rw [lineOf_body]; simp
theorem lines_text (L : List SD) (r : List UInt8) : lines (textOf L ++ r) = L.map lineOf ++ lines r := by
  induction L with
  | nil => rfl
  | cons x L ih =>
    rw [show textOf (x :: L) ++ r = body x ++ 10 :: (textOf L ++ r) by simp [textOf, lineOf_body], lines_hit _ _ (no10_body x), ih]
    simp [lineOf_body]
theorem good_line {x : SD} (h : x.Ok) : good (lineOf x) := by unfold good; rw [readF_line x h]
theorem parse_text {L : List SD} (h : ∀ x ∈ L, x.Ok) : parseL [] (lines (textOf L)) = .ok L := by
  have e := lines_text L []
  rw [List.append_nil, lines_nil, List.append_nil] at e
  rw [e, parseL_all _ _ (fun l hl => by
    obtain ⟨x, hx, rfl⟩ := List.mem_map.1 hl
    exact good_line (h x hx)), List.nil_append, List.map_map]
  congr 1
  conv => rhs; rw [← List.map_id L]
  exact List.map_congr_left fun x hx => readF_line x (h x hx)
/-- what is read prints as what was read -/
theorem text_parse {t : List UInt8} {L : List SD} (h : parseL [] (lines t) = .ok L) : textOf L = t := by
  rcases parseL_cases (lines t) [] with ⟨h1, h2⟩ | ⟨n, h1, _⟩
  · rw [h1] at h
    have e : [] ++ (lines t).map readF = L := by injection h
    subst e
    conv => rhs; rw [← lines_join t]
    unfold textOf
    rw [List.nil_append, List.flatMap_map]
    have : ∀ ls : List (List UInt8), (∀ l ∈ ls, good l) → ls.flatMap (fun l => lineOf (readF l)) = ls.flatten := by
      intro ls
      induction ls with
      | nil => intro _; rfl
      | cons l r ih => intro hg; rw [List.flatMap_cons, List.flatten_cons, hg l (List.mem_cons_self ..), ih (fun x hx => hg x (List.mem_cons_of_mem _ hx))]
    exact this _ h2
  · rw [h1] at h; cases h
theorem bad_parse {t : List UInt8} {n : Nat} (h : parseL [] (lines t) = .bad n) : 1 ≤ n ∧ n ≤ t.count 10 + 1 := by
  have := lines_len t
  rcases parseL_cases (lines t) [] with ⟨h1, h2⟩ | ⟨m, h1, h2, h3⟩
  · rw [h1] at h; cases h
  · rw [h1] at h
    have e : 0 + m = n := by injection h
    omega
/-- a line that is none, behind steps -/
theorem bad_line {A B : List SD} {tail : List UInt8} (hA : ∀ x ∈ A, x.Ok) (h10 : (10 : UInt8) ∉ tail) (hb : ¬ good (tail ++ [10])) : parseL [] (lines (textOf A ++ (tail ++ 10 :: textOf B))) = .bad (A.length + 1) := by
  rw [lines_text, lines_hit _ _ h10, parseL_bad _ _ _ _ (fun l hl => by
    obtain ⟨x, hx, rfl⟩ := List.mem_map.1 hl
    exact good_line (hA x hx)) hb]
  simp
/-- a text that lacks its last end -/
theorem bad_end {A : List SD} {x : SD} (hA : ∀ y ∈ A, y.Ok) : parseL [] (lines ((textOf (A ++ [x])).take ((textOf (A ++ [x])).length - 1))) = .bad (A.length + 1) := by
  have e : textOf (A ++ [x]) = textOf A ++ body x ++ [10] := by simp [textOf, lineOf_body]
  rw [e, List.length_append, show (textOf A ++ body x).length + ([10] : List UInt8).length - 1 = (textOf A ++ body x).length by simp, List.take_left, lines_text]
  have hne : body x ≠ [] := by unfold body; simp
  rw [lines_miss _ (no10_body x) hne, parseL_bad _ _ _ _ (fun l hl => by
    obtain ⟨y, hy, rfl⟩ := List.mem_map.1 hl
    exact good_line (hA y hy)) (fun q => by
      unfold good at q
      rw [lineOf_body] at q
      have h1 : (10 : UInt8) ∈ body (readF (body x)) ++ [10] := by simp
      rw [q] at h1
      exact no10_body x h1)]
  simp
theorem textOf_take (L : List SD) (k : Nat) : textOf (L.take k) ++ textOf (L.drop k) = textOf L := by
  unfold textOf; rw [← List.flatMap_append, List.take_append_drop]
end Sc
