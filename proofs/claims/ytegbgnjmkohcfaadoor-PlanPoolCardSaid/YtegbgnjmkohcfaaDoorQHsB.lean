/- A listed table of integers, as the block that holds it. No program is named here. Go's own function that turns a word, and other ways to write SHA-256's functions. More on SHA-256's mathematics: a block as a slice of its own, bytes by shifts. No program is named here. One round of the sum of layer 5, as a walk. The words of a block, filled byte by byte. No program is named here. The words that a block gives to the rounds, as a walk. A block stirred into a state, as a walk. Blocks stirred into a state one behind the other, as a walk. The last blocks of the sum of layer 5, as a walk. The padding of a text in two parts: whole blocks, and the last ones. An element of an array by value, at an index that is a letter ('for i, x := range arr', arr an array). No program is named here. The sum of layer 5, as a walk. The weight of layer 5, as a walk. Package hash's table, as the row lists it. -/
import Derived.Test.YtegbgnjmkohcfaaDoorQHsA
import Derived.Lib.LaidTab
import Derived.Test.YtegbgnjmkohcfaaDoorSha
import Derived.StillTailTactics
import Derived.WalkSpells
import Derived.Deep.RegionLaw
namespace Go.Mem
open Go.RowKit
theorem tab_heap {P : Program} {w : World} {name : String} {k : IntKind} {zs : List Int} {g : Nat} (h : Lib.TabIs P w name k zs) (hg : P.globalNamed name = some g) :
    ∃ t fr, w.heap[g]? = some (.cells (zs.map fun z => Value.int k z).toArray t fr) := by
  unfold Lib.TabIs World.var? at h
  rw [hg, Option.bind_some] at h
  split at h
  · rename_i cs t fr e
    injection h with h
    exact ⟨t, fr, by rw [e, h]⟩
  · cases h
/-- .. goes on in every world that has turned nothing of what was there -/
theorem heap_below {w w' : World} {g : Nat} {ob : Obj} (h : w.heap[g]? = some ob) (hb : Below w.heap.size w w') : w'.heap[g]? = some ob :=
  (hb.block g (Array.getElem?_eq_some_iff.1 h).1).trans h
end Go.Mem
namespace Go.Proofs.YtegbgnjmkohcfaaDoor.Hash
open Go.ChangeShapes Go.WideShapes Go.ChangeAt Go.RowKit
open Go.Mem Sha
theorem and31 {n : Nat} (h1 : 1 ≤ n) (h2 : n ≤ 31) : (18446744073709551616 - n) &&& 31 = 32 - n := by
  have h : ∀ m : Fin 31, (18446744073709551616 - (m.val + 1)) &&& 31 = 32 - (m.val + 1) := by decide +kernel
  have := h ⟨n - 1, by omega⟩
  dsimp only at this
  rwa [show n - 1 + 1 = n by omega] at this
theorem rotl_raw {x n s : Nat} (hx : x < 4294967296) (hs : s = 32 - n) : bits .or .u32 ((x : Int) * 2 ^ s % 4294967296) ((x : Int) / 2 ^ n) = ((rotr x n : Nat) : Int) := by
  subst hs
  have h1 : x / 2 ^ n ≤ x := Nat.div_le_self _ _
  rw [show ((x : Int) / 2 ^ n) = ((x / 2 ^ n : Nat) : Int) by simp, show ((x : Int) * 2 ^ (32 - n) % 4294967296) = ((x * 2 ^ (32 - n) % 4294967296 : Nat) : Int) by simp, u32_or_nat _ _ (by omega) (by omega), Nat.or_comm]
  rfl
set_option maxHeartbeats 1000000 in
/-- turned to the left by -n: to the right by n -/
theorem rotlC (x n : Nat) (k : Int) (hx : x < 4294967296) (h1 : 1 ≤ n) (h2 : n ≤ 31) (hk : k = -(n : Int)) (w : World) :
    Calls Tryd.prog 99 #[.int .u32 x, .int .i64 k] w fun e w' => e = .returned (.int .u32 (rotr x n : Nat)) ∧ w = w' := by
  obtain ⟨z, hz⟩ : ∃ z : Nat, z = 18446744073709551616 - n := ⟨_, rfl⟩
  obtain ⟨s, hs⟩ : ∃ s : Nat, s = 32 - n := ⟨_, rfl⟩
  have e1 : IntKind.u64.wrap k = (z : Int) := by rw [IntKind.wrap_u64]; omega
  have e2 : k % 18446744073709551616 = (z : Int) := by omega
  have e3 : bits .and .u64 (z : Int) 31 = (s : Int) := by
    rw [show (31 : Int) = ((31 : Nat) : Int) from rfl, u64_and_nat _ _ (by omega) (by omega), hz, and31 h1 h2, hs]
  have e4 : (32 : Int) - (s : Int) = (n : Int) := by omega
  have b1 : (s : Int) ≤ 31 := by omega
  have b0 : (0 : Int) ≤ (s : Int) := by omega
  have HR := Lib.hid (rotl_raw (x := x) (n := n) (s := s) hx hs)
  have e5 : IntKind.u64.wrap (n : Int) = (n : Int) := by rw [IntKind.wrap_u64]; omega
  clear hz hs hk
  go_enter Tryd.func99, Tryd.ntmps99
  go_wp2
  go_ret
  exact ⟨ret_u32 HR.out, rfl⟩
theorem not_bit {e i : Nat} (hi : i < 32) : (4294967295 ^^^ e).testBit i = !e.testBit i := by
  have h : (4294967295 : Nat).testBit i = true := by
    rw [show (4294967295 : Nat) = 2 ^ 32 - 1 from rfl, Nat.testBit_two_pow_sub_one]
    simpa using hi
  rw [Nat.testBit_xor, h]; simp
theorem high_bit {x i : Nat} (hx : x < 4294967296) (hi : ¬ i < 32) : x.testBit i = false :=
  Nat.testBit_lt_two_pow (Nat.lt_of_lt_of_le (show x < 2 ^ 32 from hx) (Nat.pow_le_pow_right (by omega) (by omega)))
/-- g ^ (e & (f ^ g)) -/
theorem ch_alt {e f g : Nat} (hf : f < 4294967296) (hg : g < 4294967296) : g ^^^ (e &&& (f ^^^ g)) = ch e f g := by
  apply Nat.eq_of_testBit_eq
  intro i
  unfold ch
  by_cases hi : i < 32
  · rw [Nat.testBit_xor, Nat.testBit_and, Nat.testBit_xor, Nat.testBit_xor, Nat.testBit_and, Nat.testBit_and, not_bit hi]
    cases e.testBit i <;> cases f.testBit i <;> cases g.testBit i <;> rfl
  · have h1 : f.testBit i = false := high_bit hf hi
    have h2 : g.testBit i = false := high_bit hg hi
    simp [Nat.testBit_xor, Nat.testBit_and, h1, h2]
/-- (a & b) | (c & (a | b)) -/
theorem maj_alt (a b c : Nat) : (a &&& b) ||| (c &&& (a ||| b)) = maj a b c := by
  apply Nat.eq_of_testBit_eq
  intro i
  unfold maj
  simp only [Nat.testBit_xor, Nat.testBit_and, Nat.testBit_or]
  cases a.testBit i <;> cases b.testBit i <;> cases c.testBit i <;> rfl
/-- a&b | a&c | b&c -/
theorem maj_alt2 (a b c : Nat) : (a &&& b) ||| (a &&& c) ||| (b &&& c) = maj a b c := by
  apply Nat.eq_of_testBit_eq
  intro i
  unfold maj
  simp only [Nat.testBit_xor, Nat.testBit_and, Nat.testBit_or]
  cases a.testBit i <;> cases b.testBit i <;> cases c.testBit i <;> rfl
/-- e&f | ^e&g -/
theorem ch_alt2 {e f g : Nat} (hf : f < 4294967296) (hg : g < 4294967296) : (e &&& f) ||| ((4294967295 ^^^ e) &&& g) = ch e f g := by
  apply Nat.eq_of_testBit_eq
  intro i
  unfold ch
  by_cases hi : i < 32
  · rw [Nat.testBit_or, Nat.testBit_xor, Nat.testBit_and, Nat.testBit_and, not_bit hi]
    cases e.testBit i <;> cases f.testBit i <;> cases g.testBit i <;> rfl
  · have h1 : f.testBit i = false := high_bit hf hi
    have h2 : g.testBit i = false := high_bit hg hi
    simp [Nat.testBit_xor, Nat.testBit_or, Nat.testBit_and, h1, h2]
/-- a word of four bytes, by shifts -/
theorem or_word {a b c d : Nat} (hb : b < 256) (hc : c < 256) (hd : d < 256) : (((a * 16777216 ||| b * 65536) ||| c * 256) ||| d) = ((a * 256 + b) * 256 + c) * 256 + d := by
  have h1 : a * 16777216 ||| b * 65536 = a * 16777216 + b * 65536 := by
    rw [show a * 16777216 = 2 ^ 24 * a by omega, ← Nat.two_pow_add_eq_or_of_lt (show b * 65536 < 2 ^ 24 by omega)]
  rw [h1, show a * 16777216 + b * 65536 = 2 ^ 16 * (a * 256 + b) by omega, ← Nat.two_pow_add_eq_or_of_lt (show c * 256 < 2 ^ 16 by omega), show 2 ^ 16 * (a * 256 + b) + c * 256 = 2 ^ 8 * ((a * 256 + b) * 256 + c) by omega, ← Nat.two_pow_add_eq_or_of_lt (show d < 2 ^ 8 by omega)]
  omega
end Go.Proofs.YtegbgnjmkohcfaaDoor.Hash
namespace Sha
theorem sched_congr {m m' : Nat → Nat} (h : ∀ j, j < 16 → m j = m' j) : ∀ n, sched m n = sched m' n
  | 0 => rfl
  | n + 1 => by
    rw [sched, sched, sched_congr h n]
    by_cases hn : n < 16
    · rw [if_pos hn, if_pos hn, h n hn]
    · rw [if_neg hn, if_neg hn]
theorem rnds_congr {m m' : Nat → Nat} (h : ∀ j, j < 16 → m j = m' j) (s : St) : ∀ n, rnds m s n = rnds m' s n
  | 0 => rfl
  | n + 1 => by rw [rnds, rnds, rnds_congr h s n, sched_congr h (n + 1)]
theorem drop_get {M : List Nat} {o n i : Nat} (hi : i < n) : ((M.drop o).take n).getD i 0 = M.getD (o + i) 0 := by
  simp [List.getD_eq_getElem?_getD, hi]
theorem word_drop {M : List Nat} {o j : Nat} (hj : j < 16) : word ((M.drop o).take 64) (0 + 4 * j) = word M (o + 4 * j) := by
  unfold word
  rw [drop_get (by omega), drop_get (by omega), drop_get (by omega), drop_get (by omega)]
  simp only [Nat.zero_add, Nat.add_assoc]
/-- a block that is handed over as a slice of its own -/
theorem block_drop (M : List Nat) (o : Nat) (s : St) : block ((M.drop o).take 64) 0 s = block M o s := by
  unfold block
  rw [rnds_congr (fun j hj => word_drop hj) s 64]
theorem numB4 (x : Nat) : numB x 4 = [x / 16777216 % 256, x / 65536 % 256, x / 256 % 256, x % 256] := by
  unfold numB; simp [List.range_succ]
theorem numB_snoc {v n k : Nat} (hk : k < n) : (numB v n).take (k + 1) = (numB v n).take k ++ [v / 256 ^ (n - 1 - k) % 256] := by
  rw [List.take_succ_eq_append_getElem (by rw [numB_len]; exact hk)]
  unfold numB
  simp
theorem pow256 (k : Nat) : 256 ^ k = 2 ^ (8 * k) := by rw [Nat.pow_mul]
/-- v << 8 | x, in 64 bits -/
theorem shl_or {v x : Nat} (hx : x < 256) : v * 256 % 18446744073709551616 ||| x = (v * 256 + x) % 18446744073709551616 := by
  have h1 : v * 256 % 18446744073709551616 = 2 ^ 8 * (v % 72057594037927936) := by omega
  rw [h1, ← Nat.two_pow_add_eq_or_of_lt (show x < 2 ^ 8 by omega)]
  omega
theorem readB_snoc {l : List Nat} {k : Nat} (hk : k < l.length) : readB (l.take (k + 1)) = (readB (l.take k) * 256 + l[k]) % 18446744073709551616 := by
  unfold readB; rw [List.take_succ_eq_append_getElem hk, List.foldl_append]; rfl
theorem outB_get {s : St} {j i : Nat} (hi : i < 4) : ∀ n, j < n → (outB s n)[4 * j + i]? = (numB (s.get j) 4)[i]?
  | 0, h => absurd h (by omega)
  | n + 1, h => by
    rw [outB]
    by_cases e : j = n
    · subst e
      rw [List.getElem?_append_right (by rw [outB_len]; omega), outB_len, show 4 * j + i - 4 * j = i by omega]
    · rw [List.getElem?_append_left (by rw [outB_len]; omega)]
      exact outB_get hi n (by omega)
end Sha
namespace Go.Proofs.YtegbgnjmkohcfaaDoor.Hash
set_option linter.unusedVariables false
open Go.ChangeShapes Go.WideShapes Go.ChangeAt Go.RowKit
open Go.Mem Sha
set_option maxHeartbeats 1000000 in
theorem turnedC (x : Nat) (k : Int) (hx : x < 4294967296) (h1 : 1 ≤ k) (h2 : k ≤ 31) (w : World) :
    Calls Tryd.prog 98 #[.int .u32 x, .int .i64 k] w fun e w' => e = .returned (.int .u32 (rotr x k.toNat : Nat)) ∧ w = w' := by
  go_enter Tryd.func98, Tryd.ntmps98
  go_wp2_with (go_at_call 99; refine (rotlC x k.toNat _ hx (by omega) (by omega) (by omega) _).mono ?_; rintro e w' ⟨rfl, rfl⟩)
  go_ret
  exact ⟨rfl, rfl⟩
theorem gen_drew1 {P : Program} {C : Code} {Q : Exit → Act → World → Prop} {a : Act} {w : World} {n : Nat} (h : ∀ w9, (∃ k, w9 = w.drewN k) → Code.wp P C Q a w9) : Code.wp P C Q a (w.drewN n) := h _ ⟨n, rfl⟩
/-- k and w are added first -/
theorem rnd_word (k w : Nat) (s : St) : rnd 0 ((k + w) % 4294967296) s = rnd k w s := by
  have h : xF s 0 ((k + w) % 4294967296) = xF s k w := by unfold xF; omega
  unfold rnd
  rw [h]
/-- what a function that is handed a state, and hands one back, holds in memory -/
structure Two (w wr : World) (s : St) : Prop where
  old : Words wr w.heap.size 91 8 (Sha.St.get s)
  res : ∃ cs, wr.heap[w.heap.size + 1]? = some (.cells cs 91 (0, 0)) ∧ cs.size = 8
  bel : Below w.heap.size w wr
theorem Two.start (w : World) (s : St) : Two w ((w.alloc (.cells (stArr s) 91)).alloc (.cells z8 91)) s := by
  have s1 : (w.alloc (.cells (stArr s) 91)).heap.size = w.heap.size + 1 := by simp
  refine ⟨st_words ?_, ⟨z8, ?_, rfl⟩, ((Below.refl _ _).alloc (Nat.le_refl _) _).alloc (by simp) _⟩
  · rw [heap_alloc_old _ _ (by rw [s1]; omega)]; exact heap_alloc_new _ _
  · rw [← s1]; exact heap_alloc_new _ _
theorem Two.go {w wr wx : World} {s : St} (h : Two w wr s) (hb : Below wr.heap.size wr wx) : Two w wx s := by
  obtain ⟨cs, hc, hs⟩ := h.res
  have hl : w.heap.size + 1 < wr.heap.size := (Array.getElem?_eq_some_iff.1 hc).1
  exact ⟨h.old.below hb, ⟨cs, (hb.block _ hl).trans hc, hs⟩, h.bel.trans (hb.mono h.bel.size)⟩
theorem Two.lt {w wr : World} {s : St} (h : Two w wr s) : w.heap.size + 1 < wr.heap.size := by
  obtain ⟨cs, hc, hs⟩ := h.res
  exact (Array.getElem?_eq_some_iff.1 hc).1
set_option maxRecDepth 100000 in
set_option maxHeartbeats 4000000 in
theorem roundC (s : St) (hok : s.ok) (x : Nat) (hx : x < 4294967296) (w : World) :
    Calls Tryd.prog 96 #[.agg (stArr s), .int .u32 x] w fun e w' => e = .returned (.agg (stArr (rnd 0 x s))) ∧ Below w.heap.size w w' := by
  have hst := Two.start w s
  obtain ⟨a, b, c, d, e, f, g, g8⟩ := s
  obtain ⟨ha, hb, hc, hd, he, hf, hg, hh⟩ := hok
  dsimp only at ha hb hc hd he hf hg hh
  go_enter Tryd.func96, Tryd.ntmps96
  go_upto_region 1 with (fail)
  generalize hw3 : ((w.alloc (.cells (stArr ⟨a, b, c, d, e, f, g, g8⟩) 91)).alloc (.cells #[.int .u32 0, .int .u32 0, .int .u32 0, .int .u32 0, .int .u32 0, .int .u32 0, .int .u32 0, .int .u32 0] 91)) = w3
  have HS := Lib.hid (show Two w w3 ⟨a, b, c, d, e, f, g, g8⟩ by rw [← hw3]; exact hst)
  clear hst hw3
  have c0 : w3.cell? ⟨w.heap.size, 0, none⟩ = some (.int .u32 (a : Nat)) := HS.out.old.cell (i := 0) (by omega)
  have c1 : w3.cell? ⟨w.heap.size, 1, none⟩ = some (.int .u32 (b : Nat)) := HS.out.old.cell (i := 1) (by omega)
  have c2 : w3.cell? ⟨w.heap.size, 2, none⟩ = some (.int .u32 (c : Nat)) := HS.out.old.cell (i := 2) (by omega)
  have c3 : w3.cell? ⟨w.heap.size, 3, none⟩ = some (.int .u32 (d : Nat)) := HS.out.old.cell (i := 3) (by omega)
  go_quiet (fail)
  clear c0 c1 c2 c3
  go_upto_region 2 with (fail)
  refine gen_drew1 fun w9 h9 => ?_
  have HS9 := Lib.hid (show Two w w9 ⟨a, b, c, d, e, f, g, g8⟩ by obtain ⟨n9, e9⟩ := h9; rw [e9]; exact HS.out.go (below_drewN _ _ _))
  clear h9 HS
  have c4 : w9.cell? ⟨w.heap.size, 4, none⟩ = some (.int .u32 (e : Nat)) := HS9.out.old.cell (i := 4) (by omega)
  have c5 : w9.cell? ⟨w.heap.size, 5, none⟩ = some (.int .u32 (f : Nat)) := HS9.out.old.cell (i := 5) (by omega)
  have c6 : w9.cell? ⟨w.heap.size, 6, none⟩ = some (.int .u32 (g : Nat)) := HS9.out.old.cell (i := 6) (by omega)
  have c7 : w9.cell? ⟨w.heap.size, 7, none⟩ = some (.int .u32 (g8 : Nat)) := HS9.out.old.cell (i := 7) (by omega)
  go_quiet (fail)
  clear c4 c5 c6 c7
  go_upto_region 3 with (fail)
  refine gen_drew1 fun w10 h10 => ?_
  have HS10 := Lib.hid (show Two w w10 ⟨a, b, c, d, e, f, g, g8⟩ by obtain ⟨n9, e9⟩ := h10; rw [e9]; exact HS9.out.go (below_drewN _ _ _))
  clear h10 HS9
  go_upto_region 5 with (fail)
  rw [ch_raw he hf hg, maj_raw ha hb hc]
  have hcl := ch_lt (e := e) hf hg
  have hml := maj_lt (a := a) hb hc
  obtain ⟨CH, hCH⟩ : ∃ z, ch e f g = z := ⟨_, rfl⟩
  obtain ⟨MJ, hMJ⟩ : ∃ z, maj a b c = z := ⟨_, rfl⟩
  rw [hCH] at hcl ⊢
  rw [hMJ] at hml ⊢
  have HCH := Lib.hid hCH
  have HMJ := Lib.hid hMJ
  clear hCH hMJ
  go_upto_region 7 with (go_at_call 98; refine (turnedC _ _ (by omega) (by omega) (by omega) _).mono ?_; rintro _ _ ⟨rfl, rfl⟩)
  rw [S1_raw he, S0_raw ha]
  have hx1 : ((g8 : Int) + (S1 e : Nat) + (CH : Nat) + (x : Nat)) % 4294967296 = ((xF ⟨a, b, c, d, e, f, g, g8⟩ 0 x : Nat) : Int) := by unfold xF; dsimp only; rw [HCH.out]; omega
  have hy1 : (((S0 a : Nat) : Int) + (MJ : Nat)) % 4294967296 = ((yF ⟨a, b, c, d, e, f, g, g8⟩ : Nat) : Int) := by unfold yF; dsimp only; rw [HMJ.out]; omega
  rw [hx1, hy1]
  have hxl := xF_lt ⟨a, b, c, d, e, f, g, g8⟩ 0 x
  have hyl := yF_lt ⟨a, b, c, d, e, f, g, g8⟩
  obtain ⟨X, hX⟩ : ∃ X, xF ⟨a, b, c, d, e, f, g, g8⟩ 0 x = X := ⟨_, rfl⟩
  obtain ⟨Y, hY⟩ : ∃ Y, yF ⟨a, b, c, d, e, f, g, g8⟩ = Y := ⟨_, rfl⟩
  rw [hX] at hxl ⊢
  rw [hY] at hyl ⊢
  have HNA := Lib.hid (next_arr hX hY)
  clear hX hY hx1 hy1
  obtain ⟨cs, hcs, hcl8⟩ := HS10.out.res
  have HRES := Lib.hid hcs
  have HCL := Lib.hid (show cs.size = (nextArr X Y a b c d e f g).size from hcl8)
  have HI8 := Lib.hid (info8n X Y a b c d e f g)
  have HI8b := Lib.hid (info8n X Y a b c d e f g)
  clear hcs hcl8
  go_wp2_with (refine wpList_store_rowTo rfl 91 (.tmp 4) (.tmp 88) rfl rfl (w.heap.size + 1) (nextArr X Y a b c d e f g) rfl rfl 91 cs HRES.out HI8.out HCL.out (nextArr_one _ _ _ _ _ _ _ _ _) ?_)
  refine bodyPost_ret (v := .agg (nextArr X Y a b c d e f g)) ?_ rfl ⟨by rw [HNA.out], below_setRow HS10.out.bel (by omega) _⟩
  exact results_cell_row rfl _ _ (w.heap.size + 1) 91 (nextArr X Y a b c d e f g) (0, 0) _ rfl (setRow_heap _ _ _ _ _ _ HRES.out) Tryd.underlying91 rfl HI8b.out
end Go.Proofs.YtegbgnjmkohcfaaDoor.Hash
namespace Sha
/-- the first n bytes of word c -/
def pw (M : List Nat) (c : Nat) : Nat → Nat
  | 0 => 0
  | n + 1 => pw M c n * 256 + M.getD (4 * c + n) 0
/-- word c when k bytes are there -/
def pF (M : List Nat) (k c : Nat) : Nat := pw M c (min 4 (k - 4 * c))
theorem getD_lt {M : List Nat} (h : ∀ x ∈ M, x < 256) (i : Nat) : M.getD i 0 < 256 := by
  by_cases hi : i < M.length
  · simpa [hi] using h _ (List.getElem_mem hi)
  · simp [Nat.le_of_not_lt hi]
theorem pw_lt {M : List Nat} (h : ∀ x ∈ M, x < 256) (c : Nat) : ∀ n, pw M c n < 256 ^ n
  | 0 => by simp [pw]
  | n + 1 => by
    have h1 := pw_lt h c n
    have h2 := getD_lt h (4 * c + n)
    rw [pw, Nat.pow_succ]
    omega
theorem pF_zero (M : List Nat) (c : Nat) : pF M 0 c = 0 := by unfold pF; rw [show min 4 (0 - 4 * c) = 0 by omega]; rfl
theorem pF_next (M : List Nat) (k c : Nat) : pF M (k + 1) c = if c = k / 4 then pF M k (k / 4) * 256 + M.getD k 0 else pF M k c := by
  unfold pF
  by_cases e : c = k / 4
  · subst e
    rw [if_pos rfl, show min 4 (k + 1 - 4 * (k / 4)) = min 4 (k - 4 * (k / 4)) + 1 by omega, pw, show 4 * (k / 4) + min 4 (k - 4 * (k / 4)) = k by omega]
  · rw [if_neg e]
    congr 1
    omega
theorem pF_lt {M : List Nat} (h : ∀ x ∈ M, x < 256) (k : Nat) : pF M k (k / 4) < 16777216 := by
  unfold pF
  have h1 := pw_lt h (k / 4) (min 4 (k - 4 * (k / 4)))
  have h2 : 256 ^ min 4 (k - 4 * (k / 4)) ≤ 256 ^ 3 := Nat.pow_le_pow_right (by omega) (by omega)
  omega
theorem wF_stays (m : Nat → Nat) (j : Nat) : ∀ d, wF m (j + 1 + d) j = wF m (j + 1) j
  | 0 => rfl
  | d + 1 => by rw [← Nat.add_assoc, wF_succ, if_neg (by omega), wF_stays m j d]
theorem pF_end (M : List Nat) (c : Nat) : pF M 64 c = wF (fun j => word M (0 + 4 * j)) 16 c := by
  by_cases h : c < 16
  · rw [show 16 = c + 1 + (15 - c) by omega, wF_stays, wF_succ, if_pos rfl, if_pos h]
    unfold pF
    rw [show min 4 (64 - 4 * c) = 4 by omega]
    unfold word
    simp [pw]
  · unfold pF wF
    rw [show min 4 (64 - 4 * c) = 0 by omega, List.getD_eq_getElem?_getD, List.getElem?_eq_none (by rw [sched_len]; omega)]
    rfl
/-- one byte more, by a shift -/
theorem shl_or32 {v x : Nat} (hx : x < 256) : v * 256 ||| x = v * 256 + x := by
  rw [show v * 256 = 2 ^ 8 * v by omega, ← Nat.two_pow_add_eq_or_of_lt (show x < 2 ^ 8 by omega)]
end Sha
namespace Go.Proofs.YtegbgnjmkohcfaaDoor.Hash
set_option linter.unusedVariables false
open Go.ChangeShapes Go.WideShapes Go.ChangeAt Go.RowKit
open Go.Mem Sha
/-- what the function holds in memory: its words, its result -/
structure Sch (w wr : World) (F : Nat → Nat) : Prop where
  words : Words wr (w.heap.size + 1) 90 64 F
  res : ∃ cs, wr.heap[w.heap.size]? = some (.cells cs 90 (0, 0)) ∧ cs.size = 64
  bel : Below w.heap.size w wr
theorem Sch.start (w : World) (M : List Nat) : Sch w ((w.alloc (.cells z64 90)).alloc (.cells z64 90)) (pF M 0) := by
  have s1 : (w.alloc (.cells z64 90)).heap.size = w.heap.size + 1 := by simp
  refine ⟨Words.of_block (c := z64) ?_ z64_size (fun i hi => by rw [pF_zero]; unfold z64; simp [hi]), ⟨z64, ?_, z64_size⟩, ((Below.refl _ _).alloc (Nat.le_refl _) _).alloc (by simp) _⟩
  · rw [← s1]; exact heap_alloc_new _ _
  · rw [heap_alloc_old _ _ (by rw [s1]; omega)]; exact heap_alloc_new _ _
theorem Sch.set {w wr : World} {F G : Nat → Nat} {k x : Nat} (h : Sch w wr F) (hG : ∀ i, G i = if i = k then x else F i) : Sch w (wr.setCell ⟨w.heap.size + 1, k, none⟩ (.int .u32 (x : Nat))) G := by
  obtain ⟨cs, hc, hs⟩ := h.res
  exact ⟨(h.words.set k x).congr fun i _ => hG i, ⟨cs, (heap_setCell_other _ _ _ _ (by show w.heap.size ≠ w.heap.size + 1; omega)).trans hc, hs⟩, h.bel.setCell (by show w.heap.size ≤ w.heap.size + 1; omega) _⟩
theorem Sch.congr {w wr : World} {F G : Nat → Nat} (h : Sch w wr F) (e : ∀ i, i < 64 → G i = F i) : Sch w wr G := ⟨h.words.congr e, h.res, h.bel⟩
theorem Sch.go {w wr wx : World} {F : Nat → Nat} (h : Sch w wr F) (hb : Below wr.heap.size wr wx) : Sch w wx F := by
  obtain ⟨cs, hc, hs⟩ := h.res
  have hl : w.heap.size < wr.heap.size := (Array.getElem?_eq_some_iff.1 hc).1
  exact ⟨h.words.below hb, ⟨cs, (hb.block _ hl).trans hc, hs⟩, h.bel.trans (hb.mono h.bel.size)⟩
theorem Sch.drew {w wr : World} {F : Nat → Nat} (h : Sch w wr F) : Sch w wr.drew F := h.go (below_drewN _ _ 1)
/-- the words of the rounds, as they stand in memory -/
def wArr (m : Nat → Nat) : Array Value := ((List.range 64).map fun i => Value.int .u32 (wF m 64 i : Nat)).toArray
theorem wArr_size (m : Nat → Nat) : (wArr m).size = 64 := by simp [wArr]
theorem wArr_one (m : Nat → Nat) : (wArr m).all (·.oneCell') = true := by simp [wArr, Value.oneCell']
theorem wArr_info (m : Nat → Nat) : (Tryd.prog.info? 90).map (·.size) = some (wArr m).size := by
  rw [wArr_size]; kernel_rfl
set_option maxRecDepth 100000 in
set_option maxHeartbeats 4000000 in
theorem scheduleC (M : List Nat) (v : Value) (w : World) (hM : Bytes w v M) (h64 : M.length = 64) :
    Calls Tryd.prog 95 #[v] w fun e w' => e = .returned (.agg (wArr fun j => word M (0 + 4 * j))) ∧ Below w.heap.size w w' := by
  obtain ⟨A, C, rfl, h1, h2, _⟩ := hM.shape
  obtain ⟨b, o, rfl, -, -⟩ := hM.at (i := 0) (by omega)
  rw [h64] at hM h1 ⊢
  have HM := Lib.hid hM
  have H64 := Lib.hid h64
  have HMB := Lib.hid (show ∀ x ∈ M, x < 256 from fun x hx => by
    obtain ⟨i, hi, rfl⟩ := List.getElem_of_mem hx
    exact (HM.out.here hi).2)
  clear hM h64
  have hz := z64_run
  have hne := z64_ne
  have hst := Sch.start w M
  obtain ⟨m, hm⟩ : ∃ m : Nat → Nat, m = fun j => word M (0 + 4 * j) := ⟨_, rfl⟩
  have HML := Lib.hid (show ∀ j, m j < 4294967296 from fun j => by rw [hm]; exact word_lt HMB.out _)
  have HPE := Lib.hid (show ∀ i, i < 64 → wF m 16 i = pF M 64 i from fun i _ => by rw [pF_end, hm])
  rw [← hm]
  clear hm
  go_enter Tryd.func95, Tryd.ntmps95
  go_upto_region 2 with (fail)
  generalize hw3 : ((w.alloc (.cells z64 90)).alloc (.cells z64 90)) = w3
  have HS := Lib.hid (show Sch w w3 (pF M 0) by rw [← hw3]; exact hst)
  clear hst hw3
  go_wp2_with fail
  go_loopw [10] (fun c wr => ∃ k : Nat, k ≤ 64 ∧ c = .int .i64 k ∧ Sch w wr (pF M k)) (fun c _ => 64 - (intOf c).toNat)
  case atStart => exact ⟨0, Nat.zero_le _, rfl, HS.out⟩
  case round =>
    obtain ⟨k, hk, rfl, hmem⟩ := hrel
    by_cases hlt : k < 64
    · have HMEM := Lib.hid hmem
      have hc0 := ((HM.out.below hmem.bel).here (i := k) (by rw [H64.out]; omega)).1
      have hx := ((HM.out.below hmem.bel).here (i := k) (by rw [H64.out]; omega)).2
      have HG := Lib.hid (show M.getD k 0 = M[k]'(by rw [H64.out]; omega) by simp [H64.out, hlt])
      obtain ⟨x, hxe⟩ : ∃ x, M[k]'(by rw [H64.out]; omega) = x := ⟨_, rfl⟩
      rw [hxe] at hc0 hx HG
      obtain ⟨q, hq⟩ : ∃ q : Nat, q = k / 4 := ⟨_, rfl⟩
      have hcw := hmem.words.cell (i := q) (by omega)
      have hfw := hmem.words.free q
      have hy : pF M k q < 16777216 := hq ▸ pF_lt HMB.out k
      have HN := Lib.hid (show ∀ i, pF M (k + 1) i = if i = q then pF M k q * 256 + x else pF M k i from fun i => by rw [pF_next, HG.out, hq])
      obtain ⟨y, hye⟩ : ∃ y, pF M k q = y := ⟨_, rfl⟩
      rw [hye] at hcw hy HN
      obtain ⟨p, hp⟩ : ∃ p : Nat, p = y * 256 := ⟨_, rfl⟩
      have HV := Lib.hid (show p ||| x = y * 256 + x by rw [hp]; exact shl_or32 hx)
      have o1 := u32_or_nat p x (by omega) (by omega)
      rw [HV.out] at o1
      have HS2 := Lib.hid (HMEM.out.set HN.out)
      obtain ⟨z, hze⟩ : ∃ z, y * 256 + x = z := ⟨_, rfl⟩
      rw [hze] at o1 HS2
      have d1 : (k : Int) / 4 = (q : Int) := by omega
      have d3 : IntKind.i64.wrap (q : Int) = (q : Int) := by rw [IntKind.wrap_i64]; omega
      have l1 : (q : Int) < 64 := by omega
      have m0 : (y : Int) * 256 = (p : Int) := by omega
      have n0 : IntKind.u32.wrap (p : Int) = (p : Int) := by rw [IntKind.wrap_u32']; omega
      have w0 : IntKind.u32.wrap (x : Int) = (x : Int) := by rw [IntKind.wrap_u32']; omega
      clear hmem hxe hye hq hp hze
      go_upto_region 5 with (fail)
      go_still_tail 14, (by kernel_rfl)
      change wpList _ _ _ _ _ wr.drew
      go_wp2
      go_roundw
      case rel => exact ⟨k + 1, by omega, by go_num, HS2.out.drew⟩
      case measure => simp [intOf]; omega
    · have hk64 : k = 64 := by omega
      have HS16 := Lib.hid (show Sch w wr (wF m 16) from Sch.congr (hk64 ▸ hmem) HPE.out)
      clear hmem hk64
      go_wp2_with fail
      go_loopw [5] (fun c wx => ∃ i : Nat, 16 ≤ i ∧ i ≤ 64 ∧ c = .int .i64 i ∧ Sch w wx (wF m i)) (fun c _ => 64 - (intOf c).toNat)
      case atStart => exact ⟨16, by omega, by omega, rfl, HS16.out⟩
      case round =>
        obtain ⟨i, hi1, hi2, rfl, hmem⟩ := hrel
        by_cases hli : i < 64
        · have HMEM := Lib.hid hmem
          have hc2 := hmem.words.cell (i := i - 2) (by omega)
          have hc15 := hmem.words.cell (i := i - 15) (by omega)
          have hx16 := wF_lt HML.out i (i - 16)
          have hx7 := wF_lt HML.out i (i - 7)
          have hx15 := wF_lt HML.out i (i - 15)
          have hx2 := wF_lt HML.out i (i - 2)
          have HNW := Lib.hid (show nextW (sched m i) i = (wF m i (i - 16) + wF m i (i - 7) + s0 (wF m i (i - 15)) + s1 (wF m i (i - 2))) % 4294967296 from rfl)
          obtain ⟨a2, h2e⟩ : ∃ a : Nat, a = i - 2 := ⟨_, rfl⟩
          obtain ⟨a15, h15e⟩ : ∃ a : Nat, a = i - 15 := ⟨_, rfl⟩
          obtain ⟨a16, h16e⟩ : ∃ a : Nat, a = i - 16 := ⟨_, rfl⟩
          obtain ⟨a7, h7e⟩ : ∃ a : Nat, a = i - 7 := ⟨_, rfl⟩
          rw [← h2e] at hc2 hx2 HNW
          rw [← h15e] at hc15 hx15 HNW
          rw [← h16e] at hx16 HNW
          rw [← h7e] at hx7 HNW
          obtain ⟨x2, hx2e⟩ : ∃ x, wF m i a2 = x := ⟨_, rfl⟩
          obtain ⟨x15, hx15e⟩ : ∃ x, wF m i a15 = x := ⟨_, rfl⟩
          rw [hx2e] at hc2 hx2 HNW
          rw [hx15e] at hc15 hx15 HNW
          have e2 : ((i : Nat) : Int) - 2 = (a2 : Nat) := by omega
          have l2 : (a2 : Int) < 64 := by omega
          have r2 : IntKind.i64.wrap (a2 : Int) = (a2 : Int) := by rw [IntKind.wrap_i64]; omega
          have e15 : ((i : Nat) : Int) - 15 = (a15 : Nat) := by omega
          have l15 : (a15 : Int) < 64 := by omega
          have r15 : IntKind.i64.wrap (a15 : Int) = (a15 : Int) := by rw [IntKind.wrap_i64]; omega
          have HI16 := Lib.hid hi1
          have HE16 := Lib.hid (show ((i : Nat) : Int) - 16 = (a16 : Nat) by omega)
          have HE7 := Lib.hid (show ((i : Nat) : Int) - 7 = (a7 : Nat) by omega)
          have HL16 := Lib.hid (show a16 < 64 by omega)
          have HL7 := Lib.hid (show a7 < 64 by omega)
          clear hmem h2e h15e h16e h7e hx2e hx15e
          go_upto_region 10 with (fail)
          go_quiet (fail)
          clear e2 l2 r2 e15 l15 r15 hc2 hc15
          go_upto_region 11 with (fail)
          refine gen_drew1 fun w9 h9 => ?_
          have HM9 := Lib.hid (show Sch w w9 (wF m i) by obtain ⟨n9, e9⟩ := h9; rw [e9]; exact HMEM.out.go (below_drewN _ _ _))
          clear h9
          go_upto_region 13 with (go_at_call 98; refine (turnedC _ _ (by omega) (by omega) (by omega) _).mono ?_; rintro _ _ ⟨rfl, rfl⟩)
          rw [s0_raw hx15, s1_raw hx2]
          have hs0 := s0_lt hx15
          have hs1 := s1_lt hx2
          obtain ⟨t0, ht0⟩ : ∃ t, s0 x15 = t := ⟨_, rfl⟩
          obtain ⟨t1, ht1⟩ : ∃ t, s1 x2 = t := ⟨_, rfl⟩
          rw [ht0] at hs0 HNW ⊢
          rw [ht1] at hs1 HNW ⊢
          have c16 := HM9.out.words.cell (i := a16) HL16.out
          have c7 := HM9.out.words.cell (i := a7) HL7.out
          have ci := HM9.out.words.cell (i := i) (by omega)
          have fi := HM9.out.words.free i
          obtain ⟨x16, hx16e⟩ : ∃ x, wF m i a16 = x := ⟨_, rfl⟩
          obtain ⟨x7, hx7e⟩ : ∃ x, wF m i a7 = x := ⟨_, rfl⟩
          rw [hx16e] at c16 hx16 HNW
          rw [hx7e] at c7 hx7 HNW
          have HS5 := Lib.hid (HM9.out.set (G := wF m (i + 1)) (k := i) (x := (x16 + t0 + x7 + t1) % 4294967296) (fun c => by rw [wF_succ, if_neg (show ¬ i < 16 by have := HI16.out; omega), HNW.out, show x16 + t0 + x7 + t1 = x16 + x7 + t0 + t1 by omega]))
          have e16 := HE16.out
          have e7 := HE7.out
          have l16 : (a16 : Int) < 64 := by have := HL16.out; omega
          have l7 : (a7 : Int) < 64 := by have := HL7.out; omega
          have l0 : (i : Int) < 64 := by omega
          have r16 : IntKind.i64.wrap (a16 : Int) = (a16 : Int) := by rw [IntKind.wrap_i64]; omega
          have r7 : IntKind.i64.wrap (a7 : Int) = (a7 : Int) := by rw [IntKind.wrap_i64]; omega
          have HNR := Lib.hid (next_raw2 x16 t0 x7 t1)
          clear ht0 ht1 hx16e hx7e
          go_still_tail 15, (by kernel_rfl)
          change wpList _ _ _ _ _ w9.drew
          go_wp2
          go_roundw
          case rel => exact ⟨i + 1, by omega, by omega, by go_num, by rw [HNR.out]; exact HS5.out.drew⟩
          case measure => simp [intOf]; omega
        · have HMEM := Lib.hid (show Sch w wr (wF m 64) by rw [show 64 = i by omega]; exact hmem)
          clear hmem
          obtain ⟨cs, hcs, hcl⟩ := HMEM.out.res
          have HA := Lib.hid (show wr.heap[w.heap.size + 1]? = some (.cells (wArr m) 90 (0, 0)) from HMEM.out.words.arr)
          have HRES := Lib.hid hcs
          have HCL := Lib.hid (show cs.size = (wArr m).size by rw [hcl, wArr_size])
          have HI := Lib.hid (wArr_info m)
          clear hcs hcl
          go_wp2_with (first
            | (refine wpList_load_row rfl 90 (.tmp 3) rfl (w.heap.size + 1) rfl 90 (wArr m) (0, 0) _ HA.out Tryd.underlying90 rfl HI.out ?_)
            | (refine wpList_store_rowTo rfl 90 (.tmp 2) (.tmp 71) rfl rfl w.heap.size (wArr m) rfl rfl 90 cs HRES.out HI.out HCL.out (wArr_one m) ?_))
          refine bodyPost_ret (v := .agg (wArr m)) ?_ rfl ⟨rfl, below_setRow HMEM.out.bel (Nat.le_refl _) _⟩
          exact results_cell_row rfl _ _ w.heap.size 90 (wArr m) (0, 0) _ rfl (setRow_heap _ _ _ _ _ _ HRES.out) Tryd.underlying90 rfl HI.out
end Go.Proofs.YtegbgnjmkohcfaaDoor.Hash
namespace Go.Proofs.YtegbgnjmkohcfaaDoor.Hash
set_option linter.unusedVariables false
open Go.ChangeShapes Go.WideShapes Go.ChangeAt Go.RowKit
open Go.Mem Sha
/-- package hash's table, in memory -/
def Tabs (w : World) : Prop := ∃ t fr, w.heap[0]? = some (.cells kArr t fr)
theorem Tabs.below {w w' : World} (h : Tabs w) (hb : Below w.heap.size w w') : Tabs w' := by
  obtain ⟨t, fr, h⟩ := h
  exact ⟨t, fr, (hb.block 0 (Array.getElem?_eq_some_iff.1 h).1).trans h⟩
theorem Tabs.cell {w : World} (h : Tabs w) {i : Nat} (hi : i < 64) : w.cell? ⟨0, i, none⟩ = some (.int .u32 (kF i : Nat)) := by
  obtain ⟨t, fr, h⟩ := h
  rw [cell_of_row _ _ _ _ _ _ h, kArr_get hi]
theorem block_zero (M : List Nat) (s : St) : Sha.block M 0 s = addSt s (rnds (fun j => word M (0 + 4 * j)) s 64) := rfl
theorem addSt_comm (s t : St) : addSt s t = addSt t s := by unfold addSt; simp [Nat.add_comm]
theorem size_st (s t : St) : (stArr s).size = (stArr t).size := rfl
/-- what is there behind the words: the state that was handed in, the result, the words, the table -/
structure Mix (w wr : World) (B : Nat) (m : Nat → Nat) (s : St) : Prop where
  two : Two w wr s
  words : Words wr B 90 64 (wF m 64)
  tab : Tabs wr
theorem Mix.go {w wr wx : World} {B : Nat} {m : Nat → Nat} {s : St} (h : Mix w wr B m s) (hb : Below wr.heap.size wr wx) : Mix w wx B m s :=
  ⟨h.two.go hb, h.words.below hb, h.tab.below hb⟩
theorem Mix.start {w wr : World} {m : Nat → Nat} {s : St} (h : Two w wr s) (ht : Tabs wr) : Mix w ((wr.alloc (.cells z64 90)).setRow wr.heap.size (wArr m)) wr.heap.size m s := by
  have hb : Below wr.heap.size wr ((wr.alloc (.cells z64 90)).setRow wr.heap.size (wArr m)) := below_setRow ((Below.refl _ _).alloc (Nat.le_refl _) _) (Nat.le_refl _) _
  exact ⟨h.go hb, Words.of_block (setRow_heap _ _ z64 _ _ _ (heap_alloc_new _ _)) (wArr_size m) (fun i hi => by simp [wArr, hi]), ht.below hb⟩
set_option maxRecDepth 100000 in
set_option maxHeartbeats 4000000 in
theorem mixedC (s : St) (hok : s.ok) (M : List Nat) (v : Value) (w : World) (hM : Bytes w v M) (h64 : M.length = 64) (hT : Tabs w) :
    Calls Tryd.prog 89 #[.agg (stArr s), v] w fun e w' => e = .returned (.agg (stArr (Sha.block M 0 s))) ∧ Below w.heap.size w w' := by
  have HM := Lib.hid hM
  have H64 := Lib.hid h64
  have HT := Lib.hid hT
  have HMB := Lib.hid (show ∀ x ∈ M, x < 256 from fun x hx => by
    obtain ⟨i, hi, rfl⟩ := List.getElem_of_mem hx
    obtain ⟨A, C, rfl, _, _, _⟩ := hM.shape
    obtain ⟨_, _, _, _, h⟩ := hM.at hi
    exact h)
  have hst := Two.start w s
  have hz := z64_run
  have hne := z64_ne
  obtain ⟨m, hm⟩ : ∃ m : Nat → Nat, m = fun j => word M (0 + 4 * j) := ⟨_, rfl⟩
  have HMM := Lib.hid hm
  have HML := Lib.hid (show ∀ j, m j < 4294967296 from fun j => by rw [hm]; exact word_lt HMB.out _)
  clear hM h64 hT hm
  go_enter Tryd.func89, Tryd.ntmps89
  go_upto_region 1 with (fail)
  generalize hw3 : ((w.alloc (.cells (stArr s) 91)).alloc (.cells #[.int .u32 0, .int .u32 0, .int .u32 0, .int .u32 0, .int .u32 0, .int .u32 0, .int .u32 0, .int .u32 0] 91)) = w3
  have HS := Lib.hid (show Two w w3 s by rw [← hw3]; exact hst)
  clear hst hw3
  have HT3 := Lib.hid (HT.out.below HS.out.bel)
  go_wp2_with fail
  refine (scheduleC M _ w3 (HM.out.below HS.out.bel) H64.out).mono ?_
  rintro _ w4 ⟨rfl, hb4⟩
  rw [← HMM.out]
  have HX := Lib.hid (Mix.start (m := m) (HS.out.go hb4) (HT3.out.below hb4))
  have HI := Lib.hid (wArr_info m)
  have HZ := Lib.hid (show z64.size = (wArr m).size by rw [z64_size, wArr_size])
  clear hb4
  go_upto_region 2 with (refine wpList_store_rowTo rfl 90 (.tmp 5) (.tmp 10) rfl rfl w4.heap.size (wArr m) rfl rfl 90 z64 (heap_alloc_new _ _) HI.out HZ.out (wArr_one m) ?_)
  generalize hw5 : (w4.alloc (.cells z64 90)).setRow w4.heap.size (wArr m) = wo
  have HMEM := Lib.hid (show Mix w wo w4.heap.size m s by rw [← hw5]; exact HX.out)
  clear hw5 hz hne
  have HA := Lib.hid (words_st HMEM.out.two.old)
  have HI8 := Lib.hid (info8 s)
  obtain ⟨B, hB⟩ : ∃ B, w4.heap.size = B := ⟨_, rfl⟩
  rw [hB] at HMEM ⊢
  clear hB
  go_upto_region 3 with (first
    | (refine wpList_load_row rfl 91 (.tmp 2) rfl w.heap.size rfl 91 (stArr s) (0, 0) _ HA.out Tryd.underlying91 rfl HI8.out ?_)
    | (refine wpList_store_rowTo rfl 91 (.tmp 6) (.tmp 11) rfl rfl wo.heap.size (stArr s) rfl rfl 91 z8 (heap_alloc_new _ _) HI8.out rfl (stArr_one s) ?_))
  generalize hwi : (wo.alloc (.cells #[.int .u32 0, .int .u32 0, .int .u32 0, .int .u32 0, .int .u32 0, .int .u32 0, .int .u32 0, .int .u32 0] 91)).setRow wo.heap.size (stArr s) = wi
  have HBI := Lib.hid (show Below wo.heap.size wo wi by rw [← hwi]; exact below_setRow ((Below.refl _ _).alloc (Nat.le_refl _) _) (Nat.le_refl _) _)
  have HSI := Lib.hid (show Words wi wo.heap.size 91 8 (Sha.St.get (rnds m s 0)) by rw [← hwi]; exact st_words (setRow_heap _ _ z8 _ _ _ (heap_alloc_new _ _)))
  clear hwi
  go_wp2_with fail
  go_loopw [12] (fun c wx => ∃ j : Nat, j ≤ 64 ∧ c = .int .i64 j ∧ Words wx wo.heap.size 91 8 (Sha.St.get (rnds m s j)) ∧ Below wo.heap.size wo wx) (fun c _ => 64 - (intOf c).toNat)
  case atStart => exact ⟨0, Nat.zero_le _, rfl, HSI.out, HBI.out⟩
  case round =>
    obtain ⟨j, hj, rfl, hws, hbj⟩ := hrel
    by_cases hlj : j < 64
    · have HMJ := Lib.hid (HMEM.out.go hbj)
      have hcw := HMJ.out.words.cell (i := j) hlj
      rw [show 64 = j + 1 + (63 - j) by omega, wF_stays] at hcw
      have hck := HMJ.out.tab.cell (i := j) hlj
      obtain ⟨R, hR⟩ : ∃ R, rnds m s j = R := ⟨_, rfl⟩
      have hokR : R.ok := hR ▸ rnds_ok hok j
      rw [hR] at hws
      have HRE := Lib.hid (show rnds m s (j + 1) = rnd 0 ((kF j + wF m (j + 1) j) % 4294967296) R by rw [rnds, hR, rnd_word]; rfl)
      have hkl := kF_lt j
      have hwl := wF_lt HML.out (j + 1) j
      obtain ⟨kk, hkk⟩ : ∃ x, kF j = x := ⟨_, rfl⟩
      obtain ⟨ww, hwwe⟩ : ∃ x, wF m (j + 1) j = x := ⟨_, rfl⟩
      rw [hkk] at HRE hck hkl
      rw [hwwe] at HRE hcw hwl
      obtain ⟨u, hu⟩ : ∃ u : Nat, u = kk + ww := ⟨_, rfl⟩
      obtain ⟨z, hze⟩ : ∃ z : Nat, z = u % 4294967296 := ⟨_, rfl⟩
      rw [← hu, ← hze] at HRE
      have HZL := Lib.hid (show z < 4294967296 by rw [hze]; exact Nat.mod_lt _ (by omega))
      have f1 : (kk : Int) + (ww : Int) = (u : Int) := by omega
      have f2 : IntKind.u32.wrap (u : Int) = (z : Int) := by rw [IntKind.wrap_u32']; omega
      have f3 : (u : Int) % 4294967296 = (z : Int) := by omega
      obtain ⟨a, b, c, d, e, f, g, g8⟩ := R
      have HOKR := Lib.hid hokR
      have c0 : wr.cell? ⟨wo.heap.size, 0, none⟩ = some (.int .u32 (a : Nat)) := hws.cell (i := 0) (by omega)
      have c1 : wr.cell? ⟨wo.heap.size, 1, none⟩ = some (.int .u32 (b : Nat)) := hws.cell (i := 1) (by omega)
      have c2 : wr.cell? ⟨wo.heap.size, 2, none⟩ = some (.int .u32 (c : Nat)) := hws.cell (i := 2) (by omega)
      have c3 : wr.cell? ⟨wo.heap.size, 3, none⟩ = some (.int .u32 (d : Nat)) := hws.cell (i := 3) (by omega)
      have c4 : wr.cell? ⟨wo.heap.size, 4, none⟩ = some (.int .u32 (e : Nat)) := hws.cell (i := 4) (by omega)
      have c5 : wr.cell? ⟨wo.heap.size, 5, none⟩ = some (.int .u32 (f : Nat)) := hws.cell (i := 5) (by omega)
      have c6 : wr.cell? ⟨wo.heap.size, 6, none⟩ = some (.int .u32 (g : Nat)) := hws.cell (i := 6) (by omega)
      have c7 : wr.cell? ⟨wo.heap.size, 7, none⟩ = some (.int .u32 (g8 : Nat)) := hws.cell (i := 7) (by omega)
      have l0 : (j : Int) < 64 := by omega
      have HWS := Lib.hid hws
      have HBJ := Lib.hid hbj
      clear hws hbj hkk hwwe hR hu hze hokR hkl hwl
      go_upto_region 6 with (fail)
      go_still_tail 8, (by kernel_rfl)
      change wpList _ _ _ _ _ wr.drew
      have HDR := Lib.hid (show Below wr.heap.size wr wr.drew from (Below.refl _ _).drew)
      clear f1 f2 f3 c0 c1 c2 c3 c4 c5 c6 c7 hcw hck
      go_wp2_with fail
      refine (roundC ⟨a, b, c, d, e, f, g, g8⟩ HOKR.out z HZL.out wr.drew).mono ?_
      rintro _ w6 ⟨rfl, hb6⟩
      have HB6 := Lib.hid hb6
      have HST6 := Lib.hid (words_st ((HWS.out.below HDR.out).below hb6))
      rw [← HRE.out]
      have HI8b := Lib.hid (info8 (rnds m s (j + 1)))
      clear hb6
      go_wp2_with (refine wpList_store_rowTo rfl 91 (.tmp 6) (.tmp 23) rfl rfl wo.heap.size (stArr (rnds m s (j + 1))) rfl rfl 91 (stArr ⟨a, b, c, d, e, f, g, g8⟩) HST6.out HI8b.out (size_st _ _) (stArr_one _) ?_)
      go_roundw
      case rel => exact ⟨j + 1, by omega, by go_num, st_words (setRow_heap _ _ _ _ _ _ HST6.out), below_setRow (HBJ.out.trans ((HDR.out.mono HBJ.out.size).trans (HB6.out.mono HBJ.out.size))) (Nat.le_refl _) _⟩
      case measure => simp [intOf]; omega
    · have hj64 : j = 64 := by omega
      obtain ⟨R, hR⟩ : ∃ R, rnds m s j = R := ⟨_, rfl⟩
      have hokR : R.ok := hR ▸ rnds_ok hok j
      have HBZ := Lib.hid (show Sha.block M 0 s = addSt R s by rw [block_zero, ← HMM.out, ← hj64, hR, addSt_comm])
      rw [hR] at hws
      have HOKR := Lib.hid hokR
      have HOK := Lib.hid hok
      have HWS := Lib.hid hws
      have HBJ := Lib.hid hbj
      clear hws hbj hR hokR hj64
      obtain ⟨wy, hwy⟩ : ∃ wy : World, wy = wr := ⟨_, rfl⟩
      subst hwy
      go_wp2_with fail
      go_loopw [25] (fun c wx => ∃ p : Nat, p ≤ 8 ∧ c = .int .i64 p ∧ Words wx wo.heap.size 91 8 (sumF R s p) ∧ Below wo.heap.size wo wx) (fun c _ => 8 - (intOf c).toNat)
      case atStart => exact ⟨0, Nat.zero_le _, rfl, HWS.out.congr (fun x _ => if_neg (by omega)), HBJ.out⟩
      case round =>
        obtain ⟨p, hp, rfl, hwt, hbp⟩ := hrel
        by_cases hlp : p < 8
        · have hct := hwt.cell hlp
          have hft := hwt.free p
          have hca := (HMEM.out.go hbp).two.old.cell hlp
          rw [sumF_at] at hct
          have hxl := get_lt HOKR.out p
          have hyl := get_lt HOK.out p
          have HN := Lib.hid ((hwt.set p ((Sha.St.get R p + Sha.St.get s p) % 4294967296)).congr (G := sumF R s (p + 1)) fun x _ => sumF_next R s p x)
          obtain ⟨x, hx⟩ : ∃ x, Sha.St.get R p = x := ⟨_, rfl⟩
          obtain ⟨y, hy⟩ : ∃ x, Sha.St.get s p = x := ⟨_, rfl⟩
          rw [hx] at hct hxl HN
          rw [hy] at hca hyl HN
          have HB := Lib.hid (hbp.setCell (p := ⟨wo.heap.size, p, none⟩) (Nat.le_refl _) (.int .u32 (((x + y) % 4294967296 : Nat) : Int)))
          have l0 : (p : Int) < 8 := by omega
          clear hwt hbp hx hy
          go_upto_region 11 with (fail)
          go_still_tail 8, (by kernel_rfl)
          change wpList _ _ _ _ _ wr.drew
          go_wp2
          go_roundw
          case rel => exact ⟨p + 1, by omega, by go_num, HN.out.drew, HB.out.drew⟩
          case measure => simp [intOf]; omega
        · obtain rfl : p = 8 := by omega
          have HE := Lib.hid (words_st (hwt.congr (G := Sha.St.get (addSt R s)) fun x hx => sumF_end R s hx))
          have hme := HMEM.out.go hbp
          obtain ⟨cs, hcs, hcl⟩ := hme.two.res
          have HRES := Lib.hid hcs
          have HCL := Lib.hid (show cs.size = (stArr (addSt R s)).size from hcl)
          have HI8b := Lib.hid (info8 (addSt R s))
          have HBW := Lib.hid hme.two.bel
          clear hwt hbp hme hcs hcl
          go_wp2_with (first
            | (refine wpList_load_row rfl 91 (.tmp 6) rfl wo.heap.size rfl 91 (stArr (addSt R s)) (0, 0) _ HE.out Tryd.underlying91 rfl HI8b.out ?_)
            | (refine wpList_store_rowTo rfl 91 (.tmp 4) (.tmp 37) rfl rfl (w.heap.size + 1) (stArr (addSt R s)) rfl rfl 91 cs HRES.out HI8b.out HCL.out (stArr_one _) ?_))
          refine bodyPost_ret (v := .agg (stArr (addSt R s))) ?_ rfl ⟨by rw [HBZ.out], below_setRow HBW.out (by omega) _⟩
          exact results_cell_row rfl _ _ (w.heap.size + 1) 91 (stArr (addSt R s)) (0, 0) _ rfl (setRow_heap _ _ _ _ _ _ HRES.out) Tryd.underlying91 rfl HI8b.out
end Go.Proofs.YtegbgnjmkohcfaaDoor.Hash
namespace Sha
/-- the state behind n blocks, from any one on -/
def blocksFrom (M : List Nat) (s : St) : Nat → St
  | 0 => s
  | n + 1 => block M (64 * n) (blocksFrom M s n)
theorem blocksFrom_ok {M : List Nat} {s : St} (h : s.ok) : ∀ n, (blocksFrom M s n).ok
  | 0 => h
  | _ + 1 => addSt_ok _ _
theorem blocksFrom_begun (M : List Nat) : ∀ n, blocksFrom M begun n = blocks M n
  | 0 => rfl
  | n + 1 => by rw [blocksFrom, blocks, blocksFrom_begun M n]
/-- a block hangs on its own bytes alone -/
theorem block_same {M M' : List Nat} {o o' : Nat} (s : St) (h : (M.drop o).take 64 = (M'.drop o').take 64) : block M o s = block M' o' s := by
  rw [← block_drop M, ← block_drop M', h]
theorem blocksFrom_left {M N : List Nat} {s : St} : ∀ n, 64 * n ≤ M.length → blocksFrom (M ++ N) s n = blocksFrom M s n
  | 0, _ => rfl
  | n + 1, h => by
    rw [blocksFrom, blocksFrom, blocksFrom_left n (by omega)]
    refine block_same _ ?_
    rw [List.drop_append_of_le_length (by omega), List.take_append_of_le_length (by simp; omega)]
theorem blocksFrom_right {M N : List Nat} {s : St} {q : Nat} (hq : M.length = 64 * q) : ∀ n, blocksFrom (M ++ N) s (q + n) = blocksFrom N (blocksFrom M s q) n
  | 0 => by rw [Nat.add_zero, blocksFrom_left q (by omega)]; rfl
  | n + 1 => by
    rw [← Nat.add_assoc, blocksFrom, blocksFrom, blocksFrom_right hq n]
    refine block_same _ ?_
    rw [List.drop_append, show 64 * (q + n) - M.length = 64 * n by omega, List.drop_of_length_le (by omega), List.nil_append]
end Sha
namespace Go.Proofs.YtegbgnjmkohcfaaDoor.Hash
set_option linter.unusedVariables false
open Go.ChangeShapes Go.WideShapes Go.ChangeAt Go.RowKit
open Go.Mem Sha
theorem block_bytes {w : World} {b n C o P : Nat} {M : List Nat} (h : Bytes w (.slice (some ⟨b, o, none⟩) n C) M) (ho : P + 64 ≤ M.length) : Bytes w (.slice (some ⟨b, o + P, none⟩) 64 (C - P)) ((M.drop P).take 64) := by
  have h1 := h.drop (j := P) (by omega)
  exact Bytes.take h1 (j := 64) (by simp; omega)
theorem grown_setRow (w : World) (g : Nat) (cs : Array Value) : w.grownBy (w.setRow g cs) (some g) := ⟨rfl, rfl, rfl, by simp, fun i _ hne => setRow_other _ _ _ _ (fun e => hne (by rw [e]))⟩
set_option maxRecDepth 100000 in
set_option maxHeartbeats 4000000 in
theorem stirredC (s : St) (hok : s.ok) (M : List Nat) (v : Value) (w : World) (NB : Nat) (hM : Bytes w v M) (hNB : M.length = 64 * NB) (hN : NB ≤ 10000) (hT : Tabs w) :
    Calls Tryd.prog 73 #[.agg (stArr s), v] w fun e w' => e = .returned (.agg (stArr (blocksFrom M s NB))) ∧ Below w.heap.size w w' := by
  obtain ⟨A, C, rfl, h1, h2, _⟩ := hM.shape
  rw [hNB] at hM h1 ⊢
  have HM := Lib.hid hM
  have HPL := Lib.hid hNB
  have HT := Lib.hid hT
  have hst := Two.start w s
  clear hM hNB hT
  go_enter Tryd.func73, Tryd.ntmps73
  go_upto_region 1 with (fail)
  generalize hw3 : ((w.alloc (.cells (stArr s) 91)).alloc (.cells #[.int .u32 0, .int .u32 0, .int .u32 0, .int .u32 0, .int .u32 0, .int .u32 0, .int .u32 0, .int .u32 0] 91)) = w3
  have HS := Lib.hid (show Two w w3 s by rw [← hw3]; exact hst)
  clear hst hw3
  go_wp2_with fail
  go_loopw [5] (fun c wr => ∃ q : Nat, q ≤ NB ∧ c = .int .i64 (64 * (q : Int)) ∧ Two w wr (blocksFrom M s q)) (fun c _ => 64 * NB - (intOf c).toNat)
  case atStart => exact ⟨0, Nat.zero_le _, by simp, HS.out⟩
  case round =>
    obtain ⟨q, hq, rfl, htwo⟩ := hrel
    by_cases hlt : q < NB
    · have HTW := Lib.hid htwo
      have hmr := HM.out.below htwo.bel
      obtain ⟨b, o, rfl, -, -⟩ := hmr.at (i := 64 * q) (by rw [HPL.out]; omega)
      have HNX := Lib.hid (show blocksFrom M s (q + 1) = Sha.block ((M.drop (64 * q)).take 64) 0 (blocksFrom M s q) by rw [block_drop]; rfl)
      have hokR := blocksFrom_ok (M := M) hok q
      obtain ⟨R, hR⟩ : ∃ R, blocksFrom M s q = R := ⟨_, rfl⟩
      rw [hR] at HTW HNX hokR
      obtain ⟨a, b', c, d, e, f, g, g8⟩ := R
      have HOKR := Lib.hid hokR
      have c0 : wr.cell? ⟨w.heap.size, 0, none⟩ = some (.int .u32 (a : Nat)) := HTW.out.old.cell (i := 0) (by omega)
      have c1 : wr.cell? ⟨w.heap.size, 1, none⟩ = some (.int .u32 (b' : Nat)) := HTW.out.old.cell (i := 1) (by omega)
      have c2 : wr.cell? ⟨w.heap.size, 2, none⟩ = some (.int .u32 (c : Nat)) := HTW.out.old.cell (i := 2) (by omega)
      have c3 : wr.cell? ⟨w.heap.size, 3, none⟩ = some (.int .u32 (d : Nat)) := HTW.out.old.cell (i := 3) (by omega)
      have c4 : wr.cell? ⟨w.heap.size, 4, none⟩ = some (.int .u32 (e : Nat)) := HTW.out.old.cell (i := 4) (by omega)
      have c5 : wr.cell? ⟨w.heap.size, 5, none⟩ = some (.int .u32 (f : Nat)) := HTW.out.old.cell (i := 5) (by omega)
      have c6 : wr.cell? ⟨w.heap.size, 6, none⟩ = some (.int .u32 (g : Nat)) := HTW.out.old.cell (i := 6) (by omega)
      have c7 : wr.cell? ⟨w.heap.size, 7, none⟩ = some (.int .u32 (g8 : Nat)) := HTW.out.old.cell (i := 7) (by omega)
      have HBY := Lib.hid (block_bytes hmr (P := 64 * q) (by rw [HPL.out]; omega))
      have HLEN := Lib.hid (show ((M.drop (64 * q)).take 64).length = 64 by simp [HPL.out]; omega)
      obtain ⟨P, hP⟩ : ∃ P : Nat, P = 64 * q := ⟨_, rfl⟩
      have e1 : (64 : Int) * (q : Int) = (P : Int) := by omega
      obtain ⟨Z, hZ⟩ : ∃ Z : Nat, Z = P + 64 := ⟨_, rfl⟩
      have e2 : (P : Int) + 64 = (Z : Int) := by omega
      have e3 : IntKind.i64.wrap (Z : Int) = (Z : Int) := by rw [IntKind.wrap_i64]; omega
      have e4 : (Z : Int) - (P : Int) = 64 := by omega
      have e5 : Z - P = 64 := by omega
      have q1 : (Z : Int) ≤ (C : Int) := by omega
      have q2 : (P : Int) ≤ (Z : Int) := by omega
      have q3 : (P : Int) < 64 * (NB : Int) := by omega
      have q4 : ¬ P = C := by omega
      have q5 : Z ≤ C := by omega
      have q6 : P ≤ Z := by omega
      have HP := Lib.hid hP
      have HZ := Lib.hid hZ
      rw [← hP] at HBY HLEN HNX
      clear hmr htwo hokR hR hP hZ
      go_upto_region 4 with (fail)
      go_still_tail 6, (by kernel_rfl)
      change wpList _ _ _ _ _ wr.drew
      have HDR := Lib.hid (show Below wr.heap.size wr wr.drew from (Below.refl _ _).drew)
      clear e2 e3 e4 e5 q1 q2 q4 q5 q6 c0 c1 c2 c3 c4 c5 c6 c7
      go_wp2_with fail
      refine (mixedC ⟨a, b', c, d, e, f, g, g8⟩ HOKR.out ((M.drop P).take 64) _ wr.drew (HBY.out.below HDR.out) HLEN.out ((HT.out.below HTW.out.bel).below HDR.out)).mono ?_
      rintro _ w6 ⟨rfl, hb6⟩
      have HB6 := Lib.hid hb6
      have HTW6 := Lib.hid ((HTW.out.go HDR.out).go hb6)
      have HST6 := Lib.hid (words_st HTW6.out.old)
      rw [← HNX.out]
      have HI8b := Lib.hid (info8 (blocksFrom M s (q + 1)))
      clear hb6
      go_wp2_with (refine wpList_store_rowTo rfl 91 (.tmp 2) (.tmp 18) rfl rfl w.heap.size (stArr (blocksFrom M s (q + 1))) rfl rfl 91 (stArr ⟨a, b', c, d, e, f, g, g8⟩) HST6.out HI8b.out (size_st _ _) (stArr_one _) ?_)
      go_roundw
      case rel =>
        refine ⟨q + 1, by omega, int_i64 (by have := HP.out; omega), st_words (setRow_heap _ _ _ _ _ _ HST6.out), ?_, below_setRow HTW6.out.bel (Nat.le_refl _) _⟩
        obtain ⟨cs, hc, hs⟩ := HTW6.out.res
        exact ⟨cs, (setRow_other _ _ _ _ (by omega)).trans hc, hs⟩
      case measure => have := HP.out; simp [intOf]; omega
    · have hqn : q = NB := by omega
      have HTW := Lib.hid (hqn ▸ htwo)
      clear htwo
      have HE := Lib.hid (words_st HTW.out.old)
      obtain ⟨cs, hcs, hcl⟩ := HTW.out.res
      have HRES := Lib.hid hcs
      have HCL := Lib.hid (show cs.size = (stArr (blocksFrom M s NB)).size from hcl)
      have HI8b := Lib.hid (info8 (blocksFrom M s NB))
      have q3 : ¬ (64 : Int) * (q : Int) < 64 * (NB : Int) := by omega
      clear hcs hcl hqn
      go_wp2_with (first
        | (refine wpList_load_row rfl 91 (.tmp 2) rfl w.heap.size rfl 91 (stArr (blocksFrom M s NB)) (0, 0) _ HE.out Tryd.underlying91 rfl HI8b.out ?_)
        | (refine wpList_store_rowTo rfl 91 (.tmp 4) (.tmp 19) rfl rfl (w.heap.size + 1) (stArr (blocksFrom M s NB)) rfl rfl 91 cs HRES.out HI8b.out HCL.out (stArr_one _) ?_))
      refine bodyPost_ret (v := .agg (stArr (blocksFrom M s NB))) ?_ rfl ⟨rfl, below_setRow HTW.out.bel (by omega) _⟩
      exact results_cell_row rfl _ _ (w.heap.size + 1) 91 (stArr (blocksFrom M s NB)) (0, 0) _ rfl (setRow_heap _ _ _ _ _ _ HRES.out) Tryd.underlying91 rfl HI8b.out
end Go.Proofs.YtegbgnjmkohcfaaDoor.Hash
namespace Go.Proofs.YtegbgnjmkohcfaaDoor.Hash
set_option linter.unusedVariables false
open Go.ChangeShapes Go.WideShapes Go.ChangeAt Go.RowKit
open Go.Mem Sha
set_option maxHeartbeats 1000000 in
theorem withNumberC (base : Nat) (L : List Nat) (v : Value) (n : Nat) (w : World) (hv : Built ByteR w base 5 v L) (hL : L.length ≤ 200000) (hn : n < 18446744073709551616) (hb : base ≤ w.heap.size) :
    Calls Tryd.prog 55 #[v, .int .u64 n] w fun e w' => ∃ u, e = .returned u ∧ Built ByteR w' base 5 u (L ++ numB n 8) ∧ Below base w w' := by
  have HV := Lib.hid (show Built ByteR w base 5 v (L ++ (numB n 8).take 0) by simpa using hv)
  have HLL := Lib.hid hL
  clear hv hL
  go_enter Tryd.func55, Tryd.ntmps55
  go_wp2
  go_loopw [0, 5] (fun u c wr => ∃ r k : Nat, r + k = 8 ∧ c = .int .i64 (8 * (r : Int) - 8) ∧ Built ByteR wr base 5 u (L ++ (numB n 8).take k) ∧ Below base w wr) (fun _ c _ => (intOf c + 8).toNat)
  case atStart => exact ⟨8, 0, rfl, rfl, HV.out, Below.refl _ _⟩
  case round =>
    obtain ⟨r, k, hrk, rfl, hbu, hbr⟩ := hrel
    rcases r with _ | r
    · obtain rfl : k = 8 := by omega
      have HB := Lib.hid (show Built ByteR wr base 5 _ (L ++ numB n 8) by rw [List.take_of_length_le (by rw [numB_len]; omega)] at hbu; exact hbu)
      have HW := Lib.hid hbr
      clear hbu hbr
      go_wp2
      go_ret
      exact ⟨_, rfl, HB.out, HW.out⟩
    · obtain ⟨A5, C5, rfl, hc1, hc2⟩ := hbu.len
      have hlen : (L ++ (numB n 8).take k).length = L.length + k := by simp [numB_len]; omega
      have HN := Lib.hid hlen
      have HBU := Lib.hid hbu
      have HBR := Lib.hid hbr
      have HSN := Lib.hid (show L ++ (numB n 8).take (k + 1) = L ++ (numB n 8).take k ++ [n / 2 ^ (8 * r) % 256] by
        rw [numB_snoc (by omega), pow256, ← List.append_assoc, show 8 - 1 - k = r by omega])
      rw [hlen] at HBU hc1 ⊢
      obtain ⟨N, hN⟩ : ∃ N, L.length + k = N := ⟨_, rfl⟩
      rw [hN] at HBU HN hc1 ⊢
      have HNN := Lib.hid hN
      clear hlen hbu hbr hN
      have hy : n / 2 ^ (8 * r) % 256 < 256 := Nat.mod_lt _ (by omega)
      have HY := Lib.hid (show ((n : Int) / 2 ^ (8 * r) % 256) = ((n / 2 ^ (8 * r) % 256 : Nat) : Int) by simp)
      rw [show (8 * ((r + 1 : Nat) : Int) - 8) = 8 * (r : Int) by omega]
      have hr7 : r ≤ 7 := by omega
      go_wp2_with (at_builtin; refine wpList_append_built (R := ByteR) _ rfl (.tmp 10) (.tmp 15) 23 rfl base 5 (.int .u8 0) 1 Tryd.underlying23 infoByte rfl _ _ rfl HBU.out _ (n / 2 ^ (8 * r) % 256) _ rfl (by simp) rfl (fun _ _ => ⟨by rw [← HY.out], hy⟩) (by rw [HN.out]; have := HNN.out; have := HLL.out; omega) (Nat.le_trans hb HBR.out.size) ?_; intro v' w' hbu' hg' hb')
      go_roundw
      case rel => exact ⟨r, k + 1, by omega, rfl, by rw [HSN.out]; exact hbu', HBR.out.trans hb'⟩
      case measure => simp [intOf]; omega
set_option maxHeartbeats 1000000 in
theorem cloneC (l : List Nat) (v : Value) (w : World) (h : Bytes w v l) (hl : l.length ≤ 200000) :
    Calls Tryd.prog 90 #[v] w fun e w' => ∃ u, e = .returned u ∧ Built ByteR w' w.heap.size 5 u l ∧ Below w.heap.size w w' := by
  obtain ⟨A, C, rfl, h1, h2, h3⟩ := h.shape
  have hne := Lib.run_eql_slice_nil (P := Tryd.prog)
  rcases A with _ | ad
  · have hC := h3 rfl
    have hl0 : l = [] := List.length_eq_zero_iff.1 (by omega)
    subst hl0
    subst hC
    go_enter Tryd.func90, Tryd.ntmps90
    go_wp2_with fail
    go_ret
    exact ⟨_, rfl, Built.start _ _ _, Below.refl _ _⟩
  · have hal : Below w.heap.size w (w.alloc (.cells #[] 5)) := (Below.refl _ _).alloc (Nat.le_refl _) _
    have HB := Lib.hid (built_none (R := ByteR) (t := 5) w (Nat.le_refl _))
    have HL := Lib.hid (h.below hal)
    have HA := Lib.hid hal
    have HLL := Lib.hid hl
    clear hal h hl
    go_enter Tryd.func90, Tryd.ntmps90
    go_wp2_with (at_builtin; refine wpList_append_list byteR_world byteR_one _ rfl (.tmp 5) (.tmp 6) 23 rfl w.heap.size 5 (.int .u8 0) 1 Tryd.underlying23 infoByte rfl _ _ rfl HB.out _ _ _ _ rfl HL.out (by have := HLL.out; simp; omega) (by simp) ?_; intro v' w' hbu' hg' hb')
    go_ret
    exact ⟨_, rfl, hbu', HA.out.trans hb'⟩
set_option maxHeartbeats 2000000 in
theorem endingC (l : List Nat) (v : Value) (n : Nat) (w : World) (hl : Bytes w v l) (hn : l.length ≤ 100000) (hs : n ≤ 100000) :
    Calls Tryd.prog 74 #[v, .int .i64 n] w fun e w' => ∃ u, e = .returned u ∧ Built ByteR w' w.heap.size 5 u (l ++ [128] ++ List.replicate (zerosOf l.length) 0 ++ numB (n * 8) 8) ∧ Below w.heap.size w w' := by
  obtain ⟨L, hL⟩ : ∃ L, l.length = L := ⟨_, rfl⟩
  have hL5 : L ≤ 100000 := by omega
  have HLZ := Lib.hid (show ∀ k, (l ++ [128] ++ List.replicate k 0).length = L + 1 + k by intro k; simp [hL]; omega)
  rw [hL]
  have HL := Lib.hid hL
  have HV := Lib.hid hl
  clear hL hn hl
  go_enter Tryd.func74, Tryd.ntmps74
  go_wp2_with fail
  refine (cloneC l v w HV.out (by rw [HL.out]; omega)).mono ?_
  rintro _ w3 ⟨v3, rfl, hbu3, hb3⟩
  obtain ⟨v4, w4, hr4, hbu4, _, hb4⟩ := run_append_built (P := Tryd.prog) (R := ByteR) w3 w.heap.size 23 23 5 (.int .u8 0) 1 Tryd.underlying23 infoByte rfl v3 l hbu3 (.int .u8 128) 128 rfl (fun _ _ => ⟨rfl, by omega⟩) (by rw [HL.out]; omega) hb3.size
  have HR4 := Lib.hid hr4
  have HB4 := Lib.hid (show Built ByteR w4 w.heap.size 5 v4 (l ++ [128] ++ List.replicate 0 0) by simpa using hbu4)
  have HW := Lib.hid (hb3.trans hb4)
  clear hr4 hbu4 hb4 hbu3 hb3
  go_wp2_with (at_builtin; refine Lib.wpList_append_run _ rfl (.tmp 7) (.tmp 8) _ _ rfl _ _ rfl rfl _ _ HR4.out ?_)
  go_loopw [5] (fun v wr => ∃ k : Nat, k ≤ zerosOf L ∧ Built ByteR wr w.heap.size 5 v (l ++ [128] ++ List.replicate k 0) ∧ Below w.heap.size w wr) (fun v _ => L + 1 + zerosOf L - sliceLen v)
  case atStart => exact ⟨0, Nat.zero_le _, HB4.out, HW.out⟩
  case round =>
    obtain ⟨k, hk, hbu, hbr⟩ := hrel
    obtain ⟨A5, C5, rfl, hc1, hc2⟩ := hbu.len
    have hlen := HLZ.out k
    have hzb := zeros_bd L
    rw [hlen] at hc1 hbu ⊢
    have HN := Lib.hid hlen
    clear hlen
    obtain ⟨x, hne5⟩ : ∃ x, L + 1 + k = x := ⟨_, rfl⟩
    have hn5 : x ≤ 200000 := by omega
    have HBR := Lib.hid hbr
    by_cases hlt : k < zerosOf L
    · have HZ := Lib.hid (zeros_lt hlt)
      rw [hne5] at HZ hbu hc1 HN ⊢
      have ht : (((x : Nat) : Int) % 64 != 56) = true := by rw [bne_iff_ne]; exact HZ.out
      have HNE := Lib.hid hne5
      have HBU := Lib.hid hbu
      clear hne5 hbu hbr
      go_wp2_with (at_builtin; refine wpList_append_built (R := ByteR) _ rfl (.tmp 14) (.tmp 15) 23 rfl w.heap.size 5 (.int .u8 0) 1 Tryd.underlying23 infoByte rfl _ _ rfl HBU.out _ 0 _ rfl (by simp) rfl (fun _ _ => ⟨rfl, by omega⟩) (by rw [HN.out]; omega) HBR.out.size ?_; intro v' w' hbu' hg' hb')
      obtain ⟨A6, C6, rfl, hc6, hd6⟩ := hbu'.len
      go_roundw
      case rel => exact ⟨k + 1, by omega, by rw [← rep_snoc]; exact hbu', HBR.out.trans hb'⟩
      case measure =>
        have e : (l ++ [128] ++ List.replicate k 0 ++ [0]).length = x + 1 := by rw [List.length_append, HN.out]; rfl
        rw [e]
        show L + 1 + zerosOf L - (x + 1) < L + 1 + zerosOf L - x
        have := HNE.out
        omega
    · obtain rfl : k = zerosOf L := by omega
      have HZ := Lib.hid (zeros_eq L)
      rw [hne5] at HZ hbu hc1 HN ⊢
      have ht : (((x : Nat) : Int) % 64 != 56) = false := by rw [bne_eq_false_iff_eq]; exact HZ.out
      have HBU := Lib.hid hbu
      clear hne5 hbu hbr
      go_wp2_with fail
      refine (withNumberC w.heap.size _ _ (n * 8) wr HBU.out (by rw [HN.out]; omega) (by omega) HBR.out.size).mono ?_
      rintro _ w6 ⟨u6, rfl, hu6, hb6⟩
      have HU := Lib.hid hu6
      have HB := Lib.hid (HBR.out.trans hb6)
      clear hu6 hb6
      go_wp2_with fail
      go_ret
      exact ⟨_, rfl, HU.out, HB.out⟩
end Go.Proofs.YtegbgnjmkohcfaaDoor.Hash
namespace Sha
/-- the last blocks of l, of which the first q blocks stand by themselves -/
def endOf (l : List Nat) (q : Nat) : List Nat := l.drop (64 * q) ++ [128] ++ List.replicate (zerosOf (l.drop (64 * q)).length) 0 ++ numB (l.length * 8) 8
theorem endOf_len {l : List Nat} {q R : Nat} (hl : l.length = 64 * q + R) : (endOf l q).length = R + 1 + zerosOf R + 8 := by
  have hd : (l.drop (64 * q)).length = R := by rw [List.length_drop]; omega
  unfold endOf
  rw [hd]
  simp only [List.length_append, List.length_replicate, numB_len, hd, List.length_cons, List.length_nil]
theorem pad_parts {l : List Nat} {q R : Nat} (hl : l.length = 64 * q + R) (h5 : l.length ≤ 100000) : pad l = l.take (64 * q) ++ endOf l q := by
  have hd : (l.drop (64 * q)).length = R := by rw [List.length_drop]; omega
  have hz : zerosOf R = zerosOf l.length := by unfold zerosOf; omega
  unfold pad endOf
  rw [hd, hz, Nat.mod_eq_of_lt (by omega), Nat.mul_comm 8]
  simp only [← List.append_assoc, List.take_append_drop]
theorem sha_parts {l : List Nat} {q R : Nat} (hl : l.length = 64 * q + R) (h5 : l.length ≤ 100000) (hR : R < 64) :
    ∃ e, e ≤ 10000 ∧ (endOf l q).length = 64 * e ∧ sha l = outB (blocksFrom (endOf l q) (blocksFrom (l.take (64 * q)) begun q) e) 8 := by
  have h1 := endOf_len hl
  have h2 : zerosOf R = (119 - R % 64) % 64 := rfl
  obtain ⟨e, he⟩ : ∃ e, (endOf l q).length = 64 * e := ⟨(endOf l q).length / 64, by omega⟩
  refine ⟨e, by omega, he, ?_⟩
  have ht : (l.take (64 * q)).length = 64 * q := by rw [List.length_take]; omega
  unfold sha
  rw [← blocksFrom_begun, pad_parts hl h5, List.length_append, ht, he, show (64 * q + 64 * e) / 64 = q + e by omega, blocksFrom_right ht]
end Sha
namespace Go.Mem
open Go.RowKit
theorem run_index_arr {P : Program} (t e : TypeId) (n : Nat) (ke : IntKind) (cs : Array Value) (k : IntKind) (i : Nat) (x : Value) (ht : P.underlying t = some (.array n e)) (he : P.underlying e = some (.int ke)) (hs : (P.info? e).map (·.size) = some 1)
    (hi : i < n) (hx : cs[i]? = some x) (w : World) : (Instr.index t (.agg cs) (.int k (i : Nat))).run P w = .ok x w := by
  have h1 : (0 : Int) ≤ (i : Int) ∧ (i : Int) < (n : Int) := by omega
  cases hq : P.info? e with
  | none => simp [hq] at hs
  | some ie =>
    have hz : ie.size = 1 := by simpa [hq] using hs
    have hsz : (sizeOf e).run P w = .ok 1 w := by simp [sizeOf, typeInfo, hq, hz]
    have hagg : (isAgg e).run P w = .ok false w := by
      unfold isAgg
      rw [Sem.run_bind, run_underlying he w]
      rfl
    simp [Instr.index, run_underlying ht, asIntOf, h1, part, Sem.run_bind, hsz, hagg, hx]
    intro h
    exact absurd hi (by omega)
end Go.Mem
namespace Go.Proofs.YtegbgnjmkohcfaaDoor.Hash
set_option linter.unusedVariables false
open Go.ChangeShapes Go.WideShapes Go.ChangeAt Go.RowKit
open Go.Mem Sha
theorem info1 : (Tryd.prog.info? 89).map (·.size) = some 1 := by kernel_rfl
theorem hArr_one : hArr.all (·.oneCell') = true := by simp [hArr, Value.oneCell']
theorem hArr_info : (Tryd.prog.info? 91).map (·.size) = some hArr.size := by
  have h : (Tryd.prog.info? 91).map (·.size) = some 8 := by kernel_rfl
  exact h
theorem empty_bytes (w : World) (A : Option Addr) : Bytes w (.slice A 0 0) [] := ⟨A, 0, 0, rfl, rfl, Nat.le_refl _, Nat.zero_le _, fun _ => rfl, fun i hi => absurd hi (by simp)⟩
set_option maxRecDepth 100000 in
/-- b[n:], whatever b is -/
theorem slice_tail (l : List Nat) (A : Option Addr) (L C W : Nat) (hL : l.length = L) (hW : W ≤ L) (hC : L ≤ C) :
    ∃ A' D, (∀ w, (Instr.slice 23 (.slice A L C) (some (.int .i64 (W : Nat))) none none).run Tryd.prog w = .ok (.slice A' (L - W) D) w) ∧ ∀ w, Bytes w (.slice A L C) l → Bytes w (.slice A' (L - W) D) (l.drop W) := by
  have hsz : ∀ w, (sizeOf 5).run Tryd.prog w = .ok 1 w := fun w => by kernel_rfl
  refine ⟨if C = W then A else A.map (·.add (W * 1)), C - W, fun w => ?_, fun w h => ?_⟩
  · rw [run_slice_l w 23 A L C Tryd.underlying23 .i64 (W : Nat) (by omega) (by omega)]
    rw [show Tryd.prog.elem 23 = 5 from rfl, hsz]
    simp only [Result.andThen, sliced, Int.toNat_natCast]
  · obtain ⟨A1, n1, C1, e1, e2, e3, e4, e5, e6⟩ := h
    cases e1
    refine ⟨_, L - W, C - W, rfl, by rw [List.length_drop]; omega, by omega, by omega, fun hn => ?_, fun i hi => ?_⟩
    · have : A = none := by
        by_cases hc : C = W
        · rw [if_pos hc] at hn; exact hn
        · rw [if_neg hc] at hn; simpa using hn
      have := e5 this
      omega
    · have hi' : W + i < l.length := by rw [List.length_drop] at hi; omega
      obtain ⟨b, o, c, k1, k2, k3⟩ := e6 (W + i) hi'
      refine ⟨b, o + W, c, ?_, by rw [Nat.add_assoc]; exact k2, by rw [List.getElem_drop]; exact k3⟩
      rw [if_neg (by omega), k1, Nat.mul_one]
      unfold Addr.add
      by_cases h0 : W = 0
      · subst h0; rfl
      · simp [h0]
set_option maxRecDepth 100000 in
set_option maxHeartbeats 4000000 in
theorem sumC (l : List Nat) (v : Value) (w : World) (hT : Tabs w) (hl : Bytes w v l) (hn : l.length ≤ 100000) :
    Calls Tryd.prog 56 #[v] w fun e w' => ∃ u, e = .returned u ∧ Bytes w' u (sha l) ∧ Below w.heap.size w w' := by
  obtain ⟨A, C, rfl, h1, h2, h3⟩ := hl.shape
  obtain ⟨L, hL⟩ : ∃ L, l.length = L := ⟨_, rfl⟩
  obtain ⟨q, hq⟩ : ∃ q, q = L / 64 := ⟨_, rfl⟩
  obtain ⟨R, hR⟩ : ∃ R, R = L % 64 := ⟨_, rfl⟩
  obtain ⟨e, he, hE, hsha⟩ := sha_parts (l := l) (q := q) (R := R) (by omega) hn (by omega)
  have HEND := Lib.hid (show endOf l q = l.drop (64 * q) ++ [128] ++ List.replicate (zerosOf (l.drop (64 * q)).length) 0 ++ numB (L * 8) 8 by unfold endOf; rw [hL])
  have htl : (l.take (64 * q)).length = 64 * q := by rw [List.length_take]; omega
  obtain ⟨E, hEe⟩ : ∃ E, endOf l q = E := ⟨_, rfl⟩
  rw [hEe] at hE hsha HEND
  have hok1 := blocksFrom_ok (M := l.take (64 * q)) begun_ok q
  obtain ⟨S1, hS1⟩ : ∃ S, blocksFrom (l.take (64 * q)) Sha.begun q = S := ⟨_, rfl⟩
  rw [hS1] at hsha hok1
  have hokF := blocksFrom_ok (M := E) hok1 e
  obtain ⟨F, hF⟩ : ∃ S, blocksFrom E S1 e = S := ⟨_, rfl⟩
  rw [hF] at hsha hokF
  obtain ⟨W, hW⟩ : ∃ W, W = 64 * q := ⟨_, rfl⟩
  rw [← hW] at htl hS1 HEND
  rw [hL] at h1 hl ⊢
  have HSHA := Lib.hid hsha
  have HE := Lib.hid hE
  have HS1 := Lib.hid hS1
  have HF := Lib.hid hF
  have HTL := Lib.hid htl
  have HWQ := Lib.hid hW
  have HV := Lib.hid hl
  have HT := Lib.hid hT
  have HLL := Lib.hid hL
  have HOK1 := Lib.hid hok1
  have HOKF := Lib.hid hokF
  have hL5 : L ≤ 100000 := by omega
  have e1 : (L : Int) % 64 = (R : Nat) := by omega
  have e2 : (L : Int) - (R : Int) = (W : Nat) := by omega
  have hWL : W ≤ L := by omega
  have hq5 : q ≤ 10000 := by omega
  have HI8 := Lib.hid hArr_info
  have HLR := Lib.hid (show L = W + R by omega)
  clear hL hq hR hsha hEe hS1 hok1 hF hokF hW hl hT htl hE hn
  go_enter Tryd.func56, Tryd.ntmps56
  go_upto_region 2 with (refine wpList_store_rowTo rfl 91 (.tmp 3) (.tmp 8) rfl rfl w.heap.size hArr rfl rfl 91 z8 (heap_alloc_new _ _) HI8.out rfl hArr_one ?_)
  generalize hw2 : (w.alloc (.cells #[.int .u32 0, .int .u32 0, .int .u32 0, .int .u32 0, .int .u32 0, .int .u32 0, .int .u32 0, .int .u32 0] 91)).setRow w.heap.size hArr = w2
  have HB2 := Lib.hid (show Below w.heap.size w w2 by rw [← hw2]; exact below_setRow ((Below.refl _ _).alloc (Nat.le_refl _) _) (Nat.le_refl _) _)
  have HS2 := Lib.hid (show Words w2 w.heap.size 91 8 (Sha.St.get Sha.begun) by rw [← hw2]; exact Words.of_block (setRow_heap _ _ z8 _ _ _ (heap_alloc_new _ _)) rfl (fun i hi => hArr_get hi))
  clear hw2
  go_upto_region 3 with (fail)
  clear e1 e2
  obtain ⟨S0, hS0⟩ : ∃ S, Sha.begun = S := ⟨_, rfl⟩
  have hok0 : S0.ok := hS0 ▸ begun_ok
  rw [hS0] at HS1 HS2
  clear hS0
  obtain ⟨a, b', c, d, e', f, g, g8⟩ := S0
  have HOK0 := Lib.hid hok0
  have c0 : w2.cell? ⟨w.heap.size, 0, none⟩ = some (.int .u32 (a : Nat)) := HS2.out.cell (i := 0) (by omega)
  have c1 : w2.cell? ⟨w.heap.size, 1, none⟩ = some (.int .u32 (b' : Nat)) := HS2.out.cell (i := 1) (by omega)
  have c2 : w2.cell? ⟨w.heap.size, 2, none⟩ = some (.int .u32 (c : Nat)) := HS2.out.cell (i := 2) (by omega)
  have c3 : w2.cell? ⟨w.heap.size, 3, none⟩ = some (.int .u32 (d : Nat)) := HS2.out.cell (i := 3) (by omega)
  have c4 : w2.cell? ⟨w.heap.size, 4, none⟩ = some (.int .u32 (e' : Nat)) := HS2.out.cell (i := 4) (by omega)
  have c5 : w2.cell? ⟨w.heap.size, 5, none⟩ = some (.int .u32 (f : Nat)) := HS2.out.cell (i := 5) (by omega)
  have c6 : w2.cell? ⟨w.heap.size, 6, none⟩ = some (.int .u32 (g : Nat)) := HS2.out.cell (i := 6) (by omega)
  have c7 : w2.cell? ⟨w.heap.size, 7, none⟩ = some (.int .u32 (g8 : Nat)) := HS2.out.cell (i := 7) (by omega)
  have q1 : (W : Int) ≤ (C : Int) := by omega
  have q5 : W ≤ C := by omega
  clear hok0
  go_still_tail 4, (by kernel_rfl)
  change wpList _ _ _ _ _ w2.drew
  have HDR := Lib.hid (show Below w2.heap.size w2 w2.drew from (Below.refl _ _).drew)
  clear c0 c1 c2 c3 c4 c5 c6 c7
  go_wp2_with fail
  have HV2 := Lib.hid ((HV.out.below HB2.out).below HDR.out)
  have HT2 := Lib.hid ((HT.out.below HB2.out).below HDR.out)
  refine (stirredC ⟨a, b', c, d, e', f, g, g8⟩ HOK0.out (l.take W) _ w2.drew q (HV2.out.take (by rw [HLL.out]; omega)) (by rw [HTL.out, HWQ.out]) hq5 HT2.out).mono ?_
  rintro _ w3 ⟨rfl, hb3⟩
  rw [HS1.out]
  have HB3 := Lib.hid (HB2.out.trans ((HDR.out.mono HB2.out.size).trans (hb3.mono HB2.out.size)))
  have HST3 := Lib.hid (words_st ((HS2.out.below HDR.out).below hb3))
  have HI81 := Lib.hid (info8 S1)
  clear hb3
  go_upto_region 4 with (refine wpList_store_rowTo rfl 91 (.tmp 3) (.tmp 19) rfl rfl w.heap.size (stArr S1) rfl rfl 91 (stArr ⟨a, b', c, d, e', f, g, g8⟩) HST3.out HI81.out (size_st _ _) (stArr_one _) ?_)
  generalize hw4 : w3.setRow w.heap.size (stArr S1) = w4
  have HB4 := Lib.hid (show Below w.heap.size w w4 by rw [← hw4]; exact below_setRow HB3.out (Nat.le_refl _) _)
  have HS4 := Lib.hid (show Words w4 w.heap.size 91 8 (Sha.St.get S1) by rw [← hw4]; exact st_words (setRow_heap _ _ _ _ _ _ HST3.out))
  clear hw4 HST3 HB3 HDR HV2 HT2
  go_cut [20] from 20 (fun _ wx => Words wx w.heap.size 91 8 (Sha.St.get F) ∧ Below w.heap.size w wx)
  case first =>
    obtain ⟨A1, D1, hsl, hby⟩ := slice_tail l A L C W HLL.out hWL h1
    have HVX := Lib.hid (show ∀ w', Below w4.heap.size w4 w' → Bytes w' (.slice A1 (L - W) D1) (l.drop W) from fun w' hb => (hby w4 (HV.out.below HB4.out)).below hb)
    have HD1 := Lib.hid (show (l.drop W).length ≤ 100000 by rw [List.length_drop, HLL.out]; omega)
    have HT4 := Lib.hid (HT.out.below HB4.out)
    have HZ4 := Lib.hid (show w.heap.size < w4.heap.size from HS4.out.lt)
    obtain ⟨a, b', c, d, e', f, g, g8⟩ := S1
    obtain ⟨f0, f1, f2, f3, f4, f5, f6, f7⟩ := F
    have c0 : w4.cell? ⟨w.heap.size, 0, none⟩ = some (.int .u32 (a : Nat)) := HS4.out.cell (i := 0) (by omega)
    have c1 : w4.cell? ⟨w.heap.size, 1, none⟩ = some (.int .u32 (b' : Nat)) := HS4.out.cell (i := 1) (by omega)
    have c2 : w4.cell? ⟨w.heap.size, 2, none⟩ = some (.int .u32 (c : Nat)) := HS4.out.cell (i := 2) (by omega)
    have c3 : w4.cell? ⟨w.heap.size, 3, none⟩ = some (.int .u32 (d : Nat)) := HS4.out.cell (i := 3) (by omega)
    have c4 : w4.cell? ⟨w.heap.size, 4, none⟩ = some (.int .u32 (e' : Nat)) := HS4.out.cell (i := 4) (by omega)
    have c5 : w4.cell? ⟨w.heap.size, 5, none⟩ = some (.int .u32 (f : Nat)) := HS4.out.cell (i := 5) (by omega)
    have c6 : w4.cell? ⟨w.heap.size, 6, none⟩ = some (.int .u32 (g : Nat)) := HS4.out.cell (i := 6) (by omega)
    have c7 : w4.cell? ⟨w.heap.size, 7, none⟩ = some (.int .u32 (g8 : Nat)) := HS4.out.cell (i := 7) (by omega)
    clear hby
    go_region_law (first
      | (go_simp; go_at_call 74; refine (endingC (l.drop W) _ L _ (HVX.out _ (Below.refl _ _).drew) HD1.out hL5).mono ?_; rintro _ w6 ⟨u6, rfl, hu6, hb6⟩; have hb46 := (show Below w4.heap.size w4 w6 from ((Below.refl _ _).drew).trans hb6); have hm6 := Lib.hid (show Bytes w6 u6 E by rw [HEND.out]; exact hu6.slice); have hs6 := HS4.out.below hb46; have d0 : w6.cell? ⟨w.heap.size, 0, none⟩ = some (.int .u32 (a : Nat)) := hs6.cell (i := 0) (by omega); have d1 : w6.cell? ⟨w.heap.size, 1, none⟩ = some (.int .u32 (b' : Nat)) := hs6.cell (i := 1) (by omega); have d2 : w6.cell? ⟨w.heap.size, 2, none⟩ = some (.int .u32 (c : Nat)) := hs6.cell (i := 2) (by omega); have d3 : w6.cell? ⟨w.heap.size, 3, none⟩ = some (.int .u32 (d : Nat)) := hs6.cell (i := 3) (by omega); have d4 : w6.cell? ⟨w.heap.size, 4, none⟩ = some (.int .u32 (e' : Nat)) := hs6.cell (i := 4) (by omega); have d5 : w6.cell? ⟨w.heap.size, 5, none⟩ = some (.int .u32 (f : Nat)) := hs6.cell (i := 5) (by omega); have d6 : w6.cell? ⟨w.heap.size, 6, none⟩ = some (.int .u32 (g : Nat)) := hs6.cell (i := 6) (by omega); have d7 : w6.cell? ⟨w.heap.size, 7, none⟩ = some (.int .u32 (g8 : Nat)) := hs6.cell (i := 7) (by omega); have HS6 := Lib.hid hs6; have HB46 := Lib.hid hb46; clear hs6 hb46 hu6 hb6)
      | (go_simp; go_at_call 73; refine (stirredC ⟨a, b', c, d, e', f, g, g8⟩ HOK1.out E _ _ e hm6.out HE.out he (HT4.out.below HB46.out)).mono ?_; rintro _ w7 ⟨rfl, hb7⟩; rw [HF.out]; have hs7 := HS6.out.below hb7; have y0 : w7.cell? ⟨w.heap.size, 0, none⟩ = some (.int .u32 (a : Nat)) := hs7.cell (i := 0) (by omega); have y1 : w7.cell? ⟨w.heap.size, 1, none⟩ = some (.int .u32 (b' : Nat)) := hs7.cell (i := 1) (by omega); have y2 : w7.cell? ⟨w.heap.size, 2, none⟩ = some (.int .u32 (c : Nat)) := hs7.cell (i := 2) (by omega); have y3 : w7.cell? ⟨w.heap.size, 3, none⟩ = some (.int .u32 (d : Nat)) := hs7.cell (i := 3) (by omega); have y4 : w7.cell? ⟨w.heap.size, 4, none⟩ = some (.int .u32 (e' : Nat)) := hs7.cell (i := 4) (by omega); have y5 : w7.cell? ⟨w.heap.size, 5, none⟩ = some (.int .u32 (f : Nat)) := hs7.cell (i := 5) (by omega); have y6 : w7.cell? ⟨w.heap.size, 6, none⟩ = some (.int .u32 (g : Nat)) := hs7.cell (i := 6) (by omega); have y7 : w7.cell? ⟨w.heap.size, 7, none⟩ = some (.int .u32 (g8 : Nat)) := hs7.cell (i := 7) (by omega); have z0 : w7.frozen? ⟨w.heap.size, 0, none⟩ = false := hs7.free 0; have z1 : w7.frozen? ⟨w.heap.size, 1, none⟩ = false := hs7.free 1; have z2 : w7.frozen? ⟨w.heap.size, 2, none⟩ = false := hs7.free 2; have z3 : w7.frozen? ⟨w.heap.size, 3, none⟩ = false := hs7.free 3; have z4 : w7.frozen? ⟨w.heap.size, 4, none⟩ = false := hs7.free 4; have z5 : w7.frozen? ⟨w.heap.size, 5, none⟩ = false := hs7.free 5; have z6 : w7.frozen? ⟨w.heap.size, 6, none⟩ = false := hs7.free 6; have z7 : w7.frozen? ⟨w.heap.size, 7, none⟩ = false := hs7.free 7; have HS7 := Lib.hid hs7; have HB7 := Lib.hid (HB46.out.trans (hb7.mono HB46.out.size)); clear hs7 hb7; unfold stArr; dsimp only))
    all_goals
      go_wp2_with fail
      go_meet
      exact ⟨eight_words HS7.out rfl, eight_below (HB4.out.trans (HB7.out.mono HB4.out.size)) (Nat.le_refl _)⟩
  case rest =>
    obtain ⟨hws, hbr⟩ := hcut
    have HBR := Lib.hid hbr
    have HAR := Lib.hid (words_st hws)
    have HI8b := Lib.hid (info8 F)
    clear hws hbr
    obtain ⟨wo, hwo⟩ : ∃ wo : World, wo = wc := ⟨_, rfl⟩
    subst hwo
    go_wp2_with (refine wpList_load_row rfl 91 (.tmp 3) rfl w.heap.size rfl 91 (stArr F) (0, 0) _ HAR.out Tryd.underlying91 rfl HI8b.out ?_)
    go_loopw [5, 29] (fun v c wx => ∃ j : Nat, j ≤ 8 ∧ c = .int .i64 j ∧ Built ByteR wx wo.heap.size 5 v (outB F j) ∧ Below wo.heap.size wo wx) (fun _ c _ => 8 - (intOf c).toNat)
    case atStart => exact ⟨0, Nat.zero_le _, rfl, Built.start _ _ _, Below.refl _ _⟩
    case round =>
      obtain ⟨j, hj, rfl, hbu, hbx⟩ := hrel
      by_cases hlj : j < 8
      · have hidx := fun w => run_index_arr (P := Tryd.prog) 91 89 8 .u32 (stArr F) .i64 j _ Tryd.underlying91 Tryd.underlying89 info1 hlj (stArr_get F hlj) w
        have hxl := get_lt HOKF.out j
        have HO := Lib.hid (show outB F (j + 1) = outB F j ++ numB (Sha.St.get F j) 4 from rfl)
        obtain ⟨x, hx⟩ : ∃ x, Sha.St.get F j = x := ⟨_, rfl⟩
        rw [hx] at hidx hxl HO
        obtain ⟨A5, C5, rfl, hc1, hc2⟩ := hbu.len
        have hal4 : Below wr.heap.size wr (wr.alloc (.cells ((numB x 4).map fun y : Nat => Value.int .u8 y).toArray 5)) := (Below.refl _ _).alloc (Nat.le_refl _) _
        have hsrc := const_bytes wr 5 (0, 0) (numB x 4) (by rw [numB_len]; omega) numB_bd
        obtain ⟨v7, w7, hr7, hbu7, _, hb7⟩ := run_append_list (P := Tryd.prog) byteR_world byteR_one (wr.alloc (.cells ((numB x 4).map fun y : Nat => Value.int .u8 y).toArray 5)) wo.heap.size 23 23 5 (.int .u8 0) 1 Tryd.underlying23 infoByte rfl _ _ (hbu.below hal4) _ _ _ _ hsrc (by rw [outB_len, numB_len]; omega) (Nat.le_trans hbx.size hal4.size)
        rw [← HO.out] at hbu7
        rw [outB_len] at hr7 ⊢
        rw [numB_len, show ((numB x 4).map fun y : Nat => Value.int .u8 y).toArray = #[.int .u8 ((x : Int) / 16777216), .int .u8 ((x : Int) / 65536 % 256), .int .u8 ((x : Int) / 256 % 256), .int .u8 ((x : Int) % 256)] by rw [numB4, show x / 16777216 % 256 = x / 16777216 by omega]; simp] at hr7
        have HR7 := Lib.hid hr7
        have HM7 := Lib.hid hbu7
        have HB7 := Lib.hid (hbx.trans ((hal4.mono hbx.size).trans hb7))
        clear hr7 hbu7 hb7 hal4 hsrc hbu hbx hx
        go_wp2_with (at_builtin; refine Lib.wpList_append_run _ rfl (.tmp 32) (.tmp 44) _ _ rfl _ _ rfl rfl _ _ HR7.out ?_)
        go_roundw
        case rel => exact ⟨j + 1, by omega, by go_num, HM7.out, HB7.out⟩
        case measure => simp [intOf]; omega
      · obtain rfl : j = 8 := by omega
        have HVV := Lib.hid (show Bytes wr _ (sha l) from HSHA.out ▸ hbu.slice)
        have HB := Lib.hid (HBR.out.trans (hbx.mono HBR.out.size))
        clear hbu hbx
        go_wp2_with fail
        go_ret
        exact ⟨_, rfl, HVV.out, HB.out⟩
end Go.Proofs.YtegbgnjmkohcfaaDoor.Hash
namespace Go.Proofs.YtegbgnjmkohcfaaDoor.Hash
set_option linter.unusedVariables false
open Go.ChangeShapes Go.WideShapes Go.ChangeAt Go.RowKit
open Go.Mem Sha
theorem read_raw {v x : Nat} (hv : v < 18446744073709551616) (hx : x < 256) : bits .or .u64 (IntKind.u64.wrap ((v : Int) * 256)) (x : Int) = (((v * 256 + x) % 18446744073709551616 : Nat) : Int) := by
  rw [IntKind.wrap_u64, show ((v : Int) * 256 % 18446744073709551616) = ((v * 256 % 18446744073709551616 : Nat) : Int) by simp, u64_or_nat _ _ (by omega) (by omega), shl_or hx]
theorem readB_lt (l : List Nat) : ∀ k, readB (l.take k) < 18446744073709551616 := by
  intro k
  unfold readB
  generalize l.take k = m
  rcases List.eq_nil_or_concat m with h | ⟨p, x, h⟩
  · subst h; simp
  · subst h
    rw [List.concat_eq_append, List.foldl_append]
    exact Nat.mod_lt _ (by omega)
set_option maxHeartbeats 2000000 in
theorem weightC (a b : Int) (w : World) (hT : Tabs w) :
    Calls Tryd.prog 40 #[.int .i64 a, .int .i64 b] w fun e w' => e = .returned (.int .u64 (weight (u64 a) (u64 b) : Nat)) ∧ Below w.heap.size w w' := by
  have ua := u64_wrap a
  have ub := u64_wrap b
  have ua2 := u64_cast a
  have ub2 := u64_cast b
  have la := u64_lt a
  have lb := u64_lt b
  have HW := Lib.hid (show weight (u64 a) (u64 b) = readB ((sha (numB (u64 a) 8 ++ numB (u64 b) 8)).take 8) from rfl)
  obtain ⟨x, hx⟩ : ∃ x, u64 a = x := ⟨_, rfl⟩
  obtain ⟨y, hy⟩ : ∃ x, u64 b = x := ⟨_, rfl⟩
  rw [hx] at ua ua2 la HW ⊢
  rw [hy] at ub ub2 lb HW ⊢
  have HT := Lib.hid hT
  clear hx hy hT
  go_enter Tryd.func40, Tryd.ntmps40
  go_wp2_with fail
  refine (withNumberC w.heap.size [] _ x w (Built.start _ _ _) (by simp) la (Nat.le_refl _)).mono ?_
  rintro _ w1 ⟨u1, rfl, hu1, hb1⟩
  rw [List.nil_append] at hu1
  go_wp2_with fail
  refine (withNumberC w.heap.size _ _ y w1 hu1 (by rw [numB_len]; omega) lb hb1.size).mono ?_
  rintro _ w2 ⟨u2, rfl, hu2, hb2⟩
  have HU2 := Lib.hid (show Bytes w2 u2 (numB x 8 ++ numB y 8) from hu2.slice)
  have HB2 := Lib.hid (hb1.trans hb2)
  clear hu1 hb1 hu2 hb2
  go_wp2_with fail
  refine (sumC (numB x 8 ++ numB y 8) _ w2 (HT.out.below HB2.out) HU2.out (by rw [List.length_append, numB_len, numB_len]; omega)).mono ?_
  rintro _ w4 ⟨u4, rfl, hu4, hb4⟩
  obtain ⟨A4, C4, rfl, hc4, hd4, _⟩ := hu4.shape
  have hlen := sha_len (numB x 8 ++ numB y 8)
  obtain ⟨D, hD⟩ : ∃ D, sha (numB x 8 ++ numB y 8) = D := ⟨_, rfl⟩
  rw [hD] at hlen hu4 hc4 HW ⊢
  rw [hlen] at hc4
  rw [hlen] at hu4 ⊢
  have HTK := Lib.hid (hu4.take (j := 8) (by rw [hlen]; omega))
  have HTL := Lib.hid (show (D.take 8).length = 8 by rw [List.length_take, hlen]; omega)
  have HB4 := Lib.hid (HB2.out.trans (hb4.mono HB2.out.size))
  have q1 : 8 ≤ C4 := by omega
  clear hlen hu4 hb4 hD
  obtain ⟨T, hTe⟩ : ∃ T, D.take 8 = T := ⟨_, rfl⟩
  rw [hTe] at HTK HTL HW
  clear hTe
  go_wp2_with fail
  go_loop [6, 19] (fun v c => ∃ k : Nat, k ≤ 8 ∧ c = .int .i64 k ∧ v = .int .u64 (readB (T.take k) : Nat)) (fun _ c => 8 - (intOf c).toNat)
  case atStart => exact ⟨0, Nat.zero_le _, rfl, rfl⟩
  case round =>
    obtain ⟨k, hk, rfl, rfl⟩ := hrel
    by_cases hlt : k < 8
    · obtain ⟨bk, o, rfl, hc, hx8⟩ := HTK.out.at (i := k) (by rw [HTL.out]; omega)
      have HS := Lib.hid (readB_snoc (l := T) (k := k) (by rw [HTL.out]; omega))
      have hvl := readB_lt T k
      obtain ⟨z, hz⟩ : ∃ z, T[k]'(by rw [HTL.out]; omega) = z := ⟨_, rfl⟩
      rw [hz] at hc hx8 HS
      obtain ⟨V, hV⟩ : ∃ V, readB (T.take k) = V := ⟨_, rfl⟩
      rw [hV] at hvl HS ⊢
      have HR := Lib.hid (read_raw hvl hx8)
      clear hz hV
      go_wp2
      go_round
      case rel => exact ⟨k + 1, by omega, by go_num, by rw [HS.out, ← HR.out]⟩
      case measure => simp [intOf]; omega
    · obtain rfl : k = 8 := by omega
      rw [List.take_of_length_le (by rw [HTL.out]; omega), ← HW.out]
      go_wp2_with fail
      go_ret
      exact ⟨rfl, HB4.out⟩
end Go.Proofs.YtegbgnjmkohcfaaDoor.Hash
namespace Go.Proofs.YtegbgnjmkohcfaaDoor.Hash
open Go.ChangeShapes Go.WideShapes Go.ChangeAt Go.RowKit
open Go.Mem Sha
theorem tabs_of {w : World} {zs : List Int} (h : Lib.TabIs Tryd.prog w "flitting/hash.rounds" .u32 zs) (hz : (zs.map fun z => Value.int .u32 z).toArray = kArr) : Tabs w := by
  obtain ⟨t, fr, e⟩ := tab_heap h (g := 0) (by kernel_rfl)
  rw [hz] at e
  exact ⟨t, fr, e⟩
end Go.Proofs.YtegbgnjmkohcfaaDoor.Hash
