/- The head of the document's digest: its two tables in memory, the padding. -/
import Derived.Test.YtcgjoidfmigpnaaDoorShaRef
import Derived.Test.YtcgjoidfmigpnaaDoorList
import Derived.Test.YtcgjoidfmigpnaaDoorZeros
import Derived.Test.YtcgjoidfmigpnaaDoorWrites
import Derived.Deep.Cut
import Derived.Great.BuildSlice
import Derived.Laws.CopyOwn
namespace Go.Proofs.YtcgjoidfmigpnaaDoor.Hash
open Go.ChangeShapes Go.WideShapes Go.ChangeAt Go.RowKit
open Go.Mem Sha
def kArr : Array Value := (kL.map fun x : Nat => Value.int .u32 x).toArray
def z64 : Array Value := Array.replicate 64 (.int .u32 0)
theorem z64_run (w : World) : (zeroValue 53).run Tryd.prog w = .ok (.agg z64) w := by kernel_rfl
theorem z64_size : z64.size = 64 := by unfold z64; simp
theorem z64_ne : ¬ z64 = #[] := by intro h; have := congrArg Array.size h; rw [z64_size] at this; exact absurd this (by decide)
theorem kArr_size : kArr.size = 64 := by kernel_rfl
theorem info64 : (Tryd.prog.info? 53).map (·.size) = some kArr.size := by kernel_rfl
theorem kArr_one : kArr.all (·.oneCell') = true := by kernel_rfl
theorem z64_k : z64.size = kArr.size := by rw [z64_size, kArr_size]
theorem new_block (w : World) (o : Obj) : (w.alloc o).heap[w.heap.size]? = some o := heap_alloc_new w o
theorem kL_len : kL.length = 64 := by decide
theorem kArr_get {i : Nat} (hi : i < 64) : kArr[i]? = some (.int .u32 (kF i : Nat)) := by
  have h : i < kL.length := by rw [kL_len]; exact hi
  unfold kArr kF
  rw [List.getElem?_toArray, List.getElem?_map, List.getElem?_eq_getElem h]
  simp [h]
def hArr : Array Value := #[.int .u32 1779033703, .int .u32 3144134277, .int .u32 1013904242, .int .u32 2773480762, .int .u32 1359893119, .int .u32 2600822924, .int .u32 528734635, .int .u32 1541459225]
theorem hArr_get {i : Nat} (hi : i < 8) : hArr[i]? = some (.int .u32 (Sha.begun.get i : Nat)) := by
  rcases (by omega : i = 0 ∨ i = 1 ∨ i = 2 ∨ i = 3 ∨ i = 4 ∨ i = 5 ∨ i = 6 ∨ i = 7) with rfl | rfl | rfl | rfl | rfl | rfl | rfl | rfl <;> rfl
/-- the two tables -/
theorem head_world (w : World) (tk th : Nat) {w2 : World} (h : ((w.alloc (.cells z64 tk)).setRow w.heap.size kArr).alloc (.cells hArr th) = w2) :
    Words w2 w.heap.size tk 64 kF ∧ Words w2 (w.heap.size + 1) th 8 Sha.begun.get ∧ Below w.heap.size w w2 ∧ w2.heap.size = w.heap.size + 2 := by
  subst h
  have hs : ((w.alloc (.cells z64 tk)).setRow w.heap.size kArr).heap.size = w.heap.size + 1 := by simp
  have hk : ((w.alloc (.cells z64 tk)).setRow w.heap.size kArr).heap[w.heap.size]? = some (.cells kArr tk (0, 0)) := setRow_heap _ _ z64 _ _ _ (new_block _ _)
  have h1 : Words ((w.alloc (.cells z64 tk)).setRow w.heap.size kArr) w.heap.size tk 64 kF := Words.of_block hk kArr_size (fun i hi => kArr_get hi)
  have hb : Below w.heap.size w ((w.alloc (.cells z64 tk)).setRow w.heap.size kArr) := below_setRow ((Below.refl _ _).alloc (Nat.le_refl _) _) (Nat.le_refl _) _
  refine ⟨h1.keep (heap_alloc_old _ _ (by rw [hs]; omega)), Words.of_block (c := hArr) ?_ rfl (fun i hi => hArr_get hi), hb.alloc (by rw [hs]; omega) _, by rw [World.size_alloc, hs]⟩
  have := heap_alloc_new ((w.alloc (.cells z64 tk)).setRow w.heap.size kArr) (.cells hArr th)
  rw [hs] at this
  exact this
def sliceLen : Value → Nat
  | .slice _ n _ => n
  | _ => 0
theorem zeros_lt {L k : Nat} (h : k < zerosOf L) : ((L + 1 + k : Nat) : Int) % 64 ≠ 56 := by unfold zerosOf at h; omega
theorem zeros_eq (L : Nat) : ((L + 1 + zerosOf L : Nat) : Int) % 64 = 56 := by unfold zerosOf; omega
theorem zeros_bd (L : Nat) : zerosOf L < 64 := Nat.mod_lt _ (by omega)
theorem rep_snoc (l : List Nat) (k : Nat) : l ++ [128] ++ List.replicate k 0 ++ [0] = l ++ [128] ++ List.replicate (k + 1) 0 := by
  rw [List.append_assoc _ (List.replicate k 0), ← List.replicate_succ']
/-- a state as it stands in memory -/
def stArr (s : St) : Array Value := #[.int .u32 (s.a : Nat), .int .u32 (s.b : Nat), .int .u32 (s.c : Nat), .int .u32 (s.d : Nat), .int .u32 (s.e : Nat), .int .u32 (s.f : Nat), .int .u32 (s.g : Nat), .int .u32 (s.h : Nat)]
theorem stArr_size (s : St) : (stArr s).size = 8 := rfl
theorem stArr_get (s : St) {i : Nat} (hi : i < 8) : (stArr s)[i]? = some (.int .u32 (Sha.St.get s i : Nat)) := by
  rcases (by omega : i = 0 ∨ i = 1 ∨ i = 2 ∨ i = 3 ∨ i = 4 ∨ i = 5 ∨ i = 6 ∨ i = 7) with rfl | rfl | rfl | rfl | rfl | rfl | rfl | rfl <;> rfl
theorem stArr_one (s : St) : (stArr s).all (·.oneCell') = true := by simp [stArr, Value.oneCell']
theorem words_st {w : World} {b t : Nat} {s : St} (h : Words w b t 8 (Sha.St.get s)) : w.heap[b]? = some (.cells (stArr s) t (0, 0)) := by
  obtain ⟨c, h1, h2, h3⟩ := h
  rw [h1]
  have : c = stArr s := by
    apply Array.ext
    · rw [h2]; rfl
    · intro i h4 h5
      have h6 := h3 i (by omega)
      rw [← stArr_get s (by omega), Array.getElem?_eq_getElem h4, Array.getElem?_eq_getElem h5] at h6
      injection h6
  rw [this]
theorem st_words {w : World} {b t : Nat} {s : St} (h : w.heap[b]? = some (.cells (stArr s) t (0, 0))) : Words w b t 8 (Sha.St.get s) := Words.of_block h rfl (fun _ hi => stArr_get s hi)
def z8 : Array Value := #[.int .u32 0, .int .u32 0, .int .u32 0, .int .u32 0, .int .u32 0, .int .u32 0, .int .u32 0, .int .u32 0]
theorem info8 (s : St) : (Tryd.prog.info? 54).map (·.size) = some (stArr s).size := by
  have h : (Tryd.prog.info? 54).map (·.size) = some 8 := by kernel_rfl
  exact h
/-- a block's words, still zeros, and its state, at the beginning -/
theorem inner_world (w : World) (tk th : Nat) (m : Nat → Nat) (s : St) {w2 : World} (h : ((w.alloc (.cells z64 tk)).alloc (.cells z8 th)).setRow (w.heap.size + 1) (stArr s) = w2) :
    Words w2 w.heap.size tk 64 (wF m 0) ∧ Words w2 (w.heap.size + 1) th 8 (Sha.St.get s) ∧ Below w.heap.size w w2 ∧ w2.heap.size = w.heap.size + 2 := by
  subst h
  have h0 : Words (w.alloc (.cells z64 tk)) w.heap.size tk 64 (wF m 0) := Words.of_block (new_block _ _) z64_size (fun i hi => by rw [wF_zero]; unfold z64; simp [hi])
  have h1 : Words ((w.alloc (.cells z64 tk)).alloc (.cells z8 th)) w.heap.size tk 64 (wF m 0) := h0.keep (heap_alloc_old _ _ (by simp))
  have hb : Below w.heap.size w ((w.alloc (.cells z64 tk)).alloc (.cells z8 th)) := ((Below.refl _ _).alloc (Nat.le_refl _) _).alloc (by simp) _
  refine ⟨h1.keep (setRow_other _ _ _ _ (by omega)), st_words (setRow_heap _ _ z8 _ _ _ (heap_alloc2_new _ _ _)), below_setRow hb (by omega) _, by simp⟩
theorem drop4 {M : List Nat} {o : Nat} (h : o + 4 ≤ M.length) : (M.drop o).take 4 = [M.getD o 0, M.getD (o + 1) 0, M.getD (o + 2) 0, M.getD (o + 3) 0] := by
  apply List.ext_getElem
  · simp; omega
  · intro i h1 h2
    have h3 : i < 4 := by simpa using h2
    rcases (by omega : i = 0 ∨ i = 1 ∨ i = 2 ∨ i = 3) with rfl | rfl | rfl | rfl <;> simp [show o < M.length by omega, show o + 1 < M.length by omega, show o + 2 < M.length by omega, show o + 3 < M.length by omega]
theorem read4 {M : List Nat} {o : Nat} (h : o + 4 ≤ M.length) (hM : ∀ x ∈ M, x < 256) : readB ((M.drop o).take 4) = word M o := by
  rw [drop4 h]
  have g : ∀ i, M.getD i 0 < 256 := fun i => by
    by_cases hi : i < M.length
    · simpa [hi] using hM _ (List.getElem_mem hi)
    · simp [Nat.le_of_not_lt hi]
  have := g o; have := g (o + 1); have := g (o + 2); have := g (o + 3)
  unfold readB word
  simp only [List.foldl]
  omega
/-- four bytes of a longer slice -/
theorem four_bytes {w : World} {b n C o : Nat} {M : List Nat} (h : Bytes w (.slice (some ⟨b, 0, none⟩) n C) M) (ho : o + 4 ≤ M.length) : Bytes w (.slice (some ⟨b, o, none⟩) 4 (C - o)) ((M.drop o).take 4) := by
  have h1 := h.drop (j := o) (by omega)
  have h2 := Bytes.take h1 (j := 4) (by simp; omega)
  rw [Nat.zero_add] at h2
  exact h2
theorem wF_at {m : Nat → Nat} {n : Nat} (h : n < 16) : wF m (n + 1) n = m n := by rw [wF_succ, if_pos rfl, if_pos h]
theorem words_next {w : World} {b t : Nat} {m : Nat → Nat} {n x : Nat} (h : Words w b t 64 (wF m n)) (hx : x = if n < 16 then m n else nextW (sched m n) n) : Words (w.setCell ⟨b, n, none⟩ (.int .u32 (x : Nat))) b t 64 (wF m (n + 1)) :=
  (h.set n x).congr fun i _ => by rw [wF_succ, hx]
theorem s0_raw {x : Nat} (h : x < 4294967296) : bits .xor .u32 (bits .xor .u32 (rotr x 7 : Nat) (rotr x 18 : Nat)) ((x : Int) / 8) = ((s0 x : Nat) : Int) := by
  rw [u32_xor_nat _ _ (rotr_lt h) (rotr_lt h), show ((x : Int) / 8) = ((x / 8 : Nat) : Int) by simp, u32_xor_nat _ _ (xor32 (rotr_lt h) (rotr_lt h)) (by omega)]; rfl
theorem s1_raw {x : Nat} (h : x < 4294967296) : bits .xor .u32 (bits .xor .u32 (rotr x 17 : Nat) (rotr x 19 : Nat)) ((x : Int) / 1024) = ((s1 x : Nat) : Int) := by
  rw [u32_xor_nat _ _ (rotr_lt h) (rotr_lt h), show ((x : Int) / 1024) = ((x / 1024 : Nat) : Int) by simp, u32_xor_nat _ _ (xor32 (rotr_lt h) (rotr_lt h)) (by omega)]; rfl
theorem next_raw (a b c d : Nat) : ((((a : Int) + b) % 4294967296 + (c : Nat)) % 4294967296 + (d : Nat)) % 4294967296 = (((a + b + c + d) % 4294967296 : Nat) : Int) := by omega
theorem quiet_same {P : Program} {f : FuncId} {args : Array Value} {w : World} {a n : Nat} {v : Value} (h : Calls P f args (w.drewN (a + n)) fun e w' => e = .returned v ∧ w.drewN (a + n) = w') :
    Calls P f args (w.drewN (a + n)) fun e w' => e = .returned v ∧ ∃ m, w' = w.drewN (a + m) := h.mono fun _ _ hh => ⟨hh.1, n, hh.2.symm⟩
theorem quiet_same0 {P : Program} {f : FuncId} {args : Array Value} {w : World} {n : Nat} {v : Value} (h : Calls P f args (w.drewN n) fun e w' => e = .returned v ∧ w.drewN n = w') :
    Calls P f args (w.drewN n) fun e w' => e = .returned v ∧ ∃ m, w' = w.drewN m := h.mono fun _ _ hh => ⟨hh.1, n, hh.2.symm⟩
theorem get_lt {s : St} (h : s.ok) (i : Nat) : Sha.St.get s i < 4294967296 := by
  obtain ⟨h1, h2, h3, h4, h5, h6, h7, h8⟩ := h
  by_cases hi : i < 8
  · rcases (by omega : i = 0 ∨ i = 1 ∨ i = 2 ∨ i = 3 ∨ i = 4 ∨ i = 5 ∨ i = 6 ∨ i = 7) with rfl | rfl | rfl | rfl | rfl | rfl | rfl | rfl <;> assumption
  · unfold Sha.St.get
    rw [List.getD_eq_getElem?_getD, List.getElem?_eq_none (by simp; omega)]
    simp
theorem get_add (s t : St) {i : Nat} (hi : i < 8) : Sha.St.get (addSt s t) i = (Sha.St.get s i + Sha.St.get t i) % 4294967296 := by
  rcases (by omega : i = 0 ∨ i = 1 ∨ i = 2 ∨ i = 3 ∨ i = 4 ∨ i = 5 ∨ i = 6 ∨ i = 7) with rfl | rfl | rfl | rfl | rfl | rfl | rfl | rfl <;> rfl
/-- the first j words are sums already -/
def sumF (s t : St) (j : Nat) : Nat → Nat := fun x => if x < j then (Sha.St.get s x + Sha.St.get t x) % 4294967296 else Sha.St.get s x
theorem sumF_next (s t : St) (j x : Nat) : sumF s t (j + 1) x = if x = j then (Sha.St.get s j + Sha.St.get t j) % 4294967296 else sumF s t j x := by
  unfold sumF
  by_cases e : x = j
  · subst e; rw [if_pos rfl, if_pos (by omega)]
  · rw [if_neg e]
    by_cases h : x < j
    · rw [if_pos h, if_pos (by omega)]
    · rw [if_neg h, if_neg (by omega)]
theorem sumF_at (s t : St) (j : Nat) : sumF s t j j = Sha.St.get s j := if_neg (by omega)
theorem sumF_end (s t : St) {x : Nat} (hx : x < 8) : Sha.St.get (addSt s t) x = sumF s t 8 x := by rw [get_add _ _ hx]; unfold sumF; rw [if_pos hx]
theorem S1_raw {e : Nat} (h : e < 4294967296) : bits .xor .u32 (bits .xor .u32 (rotr e 6 : Nat) (rotr e 11 : Nat)) (rotr e 25 : Nat) = ((S1 e : Nat) : Int) := by
  rw [u32_xor_nat _ _ (rotr_lt h) (rotr_lt h), u32_xor_nat _ _ (xor32 (rotr_lt h) (rotr_lt h)) (rotr_lt h)]; rfl
theorem S0_raw {e : Nat} (h : e < 4294967296) : bits .xor .u32 (bits .xor .u32 (rotr e 2 : Nat) (rotr e 13 : Nat)) (rotr e 22 : Nat) = ((S0 e : Nat) : Int) := by
  rw [u32_xor_nat _ _ (rotr_lt h) (rotr_lt h), u32_xor_nat _ _ (xor32 (rotr_lt h) (rotr_lt h)) (rotr_lt h)]; rfl
theorem not_raw {e : Nat} (h : e < 4294967296) : bits .xor .u32 (if IntKind.u32.signed = true then -1 else IntKind.u32.max) (e : Int) = ((4294967295 ^^^ e : Nat) : Int) :=
  u32_xor_nat 4294967295 e (by omega) h
theorem ch_raw {e f g : Nat} (he : e < 4294967296) (hf : f < 4294967296) (hg : g < 4294967296) : bits .xor .u32 (bits .and .u32 (e : Int) (f : Int)) (bits .and .u32 (bits .xor .u32 (if IntKind.u32.signed = true then -1 else IntKind.u32.max) (e : Int)) (g : Int)) = ((ch e f g : Nat) : Int) := by
  rw [not_raw he, u32_and_nat _ _ he hf, u32_and_nat _ _ (xor32 (by omega) he) hg, u32_xor_nat _ _ (and32 hf) (and32 hg)]; rfl
theorem maj_raw {a b c : Nat} (ha : a < 4294967296) (hb : b < 4294967296) (hc : c < 4294967296) : bits .xor .u32 (bits .xor .u32 (bits .and .u32 (a : Int) (b : Int)) (bits .and .u32 (a : Int) (c : Int))) (bits .and .u32 (b : Int) (c : Int)) = ((maj a b c : Nat) : Int) := by
  rw [u32_and_nat _ _ ha hb, u32_and_nat _ _ ha hc, u32_and_nat _ _ hb hc, u32_xor_nat _ _ (and32 hb) (and32 hc), u32_xor_nat _ _ (xor32 (and32 hb) (and32 hc)) (and32 hc)]; rfl
theorem x_raw (a b c d : Nat) {e f g : Nat} (h k w : Nat) (he : e < 4294967296) (hf : f < 4294967296) (hg : g < 4294967296) :
    (((h : Int) + bits .xor .u32 (bits .xor .u32 (rotr e 6 : Nat) (rotr e 11 : Nat)) (rotr e 25 : Nat) + bits .xor .u32 (bits .and .u32 (e : Int) (f : Int)) (bits .and .u32 (bits .xor .u32 (if IntKind.u32.signed = true then -1 else IntKind.u32.max) (e : Int)) (g : Int)) + (k : Nat)) % 4294967296 + (w : Nat)) % 4294967296 = ((xF ⟨a, b, c, d, e, f, g, h⟩ k w : Nat) : Int) := by
  rw [S1_raw he, ch_raw he hf hg]; unfold xF; dsimp only; omega
theorem y_raw {a b c : Nat} (d e f g h : Nat) (ha : a < 4294967296) (hb : b < 4294967296) (hc : c < 4294967296) :
    (bits .xor .u32 (bits .xor .u32 (rotr a 2 : Nat) (rotr a 13 : Nat)) (rotr a 22 : Nat) + bits .xor .u32 (bits .xor .u32 (bits .and .u32 (a : Int) (b : Int)) (bits .and .u32 (a : Int) (c : Int))) (bits .and .u32 (b : Int) (c : Int))) % 4294967296 = ((yF ⟨a, b, c, d, e, f, g, h⟩ : Nat) : Int) := by
  rw [S0_raw ha, maj_raw ha hb hc]; unfold yF; dsimp only; omega
def nextArr (X Y a b c d e f g : Nat) : Array Value := #[.int .u32 (((X : Int) + (Y : Int)) % 4294967296), .int .u32 (a : Nat), .int .u32 (b : Nat), .int .u32 (c : Nat), .int .u32 (((d : Int) + (X : Int)) % 4294967296), .int .u32 (e : Nat), .int .u32 (f : Nat), .int .u32 (g : Nat)]
theorem nextArr_one (X Y a b c d e f g : Nat) : (nextArr X Y a b c d e f g).all (·.oneCell') = true := by simp [nextArr, Value.oneCell']
theorem next_arr {X Y a b c d e f g h k w : Nat} (hX : xF ⟨a, b, c, d, e, f, g, h⟩ k w = X) (hY : yF ⟨a, b, c, d, e, f, g, h⟩ = Y) : nextArr X Y a b c d e f g = stArr (rnd k w ⟨a, b, c, d, e, f, g, h⟩) := by
  unfold nextArr stArr rnd
  rw [hX, hY]
  simp
theorem eight_words {w : World} {b t : Nat} {F : Nat → Nat} {G : St} {v0 v1 v2 v3 v4 v5 v6 v7 : Value} (h : Words w b t 8 F) (hv : stArr G = #[v0, v1, v2, v3, v4, v5, v6, v7]) : Words ((((((((w.setCell ⟨b, 0, none⟩ v0).setCell ⟨b, 1, none⟩ v1).setCell ⟨b, 2, none⟩ v2).setCell ⟨b, 3, none⟩ v3).setCell ⟨b, 4, none⟩ v4).setCell ⟨b, 5, none⟩ v5).setCell ⟨b, 6, none⟩ v6).setCell ⟨b, 7, none⟩ v7) b t 8 (Sha.St.get G) := by
  have h8 := (((((((World.rowIs.set h 0 v0).set 1 v1).set 2 v2).set 3 v3).set 4 v4).set 5 v5).set 6 v6).set 7 v7
  refine h8.congr fun i hi => ?_
  have hg := stArr_get G hi
  rw [hv] at hg
  rcases (by omega : i = 0 ∨ i = 1 ∨ i = 2 ∨ i = 3 ∨ i = 4 ∨ i = 5 ∨ i = 6 ∨ i = 7) with rfl | rfl | rfl | rfl | rfl | rfl | rfl | rfl <;> (injection hg)
theorem eight_other {w : World} {b k : Nat} {v0 v1 v2 v3 v4 v5 v6 v7 : Value} (h : k ≠ b) : ((((((((w.setCell ⟨b, 0, none⟩ v0).setCell ⟨b, 1, none⟩ v1).setCell ⟨b, 2, none⟩ v2).setCell ⟨b, 3, none⟩ v3).setCell ⟨b, 4, none⟩ v4).setCell ⟨b, 5, none⟩ v5).setCell ⟨b, 6, none⟩ v6).setCell ⟨b, 7, none⟩ v7).heap[k]? = w.heap[k]? := by
  iterate 8 rw [heap_setCell_other _ _ _ _ (by exact h)]
theorem eight_below {w0 w : World} {B b : Nat} {v0 v1 v2 v3 v4 v5 v6 v7 : Value} (h : Below B w0 w) (hb : B ≤ b) : Below B w0 ((((((((w.setCell ⟨b, 0, none⟩ v0).setCell ⟨b, 1, none⟩ v1).setCell ⟨b, 2, none⟩ v2).setCell ⟨b, 3, none⟩ v3).setCell ⟨b, 4, none⟩ v4).setCell ⟨b, 5, none⟩ v5).setCell ⟨b, 6, none⟩ v6).setCell ⟨b, 7, none⟩ v7) :=
  (((((((h.setCell (by exact hb) _).setCell (by exact hb) _).setCell (by exact hb) _).setCell (by exact hb) _).setCell (by exact hb) _).setCell (by exact hb) _).setCell (by exact hb) _).setCell (by exact hb) _
theorem info8n (X Y a b c d e f g : Nat) : (Tryd.prog.info? 54).map (·.size) = some (nextArr X Y a b c d e f g).size := by
  have h : (Tryd.prog.info? 54).map (·.size) = some 8 := by kernel_rfl
  exact h
theorem size8n (s : St) (X Y a b c d e f g : Nat) : (stArr s).size = (nextArr X Y a b c d e f g).size := rfl
theorem gen_drewN {P : Program} {C : Code} {Q : Exit → Act → World → Prop} {a : Act} {w : World} {n m : Nat} (h : ∀ w9, w9 = (w.drewN n).drewN m → Code.wp P C Q a w9) : Code.wp P C Q a ((w.drewN n).drewN m) := h _ rfl
theorem next_raw2 (a b c d : Nat) : ((a : Int) + b + (c : Nat) + (d : Nat)) % 4294967296 = (((a + b + c + d) % 4294967296 : Nat) : Int) := by omega
theorem x_wrap (a b c d : Nat) {e f g : Nat} (h k w : Nat) (he : e < 4294967296) (hf : f < 4294967296) (hg : g < 4294967296) :
    IntKind.u32.wrap (IntKind.u32.wrap (IntKind.u32.wrap (IntKind.u32.wrap ((h : Int) + bits .xor .u32 (bits .xor .u32 (rotr e 6 : Nat) (rotr e 11 : Nat)) (rotr e 25 : Nat)) + bits .xor .u32 (bits .and .u32 (e : Int) (f : Int)) (bits .and .u32 (bits .xor .u32 (if IntKind.u32.signed = true then -1 else IntKind.u32.max) (e : Int)) (g : Int))) + (k : Nat)) + (w : Nat)) = ((xF ⟨a, b, c, d, e, f, g, h⟩ k w : Nat) : Int) := by
  rw [S1_raw he, ch_raw he hf hg]; unfold xF; simp only [IntKind.wrap_u32']; omega
theorem y_wrap {a b c : Nat} (d e f g h : Nat) (ha : a < 4294967296) (hb : b < 4294967296) (hc : c < 4294967296) :
    IntKind.u32.wrap (bits .xor .u32 (bits .xor .u32 (rotr a 2 : Nat) (rotr a 13 : Nat)) (rotr a 22 : Nat) + bits .xor .u32 (bits .xor .u32 (bits .and .u32 (a : Int) (b : Int)) (bits .and .u32 (a : Int) (c : Int))) (bits .and .u32 (b : Int) (c : Int))) = ((yF ⟨a, b, c, d, e, f, g, h⟩ : Nat) : Int) := by
  rw [S0_raw ha, maj_raw ha hb hc]; unfold yF; simp only [IntKind.wrap_u32']; omega
end Go.Proofs.YtcgjoidfmigpnaaDoor.Hash
