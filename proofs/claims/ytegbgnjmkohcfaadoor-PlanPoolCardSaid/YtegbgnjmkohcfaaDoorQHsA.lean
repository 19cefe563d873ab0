/- Rows of words of 32 bits, whole in a block; a row of bytes that was made, as a slice that can be appended to. No program is named here. What the document's answers for numbers in bytes, for bytes as a number, and for a word that is turned, return. The head of the document's digest: its two tables in memory, the padding. The regions of the document's digest that draw their order, each by itself, over a frame of letters. Made by tools/gen-sharegions.py. The document's digest. The document's weight. -/
import Derived.Test.YtegbgnjmkohcfaaDoorOwn
import Derived.Test.YtegbgnjmkohcfaaDoorRows
import Derived.Test.YtegbgnjmkohcfaaDoorSha
import Derived.Test.YtegbgnjmkohcfaaDoorBits
import Derived.Test.YtegbgnjmkohcfaaDoorList
import Derived.Test.YtegbgnjmkohcfaaDoorZeros
import Derived.Test.YtegbgnjmkohcfaaDoorWrites
import Derived.Deep.Cut
import Derived.Great.BuildSlice
import Derived.Laws.CopyOwn
import Derived.StillTailTactics
namespace Go.Mem
open Go.RowKit
/-- block b holds n words; word i is F i -/
def Words (w : World) (b t n : Nat) (F : Nat → Nat) : Prop := w.rowIs b t n (fun i => .int .u32 (F i : Nat))
section
variable {w w' : World} {b t n : Nat} {F G : Nat → Nat}
theorem Words.cell (h : Words w b t n F) {i : Nat} (hi : i < n) : w.cell? ⟨b, i, none⟩ = some (.int .u32 (F i : Nat)) := World.rowIs.cell h hi
theorem Words.free (h : Words w b t n F) (i : Nat) : w.frozen? ⟨b, i, none⟩ = false := World.rowIs.frozen h i
theorem Words.lt (h : Words w b t n F) : b < w.heap.size := World.rowIs.lt h
theorem Words.keep (h : Words w b t n F) (e : w'.heap[b]? = w.heap[b]?) : Words w' b t n F := World.rowIs.of_block h e
theorem Words.drewN (h : Words w b t n F) (k : Nat) : Words (w.drewN k) b t n F := h.keep rfl
theorem Words.drew (h : Words w b t n F) : Words w.drew b t n F := h.keep rfl
theorem Words.congr (h : Words w b t n F) (e : ∀ i, i < n → G i = F i) : Words w b t n G := by
  obtain ⟨c, h1, h2, h3⟩ := h
  exact ⟨c, h1, h2, fun i hi => by rw [h3 i hi]; dsimp only; rw [e i hi]⟩
theorem Words.set (h : Words w b t n F) (k x : Nat) : Words (w.setCell ⟨b, k, none⟩ (.int .u32 (x : Nat))) b t n (fun i => if i = k then x else F i) := by
  obtain ⟨c, h1, h2, h3⟩ := World.rowIs.set h k (.int .u32 (x : Nat))
  exact ⟨c, h1, h2, fun i hi => by rw [h3 i hi]; dsimp only; split <;> rfl⟩
theorem Words.below (h : Words w b t n F) (hb : Below w.heap.size w w') : Words w' b t n F := h.keep (hb.block b h.lt)
theorem Words.arr (h : Words w b t n F) : w.heap[b]? = some (.cells ((List.range n).map fun i => Value.int .u32 (F i : Nat)).toArray t (0, 0)) := by
  obtain ⟨c, h1, h2, h3⟩ := h
  rw [h1]
  have : c = ((List.range n).map fun i => Value.int .u32 (F i : Nat)).toArray := by
    apply Array.ext
    · simp [h2]
    · intro i h4 h5
      have h6 := h3 i (by omega)
      rw [Array.getElem?_eq_getElem h4] at h6
      injection h6 with h6
      rw [h6]; simp
  rw [this]
theorem Words.of_block {c : Array Value} (h1 : w.heap[b]? = some (.cells c t (0, 0))) (h2 : c.size = n) (h3 : ∀ i, i < n → c[i]? = some (.int .u32 (F i : Nat))) : Words w b t n F := ⟨c, h1, h2, h3⟩
end
/-- a row of bytes that the call made, as a slice that can be appended to -/
theorem rowIs_built {w : World} {g t n base : Nat} {F : Nat → Nat} (h : w.rowIs g t n (fun i => .int .u8 (F i : Nat))) (hF : ∀ i, i < n → F i < 256) (hb : base ≤ g) (hn : n ≤ 9223372036854775807) :
    Built ByteR w base t (.slice (some ⟨g, 0, none⟩) n n) ((List.range n).map F) := by
  obtain ⟨c, hc, hsz, hV⟩ := h
  refine ⟨c.toList, ⟨by simp [hsz], .inr ⟨g, n, c, by simp, hb, hc, by simp, by unfold maxLen; exact hn, by omega, by simp [← hsz, List.take_of_length_le]⟩⟩, fun i hi => ?_⟩
  have hi' : i < n := by simpa using hi
  exact ⟨.int .u8 (F i : Nat), by rw [Array.getElem?_toList]; exact hV i hi', fun w' _ => ⟨by simp, by simpa using hF i hi'⟩⟩
end Go.Mem
namespace Go.Proofs.YtegbgnjmkohcfaaDoor.Hash
open Go.ChangeShapes Go.WideShapes Go.ChangeAt Go.RowKit
open Go.Mem Sha
theorem infoByte : (Tryd.prog.info? 5).map (fun i => (i.zero, i.size, i.bytes)) = some (some (.int .u8 0), 1, 1) := by kernel_rfl
theorem ret_u32 {a b : Int} (h : a = b) : Ending.returned (.int .u32 a) = .returned (.int .u32 b) := by rw [h]
theorem ret_u64 {a b : Int} (h : a = b) : Ending.returned (.int .u64 a) = .returned (.int .u64 b) := by rw [h]
theorem int_u64 {a b : Int} (h : a = b) : Value.int .u64 a = .int .u64 b := by rw [h]
theorem int_i64 {a b : Int} (h : a = b) : Value.int .i64 a = .int .i64 b := by rw [h]
theorem int_u32 {a b : Int} (h : a = b) : Value.int .u32 a = .int .u32 b := by rw [h]
theorem rotr_raw {x n : Nat} (hx : x < 4294967296) : bits .or .u32 ((x : Int) / 2 ^ n) ((x : Int) * 2 ^ (32 - n) % 4294967296) = ((rotr x n : Nat) : Int) := by
  have h1 : x / 2 ^ n ≤ x := Nat.div_le_self _ _
  rw [show ((x : Int) / 2 ^ n) = ((x / 2 ^ n : Nat) : Int) by simp, show ((x : Int) * 2 ^ (32 - n) % 4294967296) = ((x * 2 ^ (32 - n) % 4294967296 : Nat) : Int) by simp, u32_or_nat _ _ (by omega) (by omega)]
  rfl
set_option maxHeartbeats 1000000 in
theorem rotC (x n : Nat) (hx : x < 4294967296) (hn : n ≤ 31) (w : World) :
    Calls Tryd.prog 54 #[.int .u32 x, .int .u64 n] w fun e w' => e = .returned (.int .u32 (rotr x n : Nat)) ∧ w = w' := by
  have HR := Lib.hid (rotr_raw (x := x) (n := n) hx)
  obtain ⟨m, hm⟩ : ∃ m : Nat, (32 : Int) - n = m := ⟨32 - n, by omega⟩
  have hm' : 32 - n = m := by omega
  rw [hm'] at HR
  go_enter Tryd.func54, Tryd.ntmps54
  go_wp2
  go_ret
  exact ⟨ret_u32 HR.out, rfl⟩
theorem rotI (x : Nat) (k : Int) (hx : x < 4294967296) (h0 : 0 ≤ k) (h1 : k ≤ 31) (w : World) :
    Calls Tryd.prog 54 #[.int .u32 x, .int .u64 k] w fun e w' => e = .returned (.int .u32 (rotr x k.toNat : Nat)) ∧ w = w' := by
  obtain ⟨n, rfl⟩ := Int.eq_ofNat_of_zero_le h0
  exact rotC x n hx (by omega) w
set_option maxHeartbeats 1000000 in
theorem numC (v n : Nat) (hv : v < 18446744073709551616) (hn : n ≤ 8) (w : World) :
    Calls Tryd.prog 39 #[.int .u64 v, .int .i64 n] w fun e w' => ∃ u, e = .returned u ∧ Built ByteR w' w.heap.size 5 u (numB v n) ∧ Below w.heap.size w w' := by
  have hmk := run_make_row' (P := Tryd.prog) 23 5 (.int .u8 0) 1 Tryd.underlying23 infoByte rfl .i64 .i64 n (by omega) (by omega)
  go_enter Tryd.func39, Tryd.ntmps39
  go_wp2
  go_loopw [0, 6] (fun x c wr => ∃ r k : Nat, r + k = n ∧ x = .int .u64 (v / 256 ^ k : Nat) ∧ c = .int .i64 ((r : Int) - 1) ∧ wr.rowIs w.heap.size 5 n (fun i => .int .u8 ((if r ≤ i then v / 256 ^ (n - 1 - i) % 256 else 0 : Nat) : Int)) ∧ Below w.heap.size w wr) (fun _ c _ => (intOf c + 1).toNat)
  case atStart =>
    refine ⟨n, 0, rfl, by simp, rfl, (World.rowIs_made _ _ _ _).congr fun i hi => ?_, (Below.refl _ _).alloc (Nat.le_refl _) _⟩
    rw [if_neg (by omega)]; rfl
  case round =>
    obtain ⟨r, k, hrk, rfl, rfl, hrow, hb⟩ := hrel
    have hxl : v / 256 ^ k ≤ v := Nat.div_le_self _ _
    rcases r with _ | r
    · obtain rfl : k = n := by omega
      go_wp2
      go_ret
      refine ⟨_, rfl, ?_, hb⟩
      exact rowIs_built (F := fun i => v / 256 ^ (k - 1 - i) % 256) (hrow.congr fun i _ => by rw [if_pos (by omega)]) (fun _ _ => Nat.mod_lt _ (by omega)) (Nat.le_refl _) (by omega)
    · have hc := hrow.cell (i := r) (by omega)
      have hf := hrow.frozen r
      rw [show ((r + 1 : Nat) : Int) - 1 = (r : Int) by omega]
      have HX := Lib.hid (show ((v / 256 ^ k : Nat) : Int) / 256 = ((v / 256 ^ (k + 1) : Nat) : Int) by rw [Nat.pow_succ, ← Nat.div_div_eq_div_mul]; simp)
      have HS := Lib.hid (hrow.set r (.int .u8 ((v / 256 ^ k % 256 : Nat) : Int)))
      have HB := Lib.hid (hb.setCell (p := ⟨w.heap.size, r, none⟩) (Nat.le_refl _) (.int .u8 ((v / 256 ^ k % 256 : Nat) : Int)))
      have hkr : n - 1 - r = k := by omega
      have HK := Lib.hid hkr
      clear hrow hb hkr
      obtain ⟨x, hx⟩ : ∃ x, v / 256 ^ k = x := ⟨_, rfl⟩
      rw [hx] at hxl HX HS HB ⊢
      have HXE := Lib.hid hx
      clear hx
      have hr2 : r < n := by omega
      go_wp2
      go_roundw
      case rel =>
        refine ⟨r, k + 1, by omega, int_u64 HX.out, rfl, HS.out.congr fun i hi => ?_, HB.out⟩
        by_cases e : i = r
        · subst e; rw [if_pos rfl, if_pos (Nat.le_refl _), HK.out, HXE.out]
        · rw [if_neg e]
          by_cases h : r ≤ i
          · rw [if_pos h, if_pos (by omega)]
          · rw [if_neg h, if_neg (by omega)]
      case measure => simp [intOf]
set_option maxHeartbeats 1000000 in
theorem readC (l : List Nat) (v : Value) (w : World) (hl : Bytes w v l) :
    Calls Tryd.prog 37 #[v] w fun e w' => e = .returned (.int .u64 (readB l : Nat)) ∧ w = w' := by
  obtain ⟨A, C, rfl, h1, h2, _⟩ := hl.shape
  obtain ⟨L, hL⟩ : ∃ L, l.length = L := ⟨_, rfl⟩
  have HL := Lib.hid hL
  rw [hL] at h1 ⊢
  clear hL
  go_enter Tryd.func37, Tryd.ntmps37
  go_wp2
  go_loop [3, 4] (fun x c => ∃ k : Nat, k ≤ L ∧ x = .int .u64 (readB (l.take k) : Nat) ∧ c = .int .i64 k) (fun _ c => L - (intOf c).toNat)
  case atStart => exact ⟨0, Nat.zero_le _, rfl, rfl⟩
  case round =>
    obtain ⟨k, hk, rfl, rfl⟩ := hrel
    by_cases hlt : k < L
    · have hlt' : k < l.length := by rw [HL.out]; exact hlt
      obtain ⟨b, o, rfl, hc, hx⟩ := hl.at hlt'
      have HS := Lib.hid (show readB (l.take (k + 1)) = (readB (l.take k) * 256 + l[k]) % 18446744073709551616 by
        unfold readB; rw [List.take_succ_eq_append_getElem hlt', List.foldl_append]; rfl)
      obtain ⟨x, hxe⟩ : ∃ x, l[k] = x := ⟨_, rfl⟩
      rw [hxe] at hc hx HS
      clear hxe hlt'
      obtain ⟨y, hy⟩ : ∃ y, readB (l.take k) = y := ⟨_, rfl⟩
      rw [hy] at HS ⊢
      clear hy
      go_wp2
      go_round
      case rel => exact ⟨k + 1, by omega, int_u64 (by rw [HS.out]; simp only [IntKind.wrap_u64]; omega), by go_num⟩
      case measure => simp [intOf]; omega
    · obtain rfl : k = L := by omega
      go_wp2
      go_ret
      exact ⟨ret_u64 (by rw [List.take_of_length_le (by rw [HL.out]; exact Nat.le_refl _)]), rfl⟩
end Go.Proofs.YtegbgnjmkohcfaaDoor.Hash
namespace Go.Proofs.YtegbgnjmkohcfaaDoor.Hash
open Go.ChangeShapes Go.WideShapes Go.ChangeAt Go.RowKit
open Go.Mem Sha
def kArr : Array Value := (kL.map fun x : Nat => Value.int .u32 x).toArray
def z64 : Array Value := Array.replicate 64 (.int .u32 0)
theorem z64_run (w : World) : (zeroValue 90).run Tryd.prog w = .ok (.agg z64) w := by kernel_rfl
theorem z64_size : z64.size = 64 := by unfold z64; simp
theorem z64_ne : ¬ z64 = #[] := by intro h; have := congrArg Array.size h; rw [z64_size] at this; exact absurd this (by decide)
theorem kArr_size : kArr.size = 64 := by kernel_rfl
theorem info64 : (Tryd.prog.info? 90).map (·.size) = some kArr.size := by kernel_rfl
theorem kArr_one : kArr.all (·.oneCell') = true := by kernel_rfl
theorem z64_k : z64.size = kArr.size := by rw [z64_size, kArr_size]
theorem new_block (w : World) (o : Obj) : (w.alloc o).heap[w.heap.size]? = some o := heap_alloc_new w o
theorem kL_len : kL.length = 64 := by decide
theorem kArr_get {i : Nat} (hi : i < 64) : kArr[i]? = some (.int .u32 (kF i : Nat)) := by
  have h : i < kL.length := by rw [kL_len]; exact hi
  unfold kArr kF
  rw [List.getElem?_toArray, List.getElem?_map, List.getElem?_eq_getElem h]
  simp [h]
def hArr : Array Value := #[.int .u32 1779033703, .int .u32 3144134277, .int .u32 1013904242, .int .u32 2773480762, .int .u32 1359893119, .int .u32 2600822924, .int .u32 528734635, .int .u32 1541459225]
theorem hArr_get {i : Nat} (hi : i < 8) : hArr[i]? = some (.int .u32 (Sha.begun.get i : Nat)) := by
  rcases (by omega : i = 0 ∨ i = 1 ∨ i = 2 ∨ i = 3 ∨ i = 4 ∨ i = 5 ∨ i = 6 ∨ i = 7) with rfl | rfl | rfl | rfl | rfl | rfl | rfl | rfl <;> rfl
/-- the two tables -/
theorem head_world (w : World) (tk th : Nat) {w2 : World} (h : ((w.alloc (.cells z64 tk)).setRow w.heap.size kArr).alloc (.cells hArr th) = w2) :
    Words w2 w.heap.size tk 64 kF ∧ Words w2 (w.heap.size + 1) th 8 Sha.begun.get ∧ Below w.heap.size w w2 ∧ w2.heap.size = w.heap.size + 2 := by
  subst h
  have hs : ((w.alloc (.cells z64 tk)).setRow w.heap.size kArr).heap.size = w.heap.size + 1 := by simp
  have hk : ((w.alloc (.cells z64 tk)).setRow w.heap.size kArr).heap[w.heap.size]? = some (.cells kArr tk (0, 0)) := setRow_heap _ _ z64 _ _ _ (new_block _ _)
  have h1 : Words ((w.alloc (.cells z64 tk)).setRow w.heap.size kArr) w.heap.size tk 64 kF := Words.of_block hk kArr_size (fun i hi => kArr_get hi)
  have hb : Below w.heap.size w ((w.alloc (.cells z64 tk)).setRow w.heap.size kArr) := below_setRow ((Below.refl _ _).alloc (Nat.le_refl _) _) (Nat.le_refl _) _
  refine ⟨h1.keep (heap_alloc_old _ _ (by rw [hs]; omega)), Words.of_block (c := hArr) ?_ rfl (fun i hi => hArr_get hi), hb.alloc (by rw [hs]; omega) _, by rw [World.size_alloc, hs]⟩
  have := heap_alloc_new ((w.alloc (.cells z64 tk)).setRow w.heap.size kArr) (.cells hArr th)
  rw [hs] at this
  exact this
def sliceLen : Value → Nat
  | .slice _ n _ => n
  | _ => 0
theorem zeros_lt {L k : Nat} (h : k < zerosOf L) : ((L + 1 + k : Nat) : Int) % 64 ≠ 56 := by unfold zerosOf at h; omega
theorem zeros_eq (L : Nat) : ((L + 1 + zerosOf L : Nat) : Int) % 64 = 56 := by unfold zerosOf; omega
theorem zeros_bd (L : Nat) : zerosOf L < 64 := Nat.mod_lt _ (by omega)
theorem rep_snoc (l : List Nat) (k : Nat) : l ++ [128] ++ List.replicate k 0 ++ [0] = l ++ [128] ++ List.replicate (k + 1) 0 := by
  rw [List.append_assoc _ (List.replicate k 0), ← List.replicate_succ']
/-- a state as it stands in memory -/
def stArr (s : St) : Array Value := #[.int .u32 (s.a : Nat), .int .u32 (s.b : Nat), .int .u32 (s.c : Nat), .int .u32 (s.d : Nat), .int .u32 (s.e : Nat), .int .u32 (s.f : Nat), .int .u32 (s.g : Nat), .int .u32 (s.h : Nat)]
theorem stArr_size (s : St) : (stArr s).size = 8 := rfl
theorem stArr_get (s : St) {i : Nat} (hi : i < 8) : (stArr s)[i]? = some (.int .u32 (Sha.St.get s i : Nat)) := by
  rcases (by omega : i = 0 ∨ i = 1 ∨ i = 2 ∨ i = 3 ∨ i = 4 ∨ i = 5 ∨ i = 6 ∨ i = 7) with rfl | rfl | rfl | rfl | rfl | rfl | rfl | rfl <;> rfl
theorem stArr_one (s : St) : (stArr s).all (·.oneCell') = true := by simp [stArr, Value.oneCell']
theorem words_st {w : World} {b t : Nat} {s : St} (h : Words w b t 8 (Sha.St.get s)) : w.heap[b]? = some (.cells (stArr s) t (0, 0)) := by
  obtain ⟨c, h1, h2, h3⟩ := h
  rw [h1]
  have : c = stArr s := by
    apply Array.ext
    · rw [h2]; rfl
    · intro i h4 h5
      have h6 := h3 i (by omega)
      rw [← stArr_get s (by omega), Array.getElem?_eq_getElem h4, Array.getElem?_eq_getElem h5] at h6
      injection h6
  rw [this]
theorem st_words {w : World} {b t : Nat} {s : St} (h : w.heap[b]? = some (.cells (stArr s) t (0, 0))) : Words w b t 8 (Sha.St.get s) := Words.of_block h rfl (fun _ hi => stArr_get s hi)
def z8 : Array Value := #[.int .u32 0, .int .u32 0, .int .u32 0, .int .u32 0, .int .u32 0, .int .u32 0, .int .u32 0, .int .u32 0]
theorem info8 (s : St) : (Tryd.prog.info? 91).map (·.size) = some (stArr s).size := by
  have h : (Tryd.prog.info? 91).map (·.size) = some 8 := by kernel_rfl
  exact h
/-- a block's words, still zeros, and its state, at the beginning -/
theorem inner_world (w : World) (tk th : Nat) (m : Nat → Nat) (s : St) {w2 : World} (h : ((w.alloc (.cells z64 tk)).alloc (.cells z8 th)).setRow (w.heap.size + 1) (stArr s) = w2) :
    Words w2 w.heap.size tk 64 (wF m 0) ∧ Words w2 (w.heap.size + 1) th 8 (Sha.St.get s) ∧ Below w.heap.size w w2 ∧ w2.heap.size = w.heap.size + 2 := by
  subst h
  have h0 : Words (w.alloc (.cells z64 tk)) w.heap.size tk 64 (wF m 0) := Words.of_block (new_block _ _) z64_size (fun i hi => by rw [wF_zero]; unfold z64; simp [hi])
  have h1 : Words ((w.alloc (.cells z64 tk)).alloc (.cells z8 th)) w.heap.size tk 64 (wF m 0) := h0.keep (heap_alloc_old _ _ (by simp))
  have hb : Below w.heap.size w ((w.alloc (.cells z64 tk)).alloc (.cells z8 th)) := ((Below.refl _ _).alloc (Nat.le_refl _) _).alloc (by simp) _
  refine ⟨h1.keep (setRow_other _ _ _ _ (by omega)), st_words (setRow_heap _ _ z8 _ _ _ (heap_alloc2_new _ _ _)), below_setRow hb (by omega) _, by simp⟩
theorem drop4 {M : List Nat} {o : Nat} (h : o + 4 ≤ M.length) : (M.drop o).take 4 = [M.getD o 0, M.getD (o + 1) 0, M.getD (o + 2) 0, M.getD (o + 3) 0] := by
  apply List.ext_getElem
  · simp; omega
  · intro i h1 h2
    have h3 : i < 4 := by simpa using h2
    rcases (by omega : i = 0 ∨ i = 1 ∨ i = 2 ∨ i = 3) with rfl | rfl | rfl | rfl <;> simp [show o < M.length by omega, show o + 1 < M.length by omega, show o + 2 < M.length by omega, show o + 3 < M.length by omega]
theorem read4 {M : List Nat} {o : Nat} (h : o + 4 ≤ M.length) (hM : ∀ x ∈ M, x < 256) : readB ((M.drop o).take 4) = word M o := by
  rw [drop4 h]
  have g : ∀ i, M.getD i 0 < 256 := fun i => by
    by_cases hi : i < M.length
    · simpa [hi] using hM _ (List.getElem_mem hi)
    · simp [Nat.le_of_not_lt hi]
  have := g o; have := g (o + 1); have := g (o + 2); have := g (o + 3)
  unfold readB word
  simp only [List.foldl]
  omega
/-- four bytes of a longer slice -/
theorem four_bytes {w : World} {b n C o : Nat} {M : List Nat} (h : Bytes w (.slice (some ⟨b, 0, none⟩) n C) M) (ho : o + 4 ≤ M.length) : Bytes w (.slice (some ⟨b, o, none⟩) 4 (C - o)) ((M.drop o).take 4) := by
  have h1 := h.drop (j := o) (by omega)
  have h2 := Bytes.take h1 (j := 4) (by simp; omega)
  rw [Nat.zero_add] at h2
  exact h2
theorem wF_at {m : Nat → Nat} {n : Nat} (h : n < 16) : wF m (n + 1) n = m n := by rw [wF_succ, if_pos rfl, if_pos h]
theorem words_next {w : World} {b t : Nat} {m : Nat → Nat} {n x : Nat} (h : Words w b t 64 (wF m n)) (hx : x = if n < 16 then m n else nextW (sched m n) n) : Words (w.setCell ⟨b, n, none⟩ (.int .u32 (x : Nat))) b t 64 (wF m (n + 1)) :=
  (h.set n x).congr fun i _ => by rw [wF_succ, hx]
theorem s0_raw {x : Nat} (h : x < 4294967296) : bits .xor .u32 (bits .xor .u32 (rotr x 7 : Nat) (rotr x 18 : Nat)) ((x : Int) / 8) = ((s0 x : Nat) : Int) := by
  rw [u32_xor_nat _ _ (rotr_lt h) (rotr_lt h), show ((x : Int) / 8) = ((x / 8 : Nat) : Int) by simp, u32_xor_nat _ _ (xor32 (rotr_lt h) (rotr_lt h)) (by omega)]; rfl
theorem s1_raw {x : Nat} (h : x < 4294967296) : bits .xor .u32 (bits .xor .u32 (rotr x 17 : Nat) (rotr x 19 : Nat)) ((x : Int) / 1024) = ((s1 x : Nat) : Int) := by
  rw [u32_xor_nat _ _ (rotr_lt h) (rotr_lt h), show ((x : Int) / 1024) = ((x / 1024 : Nat) : Int) by simp, u32_xor_nat _ _ (xor32 (rotr_lt h) (rotr_lt h)) (by omega)]; rfl
theorem next_raw (a b c d : Nat) : ((((a : Int) + b) % 4294967296 + (c : Nat)) % 4294967296 + (d : Nat)) % 4294967296 = (((a + b + c + d) % 4294967296 : Nat) : Int) := by omega
theorem quiet_same {P : Program} {f : FuncId} {args : Array Value} {w : World} {a n : Nat} {v : Value} (h : Calls P f args (w.drewN (a + n)) fun e w' => e = .returned v ∧ w.drewN (a + n) = w') :
    Calls P f args (w.drewN (a + n)) fun e w' => e = .returned v ∧ ∃ m, w' = w.drewN (a + m) := h.mono fun _ _ hh => ⟨hh.1, n, hh.2.symm⟩
theorem quiet_same0 {P : Program} {f : FuncId} {args : Array Value} {w : World} {n : Nat} {v : Value} (h : Calls P f args (w.drewN n) fun e w' => e = .returned v ∧ w.drewN n = w') :
    Calls P f args (w.drewN n) fun e w' => e = .returned v ∧ ∃ m, w' = w.drewN m := h.mono fun _ _ hh => ⟨hh.1, n, hh.2.symm⟩
theorem get_lt {s : St} (h : s.ok) (i : Nat) : Sha.St.get s i < 4294967296 := by
  obtain ⟨h1, h2, h3, h4, h5, h6, h7, h8⟩ := h
  by_cases hi : i < 8
  · rcases (by omega : i = 0 ∨ i = 1 ∨ i = 2 ∨ i = 3 ∨ i = 4 ∨ i = 5 ∨ i = 6 ∨ i = 7) with rfl | rfl | rfl | rfl | rfl | rfl | rfl | rfl <;> assumption
  · unfold Sha.St.get
    rw [List.getD_eq_getElem?_getD, List.getElem?_eq_none (by simp; omega)]
    simp
theorem get_add (s t : St) {i : Nat} (hi : i < 8) : Sha.St.get (addSt s t) i = (Sha.St.get s i + Sha.St.get t i) % 4294967296 := by
  rcases (by omega : i = 0 ∨ i = 1 ∨ i = 2 ∨ i = 3 ∨ i = 4 ∨ i = 5 ∨ i = 6 ∨ i = 7) with rfl | rfl | rfl | rfl | rfl | rfl | rfl | rfl <;> rfl
/-- the first j words are sums already -/
def sumF (s t : St) (j : Nat) : Nat → Nat := fun x => if x < j then (Sha.St.get s x + Sha.St.get t x) % 4294967296 else Sha.St.get s x
theorem sumF_next (s t : St) (j x : Nat) : sumF s t (j + 1) x = if x = j then (Sha.St.get s j + Sha.St.get t j) % 4294967296 else sumF s t j x := by
  unfold sumF
  by_cases e : x = j
  · subst e; rw [if_pos rfl, if_pos (by omega)]
  · rw [if_neg e]
    by_cases h : x < j
    · rw [if_pos h, if_pos (by omega)]
    · rw [if_neg h, if_neg (by omega)]
theorem sumF_at (s t : St) (j : Nat) : sumF s t j j = Sha.St.get s j := if_neg (by omega)
theorem sumF_end (s t : St) {x : Nat} (hx : x < 8) : Sha.St.get (addSt s t) x = sumF s t 8 x := by rw [get_add _ _ hx]; unfold sumF; rw [if_pos hx]
theorem S1_raw {e : Nat} (h : e < 4294967296) : bits .xor .u32 (bits .xor .u32 (rotr e 6 : Nat) (rotr e 11 : Nat)) (rotr e 25 : Nat) = ((S1 e : Nat) : Int) := by
  rw [u32_xor_nat _ _ (rotr_lt h) (rotr_lt h), u32_xor_nat _ _ (xor32 (rotr_lt h) (rotr_lt h)) (rotr_lt h)]; rfl
theorem S0_raw {e : Nat} (h : e < 4294967296) : bits .xor .u32 (bits .xor .u32 (rotr e 2 : Nat) (rotr e 13 : Nat)) (rotr e 22 : Nat) = ((S0 e : Nat) : Int) := by
  rw [u32_xor_nat _ _ (rotr_lt h) (rotr_lt h), u32_xor_nat _ _ (xor32 (rotr_lt h) (rotr_lt h)) (rotr_lt h)]; rfl
theorem not_raw {e : Nat} (h : e < 4294967296) : bits .xor .u32 (if IntKind.u32.signed = true then -1 else IntKind.u32.max) (e : Int) = ((4294967295 ^^^ e : Nat) : Int) :=
  u32_xor_nat 4294967295 e (by omega) h
theorem ch_raw {e f g : Nat} (he : e < 4294967296) (hf : f < 4294967296) (hg : g < 4294967296) : bits .xor .u32 (bits .and .u32 (e : Int) (f : Int)) (bits .and .u32 (bits .xor .u32 (if IntKind.u32.signed = true then -1 else IntKind.u32.max) (e : Int)) (g : Int)) = ((ch e f g : Nat) : Int) := by
  rw [not_raw he, u32_and_nat _ _ he hf, u32_and_nat _ _ (xor32 (by omega) he) hg, u32_xor_nat _ _ (and32 hf) (and32 hg)]; rfl
theorem maj_raw {a b c : Nat} (ha : a < 4294967296) (hb : b < 4294967296) (hc : c < 4294967296) : bits .xor .u32 (bits .xor .u32 (bits .and .u32 (a : Int) (b : Int)) (bits .and .u32 (a : Int) (c : Int))) (bits .and .u32 (b : Int) (c : Int)) = ((maj a b c : Nat) : Int) := by
  rw [u32_and_nat _ _ ha hb, u32_and_nat _ _ ha hc, u32_and_nat _ _ hb hc, u32_xor_nat _ _ (and32 hb) (and32 hc), u32_xor_nat _ _ (xor32 (and32 hb) (and32 hc)) (and32 hc)]; rfl
theorem x_raw (a b c d : Nat) {e f g : Nat} (h k w : Nat) (he : e < 4294967296) (hf : f < 4294967296) (hg : g < 4294967296) :
    (((h : Int) + bits .xor .u32 (bits .xor .u32 (rotr e 6 : Nat) (rotr e 11 : Nat)) (rotr e 25 : Nat) + bits .xor .u32 (bits .and .u32 (e : Int) (f : Int)) (bits .and .u32 (bits .xor .u32 (if IntKind.u32.signed = true then -1 else IntKind.u32.max) (e : Int)) (g : Int)) + (k : Nat)) % 4294967296 + (w : Nat)) % 4294967296 = ((xF ⟨a, b, c, d, e, f, g, h⟩ k w : Nat) : Int) := by
  rw [S1_raw he, ch_raw he hf hg]; unfold xF; dsimp only; omega
theorem y_raw {a b c : Nat} (d e f g h : Nat) (ha : a < 4294967296) (hb : b < 4294967296) (hc : c < 4294967296) :
    (bits .xor .u32 (bits .xor .u32 (rotr a 2 : Nat) (rotr a 13 : Nat)) (rotr a 22 : Nat) + bits .xor .u32 (bits .xor .u32 (bits .and .u32 (a : Int) (b : Int)) (bits .and .u32 (a : Int) (c : Int))) (bits .and .u32 (b : Int) (c : Int))) % 4294967296 = ((yF ⟨a, b, c, d, e, f, g, h⟩ : Nat) : Int) := by
  rw [S0_raw ha, maj_raw ha hb hc]; unfold yF; dsimp only; omega
def nextArr (X Y a b c d e f g : Nat) : Array Value := #[.int .u32 (((X : Int) + (Y : Int)) % 4294967296), .int .u32 (a : Nat), .int .u32 (b : Nat), .int .u32 (c : Nat), .int .u32 (((d : Int) + (X : Int)) % 4294967296), .int .u32 (e : Nat), .int .u32 (f : Nat), .int .u32 (g : Nat)]
theorem nextArr_one (X Y a b c d e f g : Nat) : (nextArr X Y a b c d e f g).all (·.oneCell') = true := by simp [nextArr, Value.oneCell']
theorem next_arr {X Y a b c d e f g h k w : Nat} (hX : xF ⟨a, b, c, d, e, f, g, h⟩ k w = X) (hY : yF ⟨a, b, c, d, e, f, g, h⟩ = Y) : nextArr X Y a b c d e f g = stArr (rnd k w ⟨a, b, c, d, e, f, g, h⟩) := by
  unfold nextArr stArr rnd
  rw [hX, hY]
  simp
theorem eight_words {w : World} {b t : Nat} {F : Nat → Nat} {G : St} {v0 v1 v2 v3 v4 v5 v6 v7 : Value} (h : Words w b t 8 F) (hv : stArr G = #[v0, v1, v2, v3, v4, v5, v6, v7]) : Words ((((((((w.setCell ⟨b, 0, none⟩ v0).setCell ⟨b, 1, none⟩ v1).setCell ⟨b, 2, none⟩ v2).setCell ⟨b, 3, none⟩ v3).setCell ⟨b, 4, none⟩ v4).setCell ⟨b, 5, none⟩ v5).setCell ⟨b, 6, none⟩ v6).setCell ⟨b, 7, none⟩ v7) b t 8 (Sha.St.get G) := by
  have h8 := (((((((World.rowIs.set h 0 v0).set 1 v1).set 2 v2).set 3 v3).set 4 v4).set 5 v5).set 6 v6).set 7 v7
  refine h8.congr fun i hi => ?_
  have hg := stArr_get G hi
  rw [hv] at hg
  rcases (by omega : i = 0 ∨ i = 1 ∨ i = 2 ∨ i = 3 ∨ i = 4 ∨ i = 5 ∨ i = 6 ∨ i = 7) with rfl | rfl | rfl | rfl | rfl | rfl | rfl | rfl <;> (injection hg)
theorem eight_other {w : World} {b k : Nat} {v0 v1 v2 v3 v4 v5 v6 v7 : Value} (h : k ≠ b) : ((((((((w.setCell ⟨b, 0, none⟩ v0).setCell ⟨b, 1, none⟩ v1).setCell ⟨b, 2, none⟩ v2).setCell ⟨b, 3, none⟩ v3).setCell ⟨b, 4, none⟩ v4).setCell ⟨b, 5, none⟩ v5).setCell ⟨b, 6, none⟩ v6).setCell ⟨b, 7, none⟩ v7).heap[k]? = w.heap[k]? := by
  iterate 8 rw [heap_setCell_other _ _ _ _ (by exact h)]
theorem eight_below {w0 w : World} {B b : Nat} {v0 v1 v2 v3 v4 v5 v6 v7 : Value} (h : Below B w0 w) (hb : B ≤ b) : Below B w0 ((((((((w.setCell ⟨b, 0, none⟩ v0).setCell ⟨b, 1, none⟩ v1).setCell ⟨b, 2, none⟩ v2).setCell ⟨b, 3, none⟩ v3).setCell ⟨b, 4, none⟩ v4).setCell ⟨b, 5, none⟩ v5).setCell ⟨b, 6, none⟩ v6).setCell ⟨b, 7, none⟩ v7) :=
  (((((((h.setCell (by exact hb) _).setCell (by exact hb) _).setCell (by exact hb) _).setCell (by exact hb) _).setCell (by exact hb) _).setCell (by exact hb) _).setCell (by exact hb) _).setCell (by exact hb) _
theorem info8n (X Y a b c d e f g : Nat) : (Tryd.prog.info? 91).map (·.size) = some (nextArr X Y a b c d e f g).size := by
  have h : (Tryd.prog.info? 91).map (·.size) = some 8 := by kernel_rfl
  exact h
theorem size8n (s : St) (X Y a b c d e f g : Nat) : (stArr s).size = (nextArr X Y a b c d e f g).size := rfl
theorem gen_drewN {P : Program} {C : Code} {Q : Exit → Act → World → Prop} {a : Act} {w : World} {n m : Nat} (h : ∀ w9, w9 = (w.drewN n).drewN m → Code.wp P C Q a w9) : Code.wp P C Q a ((w.drewN n).drewN m) := h _ rfl
theorem next_raw2 (a b c d : Nat) : ((a : Int) + b + (c : Nat) + (d : Nat)) % 4294967296 = (((a + b + c + d) % 4294967296 : Nat) : Int) := by omega
theorem x_wrap (a b c d : Nat) {e f g : Nat} (h k w : Nat) (he : e < 4294967296) (hf : f < 4294967296) (hg : g < 4294967296) :
    IntKind.u32.wrap (IntKind.u32.wrap (IntKind.u32.wrap (IntKind.u32.wrap ((h : Int) + bits .xor .u32 (bits .xor .u32 (rotr e 6 : Nat) (rotr e 11 : Nat)) (rotr e 25 : Nat)) + bits .xor .u32 (bits .and .u32 (e : Int) (f : Int)) (bits .and .u32 (bits .xor .u32 (if IntKind.u32.signed = true then -1 else IntKind.u32.max) (e : Int)) (g : Int))) + (k : Nat)) + (w : Nat)) = ((xF ⟨a, b, c, d, e, f, g, h⟩ k w : Nat) : Int) := by
  rw [S1_raw he, ch_raw he hf hg]; unfold xF; simp only [IntKind.wrap_u32']; omega
theorem y_wrap {a b c : Nat} (d e f g h : Nat) (ha : a < 4294967296) (hb : b < 4294967296) (hc : c < 4294967296) :
    IntKind.u32.wrap (bits .xor .u32 (bits .xor .u32 (rotr a 2 : Nat) (rotr a 13 : Nat)) (rotr a 22 : Nat) + bits .xor .u32 (bits .xor .u32 (bits .and .u32 (a : Int) (b : Int)) (bits .and .u32 (a : Int) (c : Int))) (bits .and .u32 (b : Int) (c : Int))) = ((yF ⟨a, b, c, d, e, f, g, h⟩ : Nat) : Int) := by
  rw [S0_raw ha, maj_raw ha hb hc]; unfold yF; simp only [IntKind.wrap_u32']; omega
end Go.Proofs.YtegbgnjmkohcfaaDoor.Hash
namespace Go.Proofs.YtegbgnjmkohcfaaDoor.Hash
set_option linter.unusedVariables false
open Go.ChangeShapes Go.WideShapes Go.ChangeAt Go.RowKit
open Go.Mem Sha
def regionOf (n : Nat) : Code → Option Code
  | .region id ops d => if id = n then some (.region id ops d) else none
  | .seq a b => match regionOf n a with
    | some c => some c
    | none => regionOf n b
  | .cond _ a b => match regionOf n a with
    | some c => some c
    | none => regionOf n b
  | .loop c => regionOf n c
  | .block _ c => regionOf n c
  | .scope c => regionOf n c
  | _ => none
noncomputable def code17 : Code := ((Tryd.f38.body).bind (regionOf 17)).getD .skip
noncomputable def code18 : Code := ((Tryd.f38.body).bind (regionOf 18)).getD .skip
noncomputable def code19 : Code := ((Tryd.f38.body).bind (regionOf 19)).getD .skip
noncomputable def code20 : Code := ((Tryd.f38.body).bind (regionOf 20)).getD .skip
set_option maxRecDepth 100000 in
set_option maxHeartbeats 4000000 in
theorem reg18 {u0 u1 u2 u4 u5 u6 u10 u11 u12 u13 u14 u15 u16 u17 u18 u19 u20 u21 u22 u23 u24 u25 u26 u27 u28 u29 u30 u31 u32 u33 u34 u35 u36 u37 u38 u39 u40 u41 u42 u43 u44 u45 u46 u47 u48 u49 u50 u51 u52 u53 u54 u55 u56 u57 u58 u59 u60 u61 u62 u63 u64 u65 u66 u67 u68 u69 u70 u71 u72 u73 u74 u75 u76 u77 u78 u79 u80 u81 u82 u83 u84 u85 u86 u87 u88 u89 u90 u91 u92 u93 u94 u95 u96 u97 u98 u99 u100 u101 u102 u103 u104 u105 u106 u107 u108 u109 u110 u111 u112 u113 u114 u115 u116 u117 u118 u119 u120 u121 u122 u123 u124 u125 u126 u127 u128 u129 u130 u131 u132 u133 u134 u135 u136 u137 u138 u139 u140 u141 u142 u143 u144 u145 u146 u147 u148 u149 u150 u151 u152 u153 u154 u155 u156 u157 u158 u159 u160 u161 u162 u163 u164 u165 u166 u167 u168 u169 u170 u171 u172 u173 u174 u175 u176 u177 u178 u179 u180 u181 u182 u183 u184 u185 u186 u187 u188 u189 u190 u191 u192 u193 u194 u195 u196 u197 u198 u199 u200 u201 u202 u203 u204 u205 u206 u207 u208 u209 u210 u211 u212 u213 u214 u215 u216 u217 u218 u219 : Value} {bk bw bs i a b c d e f g h kk ww : Nat} {w : World} (l0 : (i : Int) < 64) (ck : w.cell? ⟨bk, i, none⟩ = some (.int .u32 (kk : Nat))) (cw : w.cell? ⟨bw, i, none⟩ = some (.int .u32 (ww : Nat)))
    (c0 : w.cell? ⟨bs, 0, none⟩ = some (.int .u32 (a : Nat))) (c1 : w.cell? ⟨bs, 1, none⟩ = some (.int .u32 (b : Nat))) (c2 : w.cell? ⟨bs, 2, none⟩ = some (.int .u32 (c : Nat))) (c3 : w.cell? ⟨bs, 3, none⟩ = some (.int .u32 (d : Nat))) (c4 : w.cell? ⟨bs, 4, none⟩ = some (.int .u32 (e : Nat))) (c5 : w.cell? ⟨bs, 5, none⟩ = some (.int .u32 (f : Nat))) (c6 : w.cell? ⟨bs, 6, none⟩ = some (.int .u32 (g : Nat))) (c7 : w.cell? ⟨bs, 7, none⟩ = some (.int .u32 (h : Nat)))
    (he : e < 4294967296) (hf : f < 4294967296) (hg : g < 4294967296) (hh : h < 4294967296) (hk : kk < 4294967296) (hw : ww < 4294967296)
    {Q : Exit → Act → World → Prop} (hQ : ∀ (w' : World) (_ : ∃ n, w' = w.drewN n) (v111 v112 v113 v114 v115 v116 v117 v118 v119 v120 v121 v122 v123 v124 v125 v126 v127 v128 v129 v130 v131 v132 v133 v134 v135 v136 v137 v138 v139 v140 v141 v142 v143 v144 v145 : Value), Q .normal ⟨#[u0, u1, u2, .pointer (some ⟨bk, 0, none⟩), u4, u5, u6, .pointer (some ⟨bw, 0, none⟩), .pointer (some ⟨bs, 0, none⟩), .int .i64 (i : Nat), .int .u32 (xF ⟨a, b, c, d, e, f, g, h⟩ kk ww : Nat), u11, u12, u13, u14, u15, u16, u17, u18, u19, u20, u21, u22, u23, u24, u25, u26, u27, u28, u29, u30, u31, u32, u33, u34, u35, u36, u37, u38, u39, u40, u41, u42, u43, u44, u45, u46, u47, u48, u49, u50, u51, u52, u53, u54, u55, u56, u57, u58, u59, u60, u61, u62, u63, u64, u65, u66, u67, u68, u69, u70, u71, u72, u73, u74, u75, u76, u77, u78, u79, u80, u81, u82, u83, u84, u85, u86, u87, u88, u89, u90, u91, u92, u93, u94, u95, u96, u97, u98, u99, u100, u101, u102, u103, u104, u105, u106, u107, u108, u109, u110, v111, v112, v113, v114, v115, v116, v117, v118, v119, v120, v121, v122, v123, v124, v125, v126, v127, v128, v129, v130, v131, v132, v133, v134, v135, v136, v137, v138, v139, v140, v141, v142, v143, v144, v145, u146, u147, u148, u149, u150, u151, u152, u153, u154, u155, u156, u157, u158, u159, u160, u161, u162, u163, u164, u165, u166, u167, u168, u169, u170, u171, u172, u173, u174, u175, u176, u177, u178, u179, u180, u181, u182, u183, u184, u185, u186, u187, u188, u189, u190, u191, u192, u193, u194, u195, u196, u197, u198, u199, u200, u201, u202, u203, u204, u205, u206, u207, u208, u209, u210, u211, u212, u213, u214, u215, u216, u217, u218, u219], []⟩ w') :
    Code.wp Tryd.prog (code18) Q ⟨#[u0, u1, u2, .pointer (some ⟨bk, 0, none⟩), u4, u5, u6, .pointer (some ⟨bw, 0, none⟩), .pointer (some ⟨bs, 0, none⟩), .int .i64 (i : Nat), u10, u11, u12, u13, u14, u15, u16, u17, u18, u19, u20, u21, u22, u23, u24, u25, u26, u27, u28, u29, u30, u31, u32, u33, u34, u35, u36, u37, u38, u39, u40, u41, u42, u43, u44, u45, u46, u47, u48, u49, u50, u51, u52, u53, u54, u55, u56, u57, u58, u59, u60, u61, u62, u63, u64, u65, u66, u67, u68, u69, u70, u71, u72, u73, u74, u75, u76, u77, u78, u79, u80, u81, u82, u83, u84, u85, u86, u87, u88, u89, u90, u91, u92, u93, u94, u95, u96, u97, u98, u99, u100, u101, u102, u103, u104, u105, u106, u107, u108, u109, u110, u111, u112, u113, u114, u115, u116, u117, u118, u119, u120, u121, u122, u123, u124, u125, u126, u127, u128, u129, u130, u131, u132, u133, u134, u135, u136, u137, u138, u139, u140, u141, u142, u143, u144, u145, u146, u147, u148, u149, u150, u151, u152, u153, u154, u155, u156, u157, u158, u159, u160, u161, u162, u163, u164, u165, u166, u167, u168, u169, u170, u171, u172, u173, u174, u175, u176, u177, u178, u179, u180, u181, u182, u183, u184, u185, u186, u187, u188, u189, u190, u191, u192, u193, u194, u195, u196, u197, u198, u199, u200, u201, u202, u203, u204, u205, u206, u207, u208, u209, u210, u211, u212, u213, u214, u215, u216, u217, u218, u219], []⟩ w := by
  unfold code18
  conv => arg 2; whnf
  go_quiet ((go_at_call 54; exact quiet_same0 (rotI _ _ (by omega) (by omega) (by omega) _)))
  all_goals (rw [x_wrap a b c d h kk ww he hf hg]; exact hQ _ ⟨_, rfl⟩ _ _ _ _ _ _ _ _ _ _ _ _ _ _ _ _ _ _ _ _ _ _ _ _ _ _ _ _ _ _ _ _ _ _ _)
set_option maxRecDepth 100000 in
set_option maxHeartbeats 4000000 in
theorem reg19 {u0 u1 u2 u3 u4 u5 u6 u7 u9 u10 u11 u12 u13 u14 u15 u16 u17 u18 u19 u20 u21 u22 u23 u24 u25 u26 u27 u28 u29 u30 u31 u32 u33 u34 u35 u36 u37 u38 u39 u40 u41 u42 u43 u44 u45 u46 u47 u48 u49 u50 u51 u52 u53 u54 u55 u56 u57 u58 u59 u60 u61 u62 u63 u64 u65 u66 u67 u68 u69 u70 u71 u72 u73 u74 u75 u76 u77 u78 u79 u80 u81 u82 u83 u84 u85 u86 u87 u88 u89 u90 u91 u92 u93 u94 u95 u96 u97 u98 u99 u100 u101 u102 u103 u104 u105 u106 u107 u108 u109 u110 u111 u112 u113 u114 u115 u116 u117 u118 u119 u120 u121 u122 u123 u124 u125 u126 u127 u128 u129 u130 u131 u132 u133 u134 u135 u136 u137 u138 u139 u140 u141 u142 u143 u144 u145 u146 u147 u148 u149 u150 u151 u152 u153 u154 u155 u156 u157 u158 u159 u160 u161 u162 u163 u164 u165 u166 u167 u168 u169 u170 u171 u172 u173 u174 u175 u176 u177 u178 u179 u180 u181 u182 u183 u184 u185 u186 u187 u188 u189 u190 u191 u192 u193 u194 u195 u196 u197 u198 u199 u200 u201 u202 u203 u204 u205 u206 u207 u208 u209 u210 u211 u212 u213 u214 u215 u216 u217 u218 u219 : Value} {bs a b c d e f g h : Nat} {w : World}
    (c0 : w.cell? ⟨bs, 0, none⟩ = some (.int .u32 (a : Nat))) (c1 : w.cell? ⟨bs, 1, none⟩ = some (.int .u32 (b : Nat))) (c2 : w.cell? ⟨bs, 2, none⟩ = some (.int .u32 (c : Nat))) (c3 : w.cell? ⟨bs, 3, none⟩ = some (.int .u32 (d : Nat))) (c4 : w.cell? ⟨bs, 4, none⟩ = some (.int .u32 (e : Nat))) (c5 : w.cell? ⟨bs, 5, none⟩ = some (.int .u32 (f : Nat))) (c6 : w.cell? ⟨bs, 6, none⟩ = some (.int .u32 (g : Nat))) (c7 : w.cell? ⟨bs, 7, none⟩ = some (.int .u32 (h : Nat)))
    (ha : a < 4294967296) (hb : b < 4294967296) (hc : c < 4294967296)
    {Q : Exit → Act → World → Prop} (hQ : ∀ (w' : World) (_ : ∃ n, w' = w.drewN n) (v146 v147 v148 v149 v150 v151 v152 v153 v154 v155 v156 v157 v158 v159 v160 v161 v162 v163 v164 v165 v166 v167 v168 v169 v170 v171 v172 v173 v174 : Value), Q .normal ⟨#[u0, u1, u2, u3, u4, u5, u6, u7, .pointer (some ⟨bs, 0, none⟩), u9, u10, .int .u32 (yF ⟨a, b, c, d, e, f, g, h⟩ : Nat), u12, u13, u14, u15, u16, u17, u18, u19, u20, u21, u22, u23, u24, u25, u26, u27, u28, u29, u30, u31, u32, u33, u34, u35, u36, u37, u38, u39, u40, u41, u42, u43, u44, u45, u46, u47, u48, u49, u50, u51, u52, u53, u54, u55, u56, u57, u58, u59, u60, u61, u62, u63, u64, u65, u66, u67, u68, u69, u70, u71, u72, u73, u74, u75, u76, u77, u78, u79, u80, u81, u82, u83, u84, u85, u86, u87, u88, u89, u90, u91, u92, u93, u94, u95, u96, u97, u98, u99, u100, u101, u102, u103, u104, u105, u106, u107, u108, u109, u110, u111, u112, u113, u114, u115, u116, u117, u118, u119, u120, u121, u122, u123, u124, u125, u126, u127, u128, u129, u130, u131, u132, u133, u134, u135, u136, u137, u138, u139, u140, u141, u142, u143, u144, u145, v146, v147, v148, v149, v150, v151, v152, v153, v154, v155, v156, v157, v158, v159, v160, v161, v162, v163, v164, v165, v166, v167, v168, v169, v170, v171, v172, v173, v174, u175, u176, u177, u178, u179, u180, u181, u182, u183, u184, u185, u186, u187, u188, u189, u190, u191, u192, u193, u194, u195, u196, u197, u198, u199, u200, u201, u202, u203, u204, u205, u206, u207, u208, u209, u210, u211, u212, u213, u214, u215, u216, u217, u218, u219], []⟩ w') :
    Code.wp Tryd.prog (code19) Q ⟨#[u0, u1, u2, u3, u4, u5, u6, u7, .pointer (some ⟨bs, 0, none⟩), u9, u10, u11, u12, u13, u14, u15, u16, u17, u18, u19, u20, u21, u22, u23, u24, u25, u26, u27, u28, u29, u30, u31, u32, u33, u34, u35, u36, u37, u38, u39, u40, u41, u42, u43, u44, u45, u46, u47, u48, u49, u50, u51, u52, u53, u54, u55, u56, u57, u58, u59, u60, u61, u62, u63, u64, u65, u66, u67, u68, u69, u70, u71, u72, u73, u74, u75, u76, u77, u78, u79, u80, u81, u82, u83, u84, u85, u86, u87, u88, u89, u90, u91, u92, u93, u94, u95, u96, u97, u98, u99, u100, u101, u102, u103, u104, u105, u106, u107, u108, u109, u110, u111, u112, u113, u114, u115, u116, u117, u118, u119, u120, u121, u122, u123, u124, u125, u126, u127, u128, u129, u130, u131, u132, u133, u134, u135, u136, u137, u138, u139, u140, u141, u142, u143, u144, u145, u146, u147, u148, u149, u150, u151, u152, u153, u154, u155, u156, u157, u158, u159, u160, u161, u162, u163, u164, u165, u166, u167, u168, u169, u170, u171, u172, u173, u174, u175, u176, u177, u178, u179, u180, u181, u182, u183, u184, u185, u186, u187, u188, u189, u190, u191, u192, u193, u194, u195, u196, u197, u198, u199, u200, u201, u202, u203, u204, u205, u206, u207, u208, u209, u210, u211, u212, u213, u214, u215, u216, u217, u218, u219], []⟩ w := by
  unfold code19
  conv => arg 2; whnf
  go_quiet ((go_at_call 54; exact quiet_same0 (rotI _ _ (by omega) (by omega) (by omega) _)))
  all_goals (rw [y_wrap d e f g h ha hb hc]; exact hQ _ ⟨_, rfl⟩ _ _ _ _ _ _ _ _ _ _ _ _ _ _ _ _ _ _ _ _ _ _ _ _ _ _ _ _ _)
set_option maxRecDepth 100000 in
set_option maxHeartbeats 4000000 in
theorem reg20 {u0 u1 u2 u3 u4 u5 u6 u7 u9 u12 u13 u14 u15 u16 u17 u18 u19 u20 u21 u22 u23 u24 u25 u26 u27 u28 u29 u30 u31 u32 u33 u34 u35 u36 u37 u38 u39 u40 u41 u42 u43 u44 u45 u46 u47 u48 u49 u50 u51 u52 u53 u54 u55 u56 u57 u58 u59 u60 u61 u62 u63 u64 u65 u66 u67 u68 u69 u70 u71 u72 u73 u74 u75 u76 u77 u78 u79 u80 u81 u82 u83 u84 u85 u86 u87 u88 u89 u90 u91 u92 u93 u94 u95 u96 u97 u98 u99 u100 u101 u102 u103 u104 u105 u106 u107 u108 u109 u110 u111 u112 u113 u114 u115 u116 u117 u118 u119 u120 u121 u122 u123 u124 u125 u126 u127 u128 u129 u130 u131 u132 u133 u134 u135 u136 u137 u138 u139 u140 u141 u142 u143 u144 u145 u146 u147 u148 u149 u150 u151 u152 u153 u154 u155 u156 u157 u158 u159 u160 u161 u162 u163 u164 u165 u166 u167 u168 u169 u170 u171 u172 u173 u174 u175 u176 u177 u178 u179 u180 u181 u182 u183 u184 u185 u186 u187 u188 u189 u190 u191 u192 u193 u194 u195 u196 u197 u198 u199 u200 u201 u202 u203 u204 u205 u206 u207 u208 u209 u210 u211 u212 u213 u214 u215 u216 u217 u218 u219 : Value} {bs a b c d e f g h X Y : Nat} {w : World}
    (hst : w.heap[bs]? = some (.cells (stArr ⟨a, b, c, d, e, f, g, h⟩) 91 (0, 0)))
    {Q : Exit → Act → World → Prop} (hQ : ∀ (w' : World) (_ : w' = w.setRow bs (nextArr X Y a b c d e f g)) (v175 v176 v177 v178 v179 v180 v181 v182 v183 v184 v185 v186 v187 v188 v189 v190 v191 v192 v193 v194 : Value), Q .normal ⟨#[u0, u1, u2, u3, u4, u5, u6, u7, .pointer (some ⟨bs, 0, none⟩), u9, .int .u32 (X : Nat), .int .u32 (Y : Nat), u12, u13, u14, u15, u16, u17, u18, u19, u20, u21, u22, u23, u24, u25, u26, u27, u28, u29, u30, u31, u32, u33, u34, u35, u36, u37, u38, u39, u40, u41, u42, u43, u44, u45, u46, u47, u48, u49, u50, u51, u52, u53, u54, u55, u56, u57, u58, u59, u60, u61, u62, u63, u64, u65, u66, u67, u68, u69, u70, u71, u72, u73, u74, u75, u76, u77, u78, u79, u80, u81, u82, u83, u84, u85, u86, u87, u88, u89, u90, u91, u92, u93, u94, u95, u96, u97, u98, u99, u100, u101, u102, u103, u104, u105, u106, u107, u108, u109, u110, u111, u112, u113, u114, u115, u116, u117, u118, u119, u120, u121, u122, u123, u124, u125, u126, u127, u128, u129, u130, u131, u132, u133, u134, u135, u136, u137, u138, u139, u140, u141, u142, u143, u144, u145, u146, u147, u148, u149, u150, u151, u152, u153, u154, u155, u156, u157, u158, u159, u160, u161, u162, u163, u164, u165, u166, u167, u168, u169, u170, u171, u172, u173, u174, v175, v176, v177, v178, v179, v180, v181, v182, v183, v184, v185, v186, v187, v188, v189, v190, v191, v192, v193, v194, u195, u196, u197, u198, u199, u200, u201, u202, u203, u204, u205, u206, u207, u208, u209, u210, u211, u212, u213, u214, u215, u216, u217, u218, u219], []⟩ w') :
    Code.wp Tryd.prog (code20) Q ⟨#[u0, u1, u2, u3, u4, u5, u6, u7, .pointer (some ⟨bs, 0, none⟩), u9, .int .u32 (X : Nat), .int .u32 (Y : Nat), u12, u13, u14, u15, u16, u17, u18, u19, u20, u21, u22, u23, u24, u25, u26, u27, u28, u29, u30, u31, u32, u33, u34, u35, u36, u37, u38, u39, u40, u41, u42, u43, u44, u45, u46, u47, u48, u49, u50, u51, u52, u53, u54, u55, u56, u57, u58, u59, u60, u61, u62, u63, u64, u65, u66, u67, u68, u69, u70, u71, u72, u73, u74, u75, u76, u77, u78, u79, u80, u81, u82, u83, u84, u85, u86, u87, u88, u89, u90, u91, u92, u93, u94, u95, u96, u97, u98, u99, u100, u101, u102, u103, u104, u105, u106, u107, u108, u109, u110, u111, u112, u113, u114, u115, u116, u117, u118, u119, u120, u121, u122, u123, u124, u125, u126, u127, u128, u129, u130, u131, u132, u133, u134, u135, u136, u137, u138, u139, u140, u141, u142, u143, u144, u145, u146, u147, u148, u149, u150, u151, u152, u153, u154, u155, u156, u157, u158, u159, u160, u161, u162, u163, u164, u165, u166, u167, u168, u169, u170, u171, u172, u173, u174, u175, u176, u177, u178, u179, u180, u181, u182, u183, u184, u185, u186, u187, u188, u189, u190, u191, u192, u193, u194, u195, u196, u197, u198, u199, u200, u201, u202, u203, u204, u205, u206, u207, u208, u209, u210, u211, u212, u213, u214, u215, u216, u217, u218, u219], []⟩ w := by
  unfold code20
  conv => arg 2; whnf
  have c0 : w.cell? ⟨bs, 0, none⟩ = some (.int .u32 (a : Nat)) := by rw [cell_of_row _ _ _ _ _ _ hst]; rfl
  have c1 : w.cell? ⟨bs, 1, none⟩ = some (.int .u32 (b : Nat)) := by rw [cell_of_row _ _ _ _ _ _ hst]; rfl
  have c2 : w.cell? ⟨bs, 2, none⟩ = some (.int .u32 (c : Nat)) := by rw [cell_of_row _ _ _ _ _ _ hst]; rfl
  have c3 : w.cell? ⟨bs, 3, none⟩ = some (.int .u32 (d : Nat)) := by rw [cell_of_row _ _ _ _ _ _ hst]; rfl
  have c4 : w.cell? ⟨bs, 4, none⟩ = some (.int .u32 (e : Nat)) := by rw [cell_of_row _ _ _ _ _ _ hst]; rfl
  have c5 : w.cell? ⟨bs, 5, none⟩ = some (.int .u32 (f : Nat)) := by rw [cell_of_row _ _ _ _ _ _ hst]; rfl
  have c6 : w.cell? ⟨bs, 6, none⟩ = some (.int .u32 (g : Nat)) := by rw [cell_of_row _ _ _ _ _ _ hst]; rfl
  have c7 : w.cell? ⟨bs, 7, none⟩ = some (.int .u32 (h : Nat)) := by rw [cell_of_row _ _ _ _ _ _ hst]; rfl
  have HST := Lib.hid hst
  clear hst
  go_wp2_with (refine wpList_store_rowTo rfl 91 (.tmp 8) (.tmp 194) rfl rfl bs (nextArr X Y a b c d e f g) rfl rfl 91 (stArr ⟨a, b, c, d, e, f, g, h⟩) HST.out (info8n X Y a b c d e f g) (size8n _ _ _ _ _ _ _ _ _ _) (nextArr_one _ _ _ _ _ _ _ _ _) ?_)
  all_goals rfl
set_option maxRecDepth 100000 in
set_option maxHeartbeats 4000000 in
theorem reg17 {u0 u1 u2 u3 u4 u5 u6 u8 u10 u11 u12 u13 u14 u15 u16 u17 u18 u19 u20 u21 u22 u23 u24 u25 u26 u27 u28 u29 u30 u31 u32 u33 u34 u35 u36 u37 u38 u39 u40 u41 u42 u43 u44 u45 u46 u47 u48 u49 u50 u51 u52 u53 u54 u55 u56 u57 u58 u59 u60 u61 u62 u63 u64 u65 u66 u67 u68 u69 u70 u71 u72 u73 u74 u75 u76 u77 u78 u79 u80 u81 u82 u83 u84 u85 u86 u87 u88 u89 u90 u91 u92 u93 u94 u95 u96 u97 u98 u99 u100 u101 u102 u103 u104 u105 u106 u107 u108 u109 u110 u111 u112 u113 u114 u115 u116 u117 u118 u119 u120 u121 u122 u123 u124 u125 u126 u127 u128 u129 u130 u131 u132 u133 u134 u135 u136 u137 u138 u139 u140 u141 u142 u143 u144 u145 u146 u147 u148 u149 u150 u151 u152 u153 u154 u155 u156 u157 u158 u159 u160 u161 u162 u163 u164 u165 u166 u167 u168 u169 u170 u171 u172 u173 u174 u175 u176 u177 u178 u179 u180 u181 u182 u183 u184 u185 u186 u187 u188 u189 u190 u191 u192 u193 u194 u195 u196 u197 u198 u199 u200 u201 u202 u203 u204 u205 u206 u207 u208 u209 u210 u211 u212 u213 u214 u215 u216 u217 u218 u219 : Value} {bw i x16 x7 x15 x2 : Nat} {w : World} {y : Value} (h16 : 16 ≤ i) (h64 : i < 64)
    (hc16 : w.cell? ⟨bw, i - 16, none⟩ = some (.int .u32 (x16 : Nat))) (hc7 : w.cell? ⟨bw, i - 7, none⟩ = some (.int .u32 (x7 : Nat))) (hc15 : w.cell? ⟨bw, i - 15, none⟩ = some (.int .u32 (x15 : Nat))) (hc2 : w.cell? ⟨bw, i - 2, none⟩ = some (.int .u32 (x2 : Nat)))
    (hcw : w.cell? ⟨bw, i, none⟩ = some y) (hfw : w.frozen? ⟨bw, i, none⟩ = false) (hx16 : x16 < 4294967296) (hx7 : x7 < 4294967296) (hx15 : x15 < 4294967296) (hx2 : x2 < 4294967296)
    {Q : Exit → Act → World → Prop} (hQ : ∀ (w' : World) (_ : w' = (w.setCell ⟨bw, i, none⟩ (.int .u32 (((x16 + x7 + s0 x15 + s1 x2) % 4294967296 : Nat) : Int))).drew) (v64 v65 v66 v67 v68 v69 v70 v71 v72 v73 v74 v75 v76 v77 v78 v79 v80 v81 v82 v83 v84 v85 v86 v87 v88 v89 v90 v91 v92 v93 v94 v95 v96 v97 v98 v99 v100 v101 v102 v103 v104 v105 v106 v107 v108 v109 v110 : Value), Q .normal ⟨#[u0, u1, u2, u3, u4, u5, u6, .pointer (some ⟨bw, 0, none⟩), u8, .int .i64 (i : Nat), u10, u11, u12, u13, u14, u15, u16, u17, u18, u19, u20, u21, u22, u23, u24, u25, u26, u27, u28, u29, u30, u31, u32, u33, u34, u35, u36, u37, u38, u39, u40, u41, u42, u43, u44, u45, u46, u47, u48, u49, u50, u51, u52, u53, u54, u55, u56, u57, u58, u59, u60, u61, u62, u63, v64, v65, v66, v67, v68, v69, v70, v71, v72, v73, v74, v75, v76, v77, v78, v79, v80, v81, v82, v83, v84, v85, v86, v87, v88, v89, v90, v91, v92, v93, v94, v95, v96, v97, v98, v99, v100, v101, v102, v103, v104, v105, v106, v107, v108, v109, v110, u111, u112, u113, u114, u115, u116, u117, u118, u119, u120, u121, u122, u123, u124, u125, u126, u127, u128, u129, u130, u131, u132, u133, u134, u135, u136, u137, u138, u139, u140, u141, u142, u143, u144, u145, u146, u147, u148, u149, u150, u151, u152, u153, u154, u155, u156, u157, u158, u159, u160, u161, u162, u163, u164, u165, u166, u167, u168, u169, u170, u171, u172, u173, u174, u175, u176, u177, u178, u179, u180, u181, u182, u183, u184, u185, u186, u187, u188, u189, u190, u191, u192, u193, u194, u195, u196, u197, u198, u199, u200, u201, u202, u203, u204, u205, u206, u207, u208, u209, u210, u211, u212, u213, u214, u215, u216, u217, u218, u219], []⟩ w') :
    Code.wp Tryd.prog (code17) Q ⟨#[u0, u1, u2, u3, u4, u5, u6, .pointer (some ⟨bw, 0, none⟩), u8, .int .i64 (i : Nat), u10, u11, u12, u13, u14, u15, u16, u17, u18, u19, u20, u21, u22, u23, u24, u25, u26, u27, u28, u29, u30, u31, u32, u33, u34, u35, u36, u37, u38, u39, u40, u41, u42, u43, u44, u45, u46, u47, u48, u49, u50, u51, u52, u53, u54, u55, u56, u57, u58, u59, u60, u61, u62, u63, u64, u65, u66, u67, u68, u69, u70, u71, u72, u73, u74, u75, u76, u77, u78, u79, u80, u81, u82, u83, u84, u85, u86, u87, u88, u89, u90, u91, u92, u93, u94, u95, u96, u97, u98, u99, u100, u101, u102, u103, u104, u105, u106, u107, u108, u109, u110, u111, u112, u113, u114, u115, u116, u117, u118, u119, u120, u121, u122, u123, u124, u125, u126, u127, u128, u129, u130, u131, u132, u133, u134, u135, u136, u137, u138, u139, u140, u141, u142, u143, u144, u145, u146, u147, u148, u149, u150, u151, u152, u153, u154, u155, u156, u157, u158, u159, u160, u161, u162, u163, u164, u165, u166, u167, u168, u169, u170, u171, u172, u173, u174, u175, u176, u177, u178, u179, u180, u181, u182, u183, u184, u185, u186, u187, u188, u189, u190, u191, u192, u193, u194, u195, u196, u197, u198, u199, u200, u201, u202, u203, u204, u205, u206, u207, u208, u209, u210, u211, u212, u213, u214, u215, u216, u217, u218, u219], []⟩ w := by
  unfold code17
  conv => arg 2; whnf
  obtain ⟨a16, h16e⟩ : ∃ a : Nat, a = i - 16 := ⟨_, rfl⟩
  rw [← h16e] at hc16
  have e16 : ((i : Nat) : Int) - 16 = (a16 : Nat) := by omega
  have l16 : (a16 : Int) < 64 := by omega
  have r16 : IntKind.i64.wrap (a16 : Int) = (a16 : Int) := by rw [IntKind.wrap_i64]; omega
  clear h16e
  obtain ⟨a7, h7e⟩ : ∃ a : Nat, a = i - 7 := ⟨_, rfl⟩
  rw [← h7e] at hc7
  have e7 : ((i : Nat) : Int) - 7 = (a7 : Nat) := by omega
  have l7 : (a7 : Int) < 64 := by omega
  have r7 : IntKind.i64.wrap (a7 : Int) = (a7 : Int) := by rw [IntKind.wrap_i64]; omega
  clear h7e
  obtain ⟨a15, h15e⟩ : ∃ a : Nat, a = i - 15 := ⟨_, rfl⟩
  rw [← h15e] at hc15
  have e15 : ((i : Nat) : Int) - 15 = (a15 : Nat) := by omega
  have l15 : (a15 : Int) < 64 := by omega
  have r15 : IntKind.i64.wrap (a15 : Int) = (a15 : Int) := by rw [IntKind.wrap_i64]; omega
  clear h15e
  obtain ⟨a2, h2e⟩ : ∃ a : Nat, a = i - 2 := ⟨_, rfl⟩
  rw [← h2e] at hc2
  have e2 : ((i : Nat) : Int) - 2 = (a2 : Nat) := by omega
  have l2 : (a2 : Int) < 64 := by omega
  have r2 : IntKind.i64.wrap (a2 : Int) = (a2 : Int) := by rw [IntKind.wrap_i64]; omega
  clear h2e
  have l0 : (i : Int) < 64 := by omega
  clear h16 h64
  go_still_tail 47, (by kernel_rfl)
  repeat (still_call (still_of (rotI _ _ (by omega) (by omega) (by omega) _)); repeat still_step)
  refine wpStill_nil ?_
  change wpList _ _ _ _ _ w.drew
  go_wp2
  rw [s0_raw hx15, s1_raw hx2, next_raw]
end Go.Proofs.YtegbgnjmkohcfaaDoor.Hash
namespace Go.Proofs.YtegbgnjmkohcfaaDoor.Hash
open Go.ChangeShapes Go.WideShapes Go.ChangeAt Go.RowKit
open Go.Mem Sha
set_option maxRecDepth 100000 in
set_option maxHeartbeats 8000000 in
theorem shaC (l : List Nat) (v : Value) (w : World) (hl : Bytes w v l) (hn : l.length ≤ 100000) :
    Calls Tryd.prog 38 #[v] w fun e w' => ∃ u, e = .returned u ∧ Bytes w' u (sha l) ∧ Below w.heap.size w w' := by
  obtain ⟨A, C, rfl, h1, h2, _⟩ := hl.shape
  obtain ⟨L, hL⟩ : ∃ L, l.length = L := ⟨_, rfl⟩
  have hL5 : L ≤ 100000 := by omega
  have HPL := Lib.hid (show (pad l).length = L + 1 + zerosOf L + 8 by rw [pad_len, hL])
  have HP0 := Lib.hid (show pad l = l ++ [128] ++ List.replicate (zerosOf L) 0 ++ numB (8 * L) 8 by unfold pad; rw [hL, Nat.mod_eq_of_lt (by omega)])
  have HLZ := Lib.hid (show ∀ k, (l ++ [128] ++ List.replicate k 0).length = L + 1 + k by intro k; simp [hL]; omega)
  rw [hL] at h1 ⊢
  rw [hL] at hl
  have HL := Lib.hid hL
  have HH := Lib.hid hl
  clear hL hl hn
  have hz := z64_run
  have hne := z64_ne
  have hsz := Lib.hid (info64)
  go_enter Tryd.func38, Tryd.ntmps38
  go_upto_region 3 with (first
    | (refine wpList_buildTo rfl 90 _ rfl _ rfl kArr (by kernel_rfl) ?_)
    | (refine wpList_store_rowTo rfl 90 (.tmp 3) (.tmp 15) rfl rfl w.heap.size kArr rfl rfl 90 z64 (new_block _ _) hsz.out z64_k kArr_one ?_))
  generalize hw2 : ((w.alloc (.cells z64 90)).setRow w.heap.size kArr).alloc (.cells #[.int .u32 1779033703, .int .u32 3144134277, .int .u32 1013904242, .int .u32 2773480762, .int .u32 1359893119, .int .u32 2600822924, .int .u32 528734635, .int .u32 1541459225] 91) = w2
  obtain ⟨hk2, hh2, hb2, hs2⟩ := head_world w _ _ hw2
  have hl2 := HH.out.below hb2
  have hal3 : Below w2.heap.size w2 (w2.alloc (.cells #[] 5)) := (Below.refl _ _).alloc (Nat.le_refl _) _
  obtain ⟨v3, w3, hr3, hbu3, _, hb3⟩ := run_append_list (P := Tryd.prog) byteR_world byteR_one (w2.alloc (.cells #[] 5)) w2.heap.size 23 23 5 (.int .u8 0) 1 Tryd.underlying23 infoByte rfl _ [] (built_none w2 (Nat.le_refl _)) A L C l (hl2.below hal3) (by rw [HL.out]; simp; omega) (by simp)
  rw [List.nil_append] at hbu3
  have hb23 := hal3.trans hb3
  obtain ⟨v4, w4, hr4, hbu4, _, hb4⟩ := run_append_built (P := Tryd.prog) (R := ByteR) w3 w2.heap.size 23 23 5 (.int .u8 0) 1 Tryd.underlying23 infoByte rfl v3 l hbu3 (.int .u8 128) 128 rfl (fun _ _ => ⟨rfl, by omega⟩) (by rw [HL.out]; omega) hb23.size
  have hb24 := hb23.trans hb4
  have HR3 := Lib.hid hr3
  have HR4 := Lib.hid hr4
  have HB4 := Lib.hid (show Built ByteR w4 w2.heap.size 5 v4 (l ++ [128] ++ List.replicate 0 0) by simpa using hbu4)
  have HW := Lib.hid hb24
  have HK := Lib.hid hk2
  have HHH := Lib.hid hh2
  have HB2 := Lib.hid hb2
  have HS2 := Lib.hid hs2
  clear hr3 hr4 hbu3 hbu4 hb3 hb4 hb23 hb24 hk2 hh2 hb2 hs2 hl2 hal3 hw2
  go_wp2_with (at_builtin; first
    | (refine Lib.wpList_append_run _ rfl (.tmp 17) (.tmp 18) _ _ rfl _ _ rfl rfl _ _ HR3.out ?_)
    | (refine Lib.wpList_append_run _ rfl (.tmp 19) (.tmp 20) _ _ rfl _ _ rfl rfl _ _ HR4.out ?_))
  go_loopw [5] (fun v wr => ∃ k : Nat, k ≤ zerosOf L ∧ Built ByteR wr w2.heap.size 5 v (l ++ [128] ++ List.replicate k 0) ∧ Below w2.heap.size w2 wr) (fun v _ => L + 1 + zerosOf L - sliceLen v)
  case atStart => exact ⟨0, Nat.zero_le _, HB4.out, HW.out⟩
  case round =>
    obtain ⟨k, hk, hbu, hbr⟩ := hrel
    obtain ⟨A5, C5, rfl, hc1, hc2⟩ := hbu.len
    have hlen := HLZ.out k
    rw [hlen] at hc1 hbu ⊢
    have HN := Lib.hid hlen
    clear hlen
    by_cases hlt : k < zerosOf L
    · have HZ := Lib.hid (zeros_lt hlt)
      have hzb := zeros_bd L
      obtain ⟨n, hne5⟩ : ∃ n, L + 1 + k = n := ⟨_, rfl⟩
      have hn5 : n ≤ 200000 := by omega
      rw [hne5] at HZ hbu hc1 HN ⊢
      have ht : (((n : Nat) : Int) % 64 != 56) = true := by rw [bne_iff_ne]; exact HZ.out
      have HNE := Lib.hid hne5
      have HBU := Lib.hid hbu
      have HBR := Lib.hid hbr
      clear hne5 hbu hbr
      go_wp2_with (at_builtin; refine wpList_append_built (R := ByteR) _ rfl (.tmp 26) (.tmp 27) 23 rfl w2.heap.size 5 (.int .u8 0) 1 Tryd.underlying23 infoByte rfl _ _ rfl HBU.out _ 0 _ rfl (by simp) rfl (fun _ _ => ⟨rfl, by omega⟩) (by rw [HN.out]; omega) HBR.out.size ?_; intro v' w' hbu' hg' hb')
      obtain ⟨A6, C6, rfl, hc6, hd6⟩ := hbu'.len
      go_roundw
      case rel => exact ⟨k + 1, by omega, by rw [← rep_snoc]; exact hbu', HBR.out.trans hb'⟩
      case measure =>
        have e : (l ++ [128] ++ List.replicate k 0 ++ [0]).length = n + 1 := by rw [List.length_append, HN.out]; rfl
        rw [e]
        show L + 1 + zerosOf L - (n + 1) < L + 1 + zerosOf L - n
        have := HNE.out
        omega
    · obtain rfl : k = zerosOf L := by omega
      have HZ := Lib.hid (zeros_eq L)
      have hzb := zeros_bd L
      obtain ⟨n, hne5⟩ : ∃ n, L + 1 + zerosOf L = n := ⟨_, rfl⟩
      have hn5 : n ≤ 200000 := by omega
      rw [hne5] at HZ hbu hc1 HN HPL ⊢
      have ht : (((n : Nat) : Int) % 64 != 56) = false := by rw [bne_eq_false_iff_eq]; exact HZ.out
      have HBU := Lib.hid hbu
      have HBR := Lib.hid hbr
      have HNE := Lib.hid hne5
      clear hne5 hbu hbr
      go_wp2_with fail
      refine (numC (8 * L) 8 (by omega) (by omega) wr).mono ?_
      rintro _ w6 ⟨u6, rfl, hu6, hb6⟩
      obtain ⟨A6, C6, rfl, _, _⟩ := hu6.len
      rw [numB_len] at hu6 ⊢
      obtain ⟨v7, w7, hr7, hbu7, _, hb7⟩ := run_append_list (P := Tryd.prog) byteR_world byteR_one w6 w2.heap.size 23 23 5 (.int .u8 0) 1 Tryd.underlying23 infoByte rfl _ _ (HBU.out.below hb6) A6 8 C6 _ hu6.slice (by rw [HN.out, numB_len]; omega) (Nat.le_trans HBR.out.size hb6.size)
      rw [← HP0.out] at hbu7
      obtain ⟨gm, Cm, rfl, hcm, hdm, hgm⟩ := hbu7.some (n := n + 8) HPL.out (by omega)
      have hb67 := HBR.out.trans ((hb6.mono HBR.out.size).trans hb7)
      have HR7 := Lib.hid hr7
      have HM7 := Lib.hid hbu7
      have HB7 := Lib.hid hb67
      clear hr7 hbu7 hb7 hb67 hu6 hb6
      go_wp2_with (at_builtin; refine Lib.wpList_append_run _ rfl (.tmp 29) (.tmp 34) _ _ rfl _ _ rfl rfl _ _ HR7.out ?_)
      obtain ⟨NB, hNB⟩ : ∃ NB, n + 8 = 64 * NB := ⟨(n + 8) / 64, by have := HNE.out; unfold zerosOf at this; omega⟩
      rw [hNB] at HM7 HPL hcm ⊢
      have HNBE := Lib.hid hNB
      have hNB5 : NB ≤ 10000 := by omega
      clear hNB
      obtain ⟨Mg, hMg⟩ : ∃ M, pad l = M := ⟨_, rfl⟩
      have HMG := Lib.hid hMg
      rw [hMg] at HM7 HPL
      clear hMg
      have HMB := Lib.hid (show ∀ x ∈ Mg, x < 256 from fun x hx => by
        obtain ⟨i, hi, rfl⟩ := List.getElem_of_mem hx
        exact ((show Bytes w7 (.slice (some ⟨gm, 0, none⟩) (64 * NB) Cm) Mg from HM7.out.slice).here hi).2)
      go_loopw [6] (fun c wr => ∃ q : Nat, q ≤ NB ∧ c = .int .i64 (64 * (q : Int)) ∧ Words wr (w.heap.size + 1) 91 8 (blocks Mg q).get ∧ Words wr w.heap.size 90 64 kF ∧ Bytes wr (.slice (some ⟨gm, 0, none⟩) (64 * NB) Cm) Mg ∧ Below w.heap.size w wr ∧ w2.heap.size ≤ wr.heap.size) (fun c _ => 64 * NB - (intOf c).toNat)
      case atStart =>
        exact ⟨0, Nat.zero_le _, by simp, HHH.out.below HB7.out, HK.out.below HB7.out, HM7.out.slice, HB2.out.trans (HB7.out.mono HB2.out.size), HB7.out.size⟩
      case round =>
        obtain ⟨q, hq, rfl, hwh, hwk, hwm, hbr, hsr⟩ := hrel
        by_cases hlt : q < NB
        · obtain ⟨S, hS⟩ : ∃ S, blocks Mg q = S := ⟨_, rfl⟩
          have HSOK := Lib.hid (hS ▸ blocks_ok Mg q)
          have HSE := Lib.hid hS
          rw [hS] at hwh
          have HARR := Lib.hid (words_st (hwh.keep (w' := wr.alloc (.cells z64 90)) (heap_alloc_old _ _ hwh.lt)))
          have HWH := Lib.hid hwh
          have HWK := Lib.hid hwk
          have HWM := Lib.hid hwm
          have HBR2 := Lib.hid hbr
          have HSR := Lib.hid hsr
          have HI8 := Lib.hid (info8 S)
          clear hwh hwk hwm hbr hsr hS
          go_upto_region 12 with (first
            | (refine wpList_load_row rfl 91 (.tmp 4) rfl (w.heap.size + 1) rfl 91 (stArr S) (0, 0) _ HARR.out Tryd.underlying91 rfl HI8.out ?_)
            | (refine wpList_store_rowTo rfl 91 (.tmp 8) (.tmp 42) rfl rfl (wr.heap.size + 1) (stArr S) rfl rfl 91 z8 (heap_alloc2_new _ _ _) HI8.out rfl (stArr_one S) ?_))
          obtain ⟨m, hm⟩ : ∃ m : Nat → Nat, m = fun j => word Mg (64 * q + 4 * j) := ⟨_, rfl⟩
          have HMW := Lib.hid (show ∀ j, m j = word Mg (64 * q + 4 * j) from fun j => by rw [hm])
          have HML := Lib.hid (show ∀ j, m j < 4294967296 from fun j => by rw [hm]; exact word_lt HMB.out _)
          clear hm
          generalize hwi : ((wr.alloc (.cells z64 90)).alloc (.cells #[.int .u32 0, .int .u32 0, .int .u32 0, .int .u32 0, .int .u32 0, .int .u32 0, .int .u32 0, .int .u32 0] 91)).setRow (wr.heap.size + 1) (stArr S) = wi0
          obtain ⟨hi1, hi2, hi3, hi4⟩ := inner_world wr _ _ m S hwi
          have HI1 := Lib.hid hi1
          have HI2 := Lib.hid hi2
          have HI3 := Lib.hid hi3
          clear hi1 hi2 hi3 hwi
          obtain ⟨wo, hwo⟩ : ∃ wo : World, wo = wr := ⟨_, rfl⟩
          subst hwo
          go_wp2_with fail
          go_loopw [9] (fun c wi => ∃ i : Nat, i ≤ 64 ∧ c = .int .i64 i ∧ Words wi wo.heap.size 90 64 (wF m i) ∧ Words wi (wo.heap.size + 1) 91 8 (Sha.St.get (rnds m S i)) ∧ Below wo.heap.size wo wi) (fun c _ => 64 - (intOf c).toNat)
          case atStart => exact ⟨0, Nat.zero_le _, rfl, HI1.out, HI2.out, HI3.out⟩
          case round =>
            obtain ⟨i, hi, rfl, hww, hws, hbi⟩ := hrel
            by_cases hli : i < 64
            · go_upto_if 48 with (fail)
              go_cut [9, 44, 48] from 220 (fun c _ _ wx => c = .int .i64 i ∧ Words wx wo.heap.size 90 64 (wF m (i + 1)) ∧ Words wx (wo.heap.size + 1) 91 8 (Sha.St.get (rnds m S i)) ∧ Below wo.heap.size wo wx)
              case first =>
                by_cases h16 : i < 16
                · have hbM := (HWM.out.below hbi)
                  have hq1 : 64 * q + 4 * i + 4 ≤ Mg.length := by rw [HPL.out]; omega
                  have h4 := Lib.hid (four_bytes hbM hq1)
                  have HR4 := Lib.hid (read4 hq1 HMB.out)
                  have hxl := HML.out i
                  have HX := Lib.hid (HMW.out i)
                  have HN := Lib.hid (words_next hww (x := m i) (by rw [if_pos h16]))
                  obtain ⟨x, hx⟩ : ∃ x, m i = x := ⟨_, rfl⟩
                  rw [hx] at hxl HX HN
                  clear hx
                  have hcw := hww.cell hli
                  have hfw := hww.free i
                  have HWS := Lib.hid (hws.keep (w' := wr.setCell ⟨wo.heap.size, i, none⟩ (.int .u32 (x : Nat))) (heap_setCell_other _ _ _ _ (by show wo.heap.size + 1 ≠ wo.heap.size; omega)))
                  have HBI := Lib.hid (hbi.setCell (p := ⟨wo.heap.size, i, none⟩) (Nat.le_refl _) (.int .u32 (x : Nat)))
                  have HRB := Lib.hid (show readB ((Mg.drop (64 * q + 4 * i)).take 4) = x by rw [HR4.out, HX.out])
                  have hq2 : 64 * q + 4 * i + 4 ≤ Cm := by omega
                  clear hbM hq1 hww hws hbi
                  go_wp2_with fail
                  refine (readC _ _ _ h4.out).mono ?_
                  rintro _ w' ⟨rfl, rfl⟩
                  rw [HRB.out]
                  go_wp2_with fail
                  go_meet
                  case rel => exact ⟨rfl, HN.out, HWS.out, HBI.out⟩
                · have hc16 := hww.cell (i := i - 16) (by omega)
                  have hc7 := hww.cell (i := i - 7) (by omega)
                  have hc15 := hww.cell (i := i - 15) (by omega)
                  have hc2 := hww.cell (i := i - 2) (by omega)
                  have hx16 := wF_lt HML.out i (i - 16)
                  have hx7 := wF_lt HML.out i (i - 7)
                  have hx15 := wF_lt HML.out i (i - 15)
                  have hx2 := wF_lt HML.out i (i - 2)
                  have HNW := Lib.hid (show nextW (sched m i) i = (wF m i (i - 16) + wF m i (i - 7) + s0 (wF m i (i - 15)) + s1 (wF m i (i - 2))) % 4294967296 from rfl)
                  have hcw := hww.cell hli
                  have hfw := hww.free i
                  have HWW := Lib.hid hww
                  have HWS := Lib.hid hws
                  have HBI := Lib.hid hbi
                  clear hww hws hbi
                  go_upto_region 17 with (fail)
                  refine reg17 (by omega) hli hc16 hc7 hc15 hc2 hcw hfw hx16 hx7 hx15 hx2 ?_
                  clear hc16 hc7 hc15 hc2 hcw hfw hx16 hx7 hx15 hx2
                  intro w17 h17
                  have H17 := Lib.hid h17
                  clear h17
                  intros
                  go_wp2
                  go_meet
                  case rel =>
                    rw [H17.out]
                    refine ⟨rfl, ?_, (HWS.out.keep (heap_setCell_other _ _ _ _ (by show wo.heap.size + 1 ≠ wo.heap.size; omega))).drew, (HBI.out.setCell (p := ⟨wo.heap.size, i, none⟩) (Nat.le_refl _) _).drew⟩
                    rw [← HNW.out]
                    exact (words_next HWW.out (by rw [if_neg h16])).drew
              case rest =>
                obtain ⟨rfl, hww, hws, hbi⟩ := hcut
                obtain ⟨R, hR⟩ : ∃ R, rnds m S i = R := ⟨_, rfl⟩
                have hok : R.ok := hR ▸ rnds_ok HSOK.out i
                rw [hR] at hws
                have HRE := Lib.hid (show rnds m S (i + 1) = rnd (kF i) (wF m (i + 1) i) R by rw [rnds, hR]; rfl)
                have hkl := kF_lt i
                have hwl := wF_lt HML.out (i + 1) i
                have ck := (HWK.out.below hbi).cell hli
                have cw := hww.cell hli
                obtain ⟨kk, hkk⟩ : ∃ x, kF i = x := ⟨_, rfl⟩
                obtain ⟨ww, hwwe⟩ : ∃ x, wF m (i + 1) i = x := ⟨_, rfl⟩
                rw [hkk] at HRE hkl ck
                rw [hwwe] at HRE hwl cw
                obtain ⟨a, b, c, d, e, f, g, h⟩ := R
                obtain ⟨ha, hb, hc, hd, he, hf, hg, hh⟩ := hok
                dsimp only at ha hb hc hd he hf hg hh
                have HWW := Lib.hid hww
                have HWS := Lib.hid hws
                have HBI := Lib.hid hbi
                have HCK := Lib.hid ck
                have HCW := Lib.hid cw
                clear hww hws hbi hkk hwwe hR ck cw
                go_upto_region 18 with (fail)
                refine reg18 (i := i) (kk := kk) (ww := ww) (a := a) (b := b) (c := c) (d := d) (e := e) (f := f) (g := g) (h := h) (by omega) HCK.out HCW.out (HWS.out.cell (i := 0) (by omega)) (HWS.out.cell (i := 1) (by omega)) (HWS.out.cell (i := 2) (by omega)) (HWS.out.cell (i := 3) (by omega)) (HWS.out.cell (i := 4) (by omega)) (HWS.out.cell (i := 5) (by omega)) (HWS.out.cell (i := 6) (by omega)) (HWS.out.cell (i := 7) (by omega)) he hf hg hh hkl hwl ?_
                intro w18 h18
                have HWS18 := Lib.hid (show Words w18 (wo.heap.size + 1) 91 8 (Sha.St.get ⟨a, b, c, d, e, f, g, h⟩) by obtain ⟨n18, e18⟩ := h18; rw [e18]; exact HWS.out.drewN _)
                have HWW18 := Lib.hid (show Words w18 wo.heap.size 90 64 (wF m (i + 1)) by obtain ⟨n18, e18⟩ := h18; rw [e18]; exact HWW.out.drewN _)
                have HBI18 := Lib.hid (show Below wo.heap.size wo w18 by obtain ⟨n18, e18⟩ := h18; rw [e18]; exact HBI.out.trans (below_drewN _ _ _))
                clear h18
                intros
                go_upto_region 19 with (fail)
                refine reg19 (a := a) (b := b) (c := c) (d := d) (e := e) (f := f) (g := g) (h := h) (HWS18.out.cell (i := 0) (by omega)) (HWS18.out.cell (i := 1) (by omega)) (HWS18.out.cell (i := 2) (by omega)) (HWS18.out.cell (i := 3) (by omega)) (HWS18.out.cell (i := 4) (by omega)) (HWS18.out.cell (i := 5) (by omega)) (HWS18.out.cell (i := 6) (by omega)) (HWS18.out.cell (i := 7) (by omega)) ha hb hc ?_
                intro w19 h19
                have HWS19 := Lib.hid (show Words w19 (wo.heap.size + 1) 91 8 (Sha.St.get ⟨a, b, c, d, e, f, g, h⟩) by obtain ⟨n18, e18⟩ := h19; rw [e18]; exact HWS18.out.drewN _)
                have HWW19 := Lib.hid (show Words w19 wo.heap.size 90 64 (wF m (i + 1)) by obtain ⟨n18, e18⟩ := h19; rw [e18]; exact HWW18.out.drewN _)
                have HBI19 := Lib.hid (show Below wo.heap.size wo w19 by obtain ⟨n18, e18⟩ := h19; rw [e18]; exact HBI18.out.trans (below_drewN _ _ _))
                clear h19
                intros
                have hxl := xF_lt ⟨a, b, c, d, e, f, g, h⟩ kk ww
                have hyl := yF_lt ⟨a, b, c, d, e, f, g, h⟩
                obtain ⟨X, hX⟩ : ∃ X, xF ⟨a, b, c, d, e, f, g, h⟩ kk ww = X := ⟨_, rfl⟩
                obtain ⟨Y, hY⟩ : ∃ Y, yF ⟨a, b, c, d, e, f, g, h⟩ = Y := ⟨_, rfl⟩
                rw [hX] at hxl ⊢
                rw [hY] at hyl ⊢
                have HNA := Lib.hid (next_arr hX hY)
                clear hX hY
                go_upto_region 20 with (fail)
                refine reg20 (a := a) (b := b) (c := c) (d := d) (e := e) (f := f) (g := g) (h := h) (X := X) (Y := Y) (bs := wo.heap.size + 1) (words_st HWS19.out) ?_
                intro w20 h20
                have HWS20 := Lib.hid (show Words w20 (wo.heap.size + 1) 91 8 (Sha.St.get (rnds m S (i + 1))) by rw [h20, HRE.out, HNA.out]; exact st_words (setRow_heap _ _ _ _ _ _ (words_st HWS19.out)))
                have HWW20 := Lib.hid (show Words w20 wo.heap.size 90 64 (wF m (i + 1)) by rw [h20]; exact HWW19.out.keep (setRow_other _ _ _ _ (by omega)))
                have HBI20 := Lib.hid (show Below wo.heap.size wo w20 by rw [h20]; exact below_setRow HBI19.out (by omega) _)
                clear h20
                intros
                go_wp2
                go_roundw
                case rel => exact ⟨i + 1, by omega, by go_num, HWW20.out, HWS20.out, HBI20.out⟩
                case measure => simp [intOf]; omega
            · have hi64 : i = 64 := by omega
              obtain ⟨R, hR⟩ : ∃ R, rnds m S i = R := ⟨_, rfl⟩
              have hok : R.ok := hR ▸ rnds_ok HSOK.out i
              have HBL := Lib.hid (show blocks Mg (q + 1) = addSt S R by
                rw [blocks, HSE.out, Sha.block, ← hR, hi64, show m = fun j => word Mg (64 * q + 4 * j) from funext HMW.out])
              rw [hR] at hws
              have HOKR := Lib.hid hok
              have HWHr := Lib.hid (HWH.out.below hbi)
              have HWS := Lib.hid hws
              have HBI := Lib.hid hbi
              clear hww hws hbi hR hok hi64
              obtain ⟨wi, hwi2⟩ : ∃ wi : World, wi = wr := ⟨_, rfl⟩
              subst hwi2
              go_wp2_with fail
              go_loopw [12] (fun c wx => ∃ j : Nat, j ≤ 8 ∧ c = .int .i64 j ∧ Words wx (w.heap.size + 1) 91 8 (sumF S R j) ∧ wi.grownBy wx (some (w.heap.size + 1))) (fun c _ => 8 - (intOf c).toNat)
              case atStart => exact ⟨0, Nat.zero_le _, rfl, HWHr.out.congr (fun x _ => if_neg (by omega)), World.grownBy.refl _ _⟩
              case round =>
                obtain ⟨j, hj, rfl, hwh, hg⟩ := hrel
                by_cases hlj : j < 8
                · have hch := hwh.cell hlj
                  have hfh := hwh.free j
                  have hws := HWS.out.keep (w' := wr) (hg.block _ HWS.out.lt (by intro e; injection e with e; have := HWH.out.lt; omega))
                  have hcs := hws.cell hlj
                  rw [sumF_at] at hch
                  have hxl := get_lt HSOK.out j
                  have hyl := get_lt HOKR.out j
                  have HN := Lib.hid ((hwh.set j ((Sha.St.get S j + Sha.St.get R j) % 4294967296)).congr (G := sumF S R (j + 1)) fun x _ => sumF_next S R j x)
                  obtain ⟨x, hx⟩ : ∃ x, Sha.St.get S j = x := ⟨_, rfl⟩
                  obtain ⟨y, hy⟩ : ∃ x, Sha.St.get R j = x := ⟨_, rfl⟩
                  rw [hx] at hch hxl HN
                  rw [hy] at hcs hyl HN
                  have HG := Lib.hid hg
                  have l0 : (j : Int) < 8 := by omega
                  clear hwh hg hws hx hy
                  go_upto_region 24 with (fail)
                  go_still_tail 9, (by kernel_rfl)
                  change wpList _ _ _ _ _ wr.drew
                  go_wp2
                  go_roundw
                  case rel => exact ⟨j + 1, by omega, by go_num, HN.out.drew, grown_drewN (grown_set HG.out _) 1⟩
                  case measure => simp [intOf]; omega
                · obtain rfl : j = 8 := by omega
                  have HWH8 := Lib.hid (hwh.congr (G := Sha.St.get (blocks Mg (q + 1))) fun x hx => by rw [HBL.out]; exact sumF_end S R hx)
                  have hgb : Below w.heap.size wi wr := (Below.refl _ _).grown hg (by have := HBR2.out.size; have := HBI.out.size; omega) (fun k e => by injection e; omega)
                  have HWK8 := Lib.hid ((HWK.out.below HBI.out).keep (w' := wr) (hg.block _ (HWK.out.below HBI.out).lt (by intro e; injection e with e; omega)))
                  have HWM8 := Lib.hid ((HWM.out.below HBI.out).off (w' := wr) (b := w.heap.size + 1) (fun a n' C' e _ q => by cases e; have := HS2.out; dsimp only at q; omega) hg)
                  have HB8 := Lib.hid ((HBR2.out.trans (HBI.out.mono HBR2.out.size)).trans (show Below w.heap.size wi wr from hgb))
                  have HS8 := Lib.hid (Nat.le_trans HSR.out (Nat.le_trans HBI.out.size hg.size))
                  clear hwh hg hgb
                  go_wp2_with fail
                  go_roundw
                  case rel => exact ⟨q + 1, by omega, int_i64 (by omega), HWH8.out, HWK8.out, HWM8.out, HB8.out, HS8.out⟩
                  case measure => simp [intOf]; omega
        · obtain rfl : q = NB := by omega
          obtain ⟨F, hF⟩ : ∃ F, blocks Mg q = F := ⟨_, rfl⟩
          have HOKF := Lib.hid (hF ▸ blocks_ok Mg q)
          have HSH := Lib.hid (show sha l = outB F 8 by unfold sha; rw [HMG.out, HPL.out, Nat.mul_div_cancel_left _ (by omega), hF])
          rw [hF] at hwh
          have HWH := Lib.hid hwh
          have HBR2 := Lib.hid hbr
          clear hwh hwk hwm hbr hsr hF
          obtain ⟨wo, hwo⟩ : ∃ wo : World, wo = wr := ⟨_, rfl⟩
          subst hwo
          go_wp2_with fail
          go_loopw [13, 14] (fun v c wx => ∃ j : Nat, j ≤ 8 ∧ c = .int .i64 j ∧ Built ByteR wx wo.heap.size 5 v (outB F j) ∧ Below wo.heap.size wo wx) (fun _ c _ => 8 - (intOf c).toNat)
          case atStart => exact ⟨0, Nat.zero_le _, rfl, Built.start _ _ _, Below.refl _ _⟩
          case round =>
            obtain ⟨j, hj, rfl, hbu, hbx⟩ := hrel
            by_cases hlj : j < 8
            · have hch := (HWH.out.below hbx).cell hlj
              have hxl := get_lt HOKF.out j
              have HO := Lib.hid (show outB F (j + 1) = outB F j ++ numB (Sha.St.get F j) 4 from rfl)
              obtain ⟨x, hx⟩ : ∃ x, Sha.St.get F j = x := ⟨_, rfl⟩
              rw [hx] at hch hxl HO
              have HBU := Lib.hid hbu
              have HBX := Lib.hid hbx
              obtain ⟨A5, C5, rfl, hc1, hc2⟩ := hbu.len
              rw [outB_len] at HBU ⊢
              clear hbu hbx hx
              go_wp2_with fail
              refine (numC x 4 (by omega) (by omega) _).mono ?_
              rintro _ w6 ⟨u6, rfl, hu6, hb6⟩
              obtain ⟨A6, C6, rfl, _, _⟩ := hu6.len
              rw [numB_len] at hu6 ⊢
              obtain ⟨v7, w7, hr7, hbu7, _, hb7⟩ := run_append_list (P := Tryd.prog) byteR_world byteR_one w6 wo.heap.size 23 23 5 (.int .u8 0) 1 Tryd.underlying23 infoByte rfl _ _ (HBU.out.below hb6) A6 4 C6 _ hu6.slice (by rw [outB_len, numB_len]; omega) (Nat.le_trans HBX.out.size hb6.size)
              rw [← HO.out] at hbu7
              have hb67 := HBX.out.trans ((hb6.mono HBX.out.size).trans hb7)
              have HR7 := Lib.hid hr7
              have HM7 := Lib.hid hbu7
              have HB7 := Lib.hid hb67
              clear hr7 hbu7 hb7 hb67 hu6 hb6
              go_wp2_with (at_builtin; refine Lib.wpList_append_run _ rfl (.tmp 212) (.tmp 217) _ _ rfl _ _ rfl rfl _ _ HR7.out ?_)
              go_roundw
              case rel => exact ⟨j + 1, by omega, by go_num, HM7.out, HB7.out⟩
              case measure => simp [intOf]; omega
            · obtain rfl : j = 8 := by omega
              have HV := Lib.hid (show Bytes wr _ (sha l) from HSH.out ▸ hbu.slice)
              have HB := Lib.hid (HBR2.out.trans (hbx.mono HBR2.out.size))
              clear hbu hbx
              go_wp2_with fail
              go_ret
              exact ⟨_, rfl, HV.out, HB.out⟩
end Go.Proofs.YtegbgnjmkohcfaaDoor.Hash
namespace Go.Proofs.YtegbgnjmkohcfaaDoor.Hash
open Go.ChangeShapes Go.WideShapes Go.ChangeAt Go.RowKit
open Go.Mem Sha
/-- an int as a number of 64 bits -/
def u64 (a : Int) : Nat := (a % 18446744073709551616).toNat
theorem u64_cast (a : Int) : a % 18446744073709551616 = ((u64 a : Nat) : Int) := by unfold u64; omega
theorem u64_lt (a : Int) : u64 a < 18446744073709551616 := by unfold u64; omega
theorem u64_wrap (a : Int) : IntKind.u64.wrap a = ((u64 a : Nat) : Int) := by rw [IntKind.wrap_u64]; exact u64_cast a
set_option maxHeartbeats 1000000 in
theorem refWeightC (a b : Int) (w : World) :
    Calls Tryd.prog 25 #[.int .i64 a, .int .i64 b] w fun e w' => e = .returned (.int .u64 (weight (u64 a) (u64 b) : Nat)) ∧ Below w.heap.size w w' := by
  have ua := u64_wrap a
  have ub := u64_wrap b
  have ua2 := u64_cast a
  have ub2 := u64_cast b
  have la := u64_lt a
  have lb := u64_lt b
  have HW := Lib.hid (show weight (u64 a) (u64 b) = readB ((sha (numB (u64 a) 8 ++ numB (u64 b) 8)).take 8) from rfl)
  obtain ⟨x, hx⟩ : ∃ x, u64 a = x := ⟨_, rfl⟩
  obtain ⟨y, hy⟩ : ∃ x, u64 b = x := ⟨_, rfl⟩
  rw [hx] at ua ua2 la HW ⊢
  rw [hy] at ub ub2 lb HW ⊢
  clear hx hy
  go_enter Tryd.func25, Tryd.ntmps25
  go_wp2_with fail
  refine (numC x 8 (by omega) (by omega) _).mono ?_
  rintro _ w1 ⟨u1, rfl, hu1, hb1⟩
  have HU1 := Lib.hid hu1
  have HB1 := Lib.hid hb1
  obtain ⟨A1, C1, rfl, _, _⟩ := hu1.len
  rw [numB_len] at HU1 ⊢
  clear hu1 hb1
  go_wp2_with fail
  refine (numC y 8 (by omega) (by omega) _).mono ?_
  rintro _ w2 ⟨u2, rfl, hu2, hb2⟩
  obtain ⟨A2, C2, rfl, _, _⟩ := hu2.len
  rw [numB_len] at hu2 ⊢
  obtain ⟨v3, w3, hr3, hbu3, _, hb3⟩ := run_append_list (P := Tryd.prog) byteR_world byteR_one w2 w.heap.size 23 23 5 (.int .u8 0) 1 Tryd.underlying23 infoByte rfl _ _ (HU1.out.below hb2) A2 8 C2 _ hu2.slice (by rw [numB_len, numB_len]; omega) (Nat.le_trans HB1.out.size hb2.size)
  have HR3 := Lib.hid hr3
  have HS3 := Lib.hid (show Bytes w3 v3 (numB x 8 ++ numB y 8) from hbu3.slice)
  have HB3 := Lib.hid (HB1.out.trans ((hb2.mono HB1.out.size).trans hb3))
  clear hr3 hbu3 hb3 hu2 hb2
  go_wp2_with (at_builtin; refine Lib.wpList_append_run _ rfl (.tmp 7) (.tmp 10) _ _ rfl _ _ rfl rfl _ _ HR3.out ?_)
  refine (shaC (numB x 8 ++ numB y 8) _ w3 HS3.out (by rw [List.length_append, numB_len, numB_len]; omega)).mono ?_
  rintro _ w4 ⟨u4, rfl, hu4, hb4⟩
  obtain ⟨A4, C4, rfl, hc4, hd4, _⟩ := hu4.shape
  have hlen := sha_len (numB x 8 ++ numB y 8)
  rw [hlen] at hc4
  rw [hlen] at hu4 ⊢
  have HT := Lib.hid (hu4.take (j := 8) (by rw [hlen]; omega))
  have HB4 := Lib.hid (HB3.out.trans (hb4.mono HB3.out.size))
  have q1 : 8 ≤ C4 := by omega
  clear hlen hu4 hb4
  go_wp2_with fail
  refine (readC _ _ _ HT.out).mono ?_
  rintro _ w5 ⟨rfl, rfl⟩
  rw [← HW.out]
  go_wp2_with fail
  go_ret
  exact ⟨rfl, HB4.out⟩
end Go.Proofs.YtegbgnjmkohcfaaDoor.Hash
