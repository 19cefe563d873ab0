/- Parts that are filled, and joined, plain; bytes in a block that is known whole, and copy onto them. No program is named here. -/
import Derived.Test.YtgbeolepfmihgaaStMath
import Derived.Test.YtgbeolepfmihgaaWrites
import Derived.Laws.CopyOwn
namespace St
open Go Go.Mem Go.RowKit
/-- byte i of part j of m bytes -/
def cutF (m : Nat) (l : List Nat) (j i : Nat) : Nat := l.getD (m * j + i) 0
theorem padTo_map (m : Nat) (l : List Nat) : padTo m (l.take m) = (List.range m).map (fun i => l.getD i 0) := by
  unfold padTo
  refine List.ext_getElem (by rw [List.length_append, List.length_replicate, List.length_take, List.length_map, List.length_range]; omega) fun i h1 h2 => ?_
  have hi : i < m := by simpa using h2
  rw [List.getElem_map, List.getElem_range]
  by_cases h : i < (l.take m).length
  · rw [List.getElem_append_left h, List.getElem_take]
    rw [List.length_take] at h
    simp [List.getD, List.getElem?_eq_getElem (show i < l.length by omega)]
  · rw [List.getElem_append_right (by omega), List.getElem_replicate]
    rw [List.length_take] at h
    simp [List.getD, List.getElem?_eq_none (show l.length ≤ i by omega)]
theorem tabOf_cons (c m : Nat) (F : Nat → Nat → Nat) : tabOf (c + 1) m F = (List.range m).map (F 0) :: tabOf c m (fun j => F (j + 1)) := by
  unfold tabOf
  rw [List.range_succ_eq_map, List.map_cons, List.map_map]
  rfl
theorem parts_le (m : Nat) : ∀ (f : Nat) (l : List Nat), (partsN m f l).length ≤ f
  | 0, _ => Nat.le_refl _
  | f + 1, l => by
    unfold partsN
    split
    · simp
    · rw [List.length_cons]; have := parts_le m f (l.drop m); omega
theorem parts_tab (m : Nat) : ∀ (f : Nat) (l : List Nat), tabOf (partsN m f l).length m (cutF m l) = partsN m f l
  | 0, _ => rfl
  | f + 1, l => by
    unfold partsN
    split
    · rfl
    · rw [List.length_cons, tabOf_cons, padTo_map]
      refine congr (congrArg List.cons ?_) ?_
      · refine List.map_congr_left fun i _ => ?_
        simp [cutF]
      · refine Eq.trans ?_ (parts_tab m f (l.drop m))
        congr 1
        funext j i
        unfold cutF
        simp only [List.getD, List.getElem?_drop]
        rw [show m + (m * j + i) = m * (j + 1) + i by rw [Nat.mul_add]; omega]
theorem split_tab {k : Int} {l : List Nat} (h : 1 ≤ k) : tabOf (splitL k l).length (8 * k.toNat) (cutF (8 * k.toNat) l) = splitL k l := by
  unfold splitL
  rw [if_neg (by omega)]
  exact parts_tab _ _ _
theorem split_le (k : Int) (l : List Nat) : (splitL k l).length ≤ l.length := by
  unfold splitL
  split
  · simp
  · exact parts_le _ _ _
theorem cut_row (m : Nat) (l : List Nat) (j : Nat) : splice (List.replicate m 0) 0 ((l.drop (m * j)).take m) = (List.range m).map (cutF m l j) := by
  have e := padTo_map m (l.drop (m * j))
  unfold padTo at e
  unfold splice
  rw [List.take_zero, List.nil_append, Nat.zero_add, List.drop_replicate, e]
  refine List.map_congr_left fun i _ => ?_
  simp [cutF, List.getD, List.getElem?_drop]
theorem cut_drop (m : Nat) (l : List Nat) (j r c : Nat) (hr : (l.drop (m * j)).length = r) (hc : Nat.min r m = c) : (l.drop (m * j)).drop c = l.drop (m * (j + 1)) := by
  rw [Nat.mul_add, Nat.mul_one]
  by_cases h : m ≤ r
  · rw [show c = m by rw [← hc]; exact Nat.min_eq_right h, List.drop_drop]
  · have : c = r := by rw [← hc]; exact Nat.min_eq_left (by omega)
    rw [this, List.drop_of_length_le (by omega), List.drop_of_length_le (by rw [List.length_drop] at hr; omega)]
/-- S bytes: those of f, and zeros behind them -/
def jl (S : Nat) (f : List Nat) : List Nat := f.take S ++ List.replicate (S - f.length) 0
theorem jl_len (S : Nat) (f : List Nat) : (jl S f).length = S := by simp [jl]; omega
theorem jl_none (S : Nat) : jl S [] = List.replicate S 0 := by simp [jl]
theorem jl_all {S : Nat} {f : List Nat} (h : S ≤ f.length) : jl S f = f.take S := by unfold jl; rw [show S - f.length = 0 by omega, List.replicate_zero, List.append_nil]
theorem splice_nil {α : Type} (L : List α) (off : Nat) : splice L off [] = L := by simp [splice]
theorem jl_next {S off : Nat} {f p : List Nat} (h : f.length < S → off = f.length) : splice (jl S f) off (p.take (S - f.length)) = jl S (f ++ p) := by
  by_cases hs : f.length < S
  · obtain rfl := h hs
    unfold splice jl
    rw [List.take_of_length_le (show f.length ≤ S by omega), List.take_left, List.take_append, List.take_of_length_le (show f.length ≤ S by omega), List.append_assoc, List.drop_append, List.drop_of_length_le (show f.length ≤ f.length + (p.take (S - f.length)).length by omega), List.nil_append, List.drop_replicate]
    congr 3
    rw [List.length_append, List.length_take]
    omega
  · rw [show S - f.length = 0 by omega, List.take_zero, splice_nil]
    unfold jl
    rw [List.take_append_of_le_length (by omega), show S - f.length = 0 by omega, show S - (f ++ p).length = 0 by rw [List.length_append]; omega]
def bv (x : Nat) : Value := .int .u8 (x : Nat)
/-- block b holds the bytes X, and nothing else -/
def Blk (w : World) (b t : Nat) (X : List Nat) : Prop := w.heap[b]? = some (.cells (X.map bv).toArray t (0, 0)) ∧ ∀ x ∈ X, x < 256
theorem Blk.below {w w' : World} {B b t : Nat} {X : List Nat} (h : Blk w b t X) (hb : Below B w w') (hB : b < B) : Blk w' b t X := ⟨(hb.block b hB).trans h.1, h.2⟩
theorem Blk.lt {w : World} {b t : Nat} {X : List Nat} (h : Blk w b t X) : b < w.heap.size := by
  obtain ⟨hlt, _⟩ := Array.getElem?_eq_some_iff.1 h.1
  exact hlt
theorem Blk.made (w : World) (t n : Nat) : Blk (w.alloc (.cells (madeCells #[.int .u8 0] n) t)) w.heap.size t (List.replicate n 0) := by
  refine ⟨?_, fun x hx => by rw [List.mem_replicate] at hx; omega⟩
  rw [show (w.alloc (.cells (madeCells #[.int .u8 0] n) t)).heap = w.heap.push (.cells (madeCells #[.int .u8 0] n) t) from rfl, Array.getElem?_push, if_pos rfl]
  congr 2
  refine Array.ext' ?_
  rw [toList_madeCells_one, List.map_replicate]
  rfl
theorem Blk.row {w : World} {b t n : Nat} {X : List Nat} {g : Nat → Nat} (h : Blk w b t X) (e : X = (List.range n).map g) : Row w b 0 n g := by
  subst e
  refine ⟨fun i hi => ?_, fun i hi => h.2 _ (by simp; exact ⟨i, hi, rfl⟩), fun i hi => ?_⟩
  · simp [World.cell?, h.1, hi, bv]
  · simp [World.frozen?, h.1]
theorem Blk.bytes {w : World} {b t S : Nat} {X : List Nat} (h : Blk w b t X) (hS : X.length = S) (hm : S ≤ 9223372036854775807) : Bytes w (.slice (some ⟨b, 0, none⟩) S S) X := by
  subst hS
  refine ⟨some ⟨b, 0, none⟩, X.length, X.length, rfl, rfl, Nat.le_refl _, by unfold maxLen; exact hm, (fun e => by cases e), fun i hi => ⟨b, 0, _, rfl, ?_, rfl, h.2 _ (List.getElem_mem hi)⟩⟩
  simp [World.cell?, h.1, hi, bv]
theorem bytes_lt {w : World} {v : Value} {l : List Nat} (h : Bytes w v l) : ∀ x ∈ l, x < 256 := by
  intro x hx
  obtain ⟨i, hi, rfl⟩ := List.mem_iff_getElem.1 hx
  obtain ⟨A, n, C, _, _, _, _, _, h6⟩ := h
  obtain ⟨_, _, _, _, _, _, hb⟩ := h6 i hi
  exact hb
theorem mem_splice {x : Nat} {L M : List Nat} {off : Nat} (h : x ∈ splice L off M) : x ∈ L ∨ x ∈ M := by
  unfold splice at h
  rcases List.mem_append.1 h with h | h
  · exact .inl (List.mem_of_mem_take h)
  · rcases List.mem_append.1 h with h | h
    · exact .inr h
    · exact .inl (List.mem_of_mem_drop h)
/-- copy of bytes onto a block that is known whole -/
theorem wpList_copy_bytes {P : Program} {w : World} {ops : Array Oper} {rest : List Oper} {o : Oper} {a : Act} {Q : Exit → Act → World → Prop} (hgd : o.guard = none) (d s : Operand) (dT sT : TypeId)
    (ho : o.op = .call { callee := .builtin .copy, args := #[d, s], argTypes := #[dT, sT] }) (elem : TypeId) (hu : P.underlying dT = some (.slice elem)) (hsz : (P.info? elem).map (·.size) = some 1)
    (dp sp : Option Addr) (dLen dCap sLen sCap c : Nat) (hd : a.eval d = .slice dp dLen dCap) (hs : a.eval s = .slice sp sLen sCap) (l : List Nat) (hv : Bytes w (.slice sp sLen sCap) l) (hc : Nat.min sLen dLen = c)
    (b t off : Nat) (X : List Nat) (hg : Blk w b t X) (hoff : 0 < dLen → dp = some ⟨b, off, none⟩) (hfit : off + dLen ≤ X.length)
    (h : ∀ w', Hid (Blk w' b t (splice X off (l.take dLen))) → Hid (Below b w w') → wpList P ops Q rest (a.put o.dst (.int .i64 (c : Nat))) w') : wpList P ops Q (o :: rest) a w := by
  have hl : sLen = l.length := by
    obtain ⟨A, n, C, e1, e2, _⟩ := hv
    cases e1; exact e2
  have hlen : ((l.take dLen).map bv).length = Nat.min sLen dLen := by
    rw [List.length_map, List.length_take, hl]; exact Nat.min_comm _ _
  have hle : Nat.min sLen dLen ≤ dLen := Nat.min_le_right _ _
  refine wpList_copy_splice hgd d s dT sT ho elem hu hsz dp sp dLen dCap sLen sCap hd hs b off (X.map bv) t hg.1 ((l.take dLen).map bv) hlen (fun hp => ?_) (by rw [hlen, List.length_map]; omega) (fun v hv => ?_) b w (Below.refl _ _) (Nat.le_refl _) (fun w' hg' hb' => ?_)
  · rw [hlen] at hp
    have hp2 : Nat.min sLen dLen ≤ sLen := Nat.min_le_left _ _
    refine ⟨hoff (by omega), ?_⟩
    obtain ⟨A, n, C, e1, e2, _, _, _, h6⟩ := hv
    cases e1
    obtain ⟨b0, o0, _, rfl, _, _⟩ := h6 0 (by omega)
    refine ⟨_, rfl, fun j v hj => ?_⟩
    have hj' : j < ((l.take dLen).map bv).length := by
      obtain ⟨q, _⟩ := List.getElem?_eq_some_iff.1 hj
      exact q
    rw [List.length_map, List.length_take] at hj'
    obtain ⟨b1, o1, c1, e3, e4, e5, _⟩ := h6 j (by omega)
    cases e3
    rw [List.getElem?_map, List.getElem?_take, if_pos (by omega), List.getElem?_eq_getElem (show j < l.length by omega)] at hj
    cases hj
    rw [show (⟨b0, o0, none⟩ : Addr).add j = ⟨b0, o0 + j, none⟩ by unfold Addr.add; split <;> simp_all, e4, e5]
    rfl
  · obtain ⟨x, _, rfl⟩ := List.mem_map.1 hv
    rfl
  · rw [hlen, hc] at *
    refine h w' ⟨?_, fun x hx => ?_⟩ hb'
    · have e : (splice X off (l.take dLen)).map bv = splice (X.map bv) off ((l.take dLen).map bv) := by
        unfold splice
        rw [List.map_append, List.map_append, List.map_take, List.map_drop, List.length_map]
      rw [hg'.out, e]
    · rcases mem_splice hx with q | q
      · exact hg.2 x q
      · exact bytes_lt hv x (List.mem_of_mem_take q)
end St
