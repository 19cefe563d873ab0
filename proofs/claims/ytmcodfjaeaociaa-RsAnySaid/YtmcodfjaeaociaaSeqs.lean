/- The iterators of package rs, and what asks each shard: their contracts. -/
import Derived.Test.YtmcodfjaeaociaaSlices
import Derived.RangeFuncNested
import Derived.RangeFuncBound
import Derived.RangeFuncBox
import Derived.RangeFuncCalls
import Derived.RangeFuncLeaves
import Derived.Shelf.Abstract
import Derived.OwnWalkIn
import Derived.TacticsInMore
import Derived.LoopNIn
import Derived.LoopIn
namespace Go.Proofs.Ytmcodfjaeaociaa.Rs
open Go.RowKit Go.Shelf
open Go.Mem
attribute [local go_sem] Oper.semAt_some
theorem partsC (A : Option Addr) (n C : Nat) (w : World) :
    Calls Try.prog 17 #[.slice A n C] w fun e w' => e = .returned (.func (.func 28) #[] #[.pointer (some ⟨w.heap.size, 0, none⟩)]) ∧ w' = w.alloc (.cells #[.slice A n C] 22) := by
  go_enter Try.func17, Try.ntmps17
  go_wp2_with fail
  go_ret
  exact ⟨rfl, rfl⟩
theorem thereC (A : Option Addr) (n C : Nat) (w : World) :
    Calls Try.prog 23 #[.slice A n C] w fun e w' => e = .returned (.func (.func 35) #[] #[.pointer (some ⟨w.heap.size, 0, none⟩)]) ∧ w' = w.alloc (.cells #[.slice A n C] 24) := by
  go_enter Try.func23, Try.ntmps23
  go_wp2_with fail
  go_ret
  exact ⟨rfl, rfl⟩
/-- block k is as it was -/
def Keeps (k : Nat) (A B : World) : Prop := B.heap[k]? = A.heap[k]?
theorem Keeps.trans {k : Nat} {A B C : World} (h : Keeps k A B) (g : Keeps k B C) : Keeps k A C := Eq.trans (show C.heap[k]? = B.heap[k]? from g) h
theorem Keeps.cell {k o : Nat} {A B : World} {c : Value} (h : Keeps k A B) (g : A.cell? ⟨k, o, none⟩ = some c) : B.cell? ⟨k, o, none⟩ = some c :=
  (World.cell?_of_block (w := A) (a := ⟨k, o, none⟩) h).trans g
/-- part x of data that begin at place o of block b -/
def partV (b o C x : Nat) : Value := .slice (some ⟨b, o + 8 * x, none⟩) 8 (C - 8 * x)
set_option maxRecDepth 100000 in
set_option maxHeartbeats 2000000 in
theorem parts1_in (F : Fence) (n : Nat) (hf : F.fn 28) (hro : F.round = none) (hn : 1 ≤ n) (l Bs b o C K : Nat) (hK : K ≤ 4) (hC : 8 * K ≤ C) (hCm : C ≤ 9223372036854775807) (J Jx : List Nat → World → Prop)
    (hY : ∀ pre x W, J pre W → pre.length < K → YieldAt F (n - 1) Try.prog l #[partV b o C x] W fun e W' =>
      (e = .returned (.bool true) ∧ J (pre ++ [x]) W' ∧ Keeps Bs W W') ∨ (e = .returned (.bool false) ∧ Jx (pre ++ [x]) W'))
    (W : World) (hBs : W.cell? ⟨Bs, 0, none⟩ = some (.slice (some ⟨b, o, none⟩) (8 * K) C)) (h0 : J [] W) :
    CallsIn F n Try.prog 28 #[.func (.yield l) #[] #[], .pointer (some ⟨Bs, 0, none⟩)] W fun e W' => (∃ v, e = .returned v) ∧
      ((∃ ys, ys = List.range K ∧ J ys W') ∨ (∃ pre, (∃ k, k ≤ K ∧ pre = List.range k) ∧ Jx pre W')) := by
  refine callsIn_of_wp Try.func28 rfl hf ?_ hro
  simp only [Try.ntmps28, List.size_toArray, List.length_cons, List.length_nil, Nat.reduceAdd, Nat.reduceSub, Array.replicate_succ, Array.replicate_zero, List.push_toArray, List.append_toArray, List.nil_append, List.cons_append]
  gi_wp2
  gi_loopw [3] (fun i wr => ∃ k : Nat, k ≤ K ∧ i = .int .i64 ((8 * k : Nat) : Int) ∧ J (List.range k) wr ∧ Keeps Bs W wr)
    (fun i _ => 8 * K - (intOf i).toNat)
  case atStart => exact ⟨0, Nat.zero_le _, rfl, h0, rfl⟩
  case round =>
    obtain ⟨k, hk, rfl, hJs, hnx⟩ := hrel
    have hcx := hnx.cell hBs
    by_cases hlt : k < K
    · obtain ⟨fn, tmps, assign, body, hy, hR⟩ := hY _ k wr hJs (by rw [List.length_range]; exact hlt)
      unfold partV at hy
      have q1 : ((8 * k : Nat) : Int) < ((8 * K : Nat) : Int) := by omega
      have q2 : ((8 * k : Nat) : Int) + 8 ≤ (C : Int) := by omega
      have q3 : 8 * k + 8 ≤ C := by omega
      have q4 : 8 * k + 8 - 8 * k = 8 := by omega
      gi_wp2
      refine hR.mono ?_
      rintro e W3 (⟨rfl, hJ3, hk3⟩ | ⟨rfl, hJx3⟩)
      · gi_wp2
        go_roundw
        case rel => exact ⟨k + 1, by omega, by simp; omega, by rw [List.range_succ]; exact hJ3, hnx.trans hk3⟩
        case measure => simp [intOf]; omega
      · gi_wp2
        refine bodyPost_ret (results_none rfl _ _ _) rfl ?_
        exact ⟨⟨_, rfl⟩, .inr ⟨_, ⟨k + 1, by omega, List.range_succ.symm⟩, hJx3⟩⟩
    · obtain rfl : k = K := by omega
      gi_wp2
      go_end0
      exact ⟨⟨_, rfl⟩, .inl ⟨_, rfl, hJs⟩⟩
/-- the parts of data, from the first on -/
theorem parts_stops (F : Fence) (n : Nat) (hf : F.fn 28) (hro : F.round = none) (hn : 1 ≤ n) (Bs b o C K : Nat) (hK : K ≤ 4) (hC : 8 * K ≤ C) (hCm : C ≤ 9223372036854775807) (w : World) (hlt : Bs < w.heap.size)
    (hBs : w.cell? ⟨Bs, 0, none⟩ = some (.slice (some ⟨b, o, none⟩) (8 * K) C)) :
    SeqStopsK F n Try.prog 28 #[.pointer (some ⟨Bs, 0, none⟩)] (fun x : Nat => #[.slice (some ⟨b, o + 8 * x, none⟩) 8 (C - 8 * x)]) (Keeps Bs) (fun ys => ys = List.range K) (fun _ => True) K w := fun l J Jx W hW _ _ hY h0 =>
  (parts1_in F n hf hro hn l Bs b o C K hK hC hCm J Jx hY W ((hW.cell (p := ⟨Bs, 0, none⟩) hlt).trans hBs) h0).mono fun _ _ ⟨he, hh⟩ => ⟨he, hh.imp id fun ⟨pre, _, hj⟩ => ⟨pre, trivial, hj⟩⟩
/-- the places of the shards that are there, of the first k -/
def idx (S : List (List Nat)) (k : Nat) : List Nat := (List.range k).filter fun i => decide (0 < (S.getD i []).length)
theorem idx_hit {S : List (List Nat)} {k : Nat} (h : 0 < (S.getD k []).length) : idx S (k + 1) = idx S k ++ [k] := by
  unfold idx; rw [List.range_succ, List.filter_append]; congr 1; rw [List.filter_cons, if_pos (by simpa using h)]; rfl
theorem idx_miss {S : List (List Nat)} {k : Nat} (h : (S.getD k []).length = 0) : idx S (k + 1) = idx S k := by
  unfold idx; rw [List.range_succ, List.filter_append]
  rw [show [k].filter (fun i => decide (0 < (S.getD i []).length)) = [] from by rw [List.filter_cons, if_neg (by rw [h]; simp)]; rfl, List.append_nil]
/-- a shard's length -/
def shardLen (S : List (List Nat)) (i : Nat) : Nat := (S.getD i []).length
/-- the place of a shard that is there -/
abbrev Place (S : List (List Nat)) := { x : Nat // x < S.length ∧ 0 < (S.getD x []).length }
/-- the places of the shards that are there, of the first k -/
def places (S : List (List Nat)) : (k : Nat) → k ≤ S.length → List (Place S)
  | 0, _ => []
  | k + 1, h => if hz : 0 < (S.getD k []).length then places S k (Nat.le_of_succ_le h) ++ [⟨k, h, hz⟩] else places S k (Nat.le_of_succ_le h)
theorem places_val (S : List (List Nat)) : ∀ (k : Nat) (h : k ≤ S.length), (places S k h).map (·.1) = idx S k
  | 0, _ => rfl
  | k + 1, h => by
    unfold places
    by_cases hz : 0 < (S.getD k []).length
    · rw [dif_pos hz, List.map_append, places_val S k, idx_hit hz]; rfl
    · rw [dif_neg hz, places_val S k, idx_miss (by omega)]
theorem places_hit {S : List (List Nat)} {k : Nat} (h : k < S.length) (hz : 0 < (S.getD k []).length) : places S (k + 1) h = places S k (Nat.le_of_lt h) ++ [⟨k, h, hz⟩] := by
  rw [places, dif_pos hz]
theorem places_miss {S : List (List Nat)} {k : Nat} (h : k < S.length) (hz : (S.getD k []).length = 0) : places S (k + 1) h = places S k (Nat.le_of_lt h) := by
  rw [places, dif_neg (by omega)]
theorem idx_len (S : List (List Nat)) (k : Nat) : (idx S k).length ≤ k := by
  unfold idx; exact Nat.le_trans (List.length_filter_le _ _) (by simp)
theorem places_len (S : List (List Nat)) (k : Nat) (h : k ≤ S.length) : (places S k h).length ≤ k := by
  have := idx_len S k
  rw [← places_val S k h, List.length_map] at this
  exact this
set_option maxRecDepth 100000 in
set_option maxHeartbeats 2000000 in
theorem there1_in (F : Fence) (n : Nat) (hf : F.fn 35) (hro : F.round = none) (hn : 1 ≤ n) (l Bs n₀ : Nat) (A : Option Addr) (C : Nat) (S : List (List Nat)) (gA : Nat → Option Addr) (gC : Nat → Nat) (hlen : S.length ≤ 7) (J Jx : List (Place S) → World → Prop)
    (hY : ∀ pre (x : Place S) W, J pre W → pre.length < S.length → YieldAt F (n - 1) Try.prog l #[.int .i64 ((x.1 : Nat) : Int), .slice (gA x.1) (shardLen S x.1) (gC x.1)] W fun e W' =>
      (e = .returned (.bool true) ∧ J (pre ++ [x]) W' ∧ Below n₀ W W') ∨ (e = .returned (.bool false) ∧ Jx (pre ++ [x]) W'))
    (W : World) (hBs : W.cell? ⟨Bs, 0, none⟩ = some (.slice A S.length C)) (hc : ∀ i, i < S.length → ∃ b o, A = some ⟨b, o, none⟩ ∧ b < n₀ ∧ W.cell? ⟨b, o + i, none⟩ = some (.slice (gA i) (shardLen S i) (gC i)) ∧ shardLen S i ≤ 9223372036854775807) (h0 : J [] W) :
    CallsIn F n Try.prog 35 #[.func (.yield l) #[] #[], .pointer (some ⟨Bs, 0, none⟩)] W fun e W' => (∃ v, e = .returned v) ∧
      ((∃ ys, ys = places S S.length (Nat.le_refl _) ∧ J ys W') ∨ (∃ pre, (∃ k, ∃ h : k ≤ S.length, pre = places S k h) ∧ Jx pre W')) := by
  refine callsIn_of_wp Try.func35 rfl hf ?_ hro
  simp only [Try.ntmps35, List.size_toArray, List.length_cons, List.length_nil, Nat.reduceAdd, Nat.reduceSub, Array.replicate_succ, Array.replicate_zero, List.push_toArray, List.append_toArray, List.nil_append, List.cons_append]
  gi_wp2
  gi_loopw [7] (fun i wr => ∃ (k : Nat) (hk : k ≤ S.length), i = .int .i64 (k : Int) ∧ J (places S k hk) wr ∧ Below n₀ W wr)
    (fun i _ => S.length - (intOf i).toNat)
  case atStart => exact ⟨0, Nat.zero_le _, rfl, h0, Below.refl _ _⟩
  case round =>
    obtain ⟨k, hk, rfl, hJs, hnx⟩ := hrel
    by_cases hlt : k < S.length
    · obtain ⟨b, o, rfl, hb, hcell, hl9⟩ := hc k hlt
      have hcx : wr.cell? ⟨b, o + k, none⟩ = some (.slice (gA k) (shardLen S k) (gC k)) := (hnx.cell (p := ⟨b, o + k, none⟩) hb).trans hcell
      have q1 : ((k : Nat) : Int) < ((S.length : Nat) : Int) := by omega
      by_cases hz : (S.getD k []).length = 0
      · have e1 := places_miss hlt hz
        obtain ⟨L, hL⟩ : ∃ L, shardLen S k = L := ⟨_, rfl⟩
        rw [hL] at hcx
        have hz0 : L = 0 := hL ▸ hz
        clear hz
        subst hz0
        gi_wp2
        refine ⟨fun _ h => (by cases h), ?_⟩
        gi_wp2
        go_roundw
        case rel => exact ⟨k + 1, hlt, by simp, by rw [e1]; exact hJs, hnx⟩
        case measure => simp [intOf]; omega
      · have hz' : 0 < (S.getD k []).length := by omega
        have e1 := places_hit hlt hz'
        obtain ⟨fn, tmps, assign, body, hy, hR⟩ := hY _ ⟨k, hlt, hz'⟩ wr hJs (by have := places_len S k hk; omega)
        dsimp only at hy
        obtain ⟨L, hL⟩ : ∃ L, shardLen S k = L := ⟨_, rfl⟩
        rw [hL] at hcx hy hl9
        have hz : ¬ L = 0 := fun e => hz (show shardLen S k = 0 by rw [hL, e])
        have q2 : (0 : Int) < (L : Int) := by omega
        gi_wp2
        refine hR.mono ?_
        rintro e W3 (⟨rfl, hJ3, hk3⟩ | ⟨rfl, hJx3⟩)
        · gi_wp2
          go_roundw
          case rel => exact ⟨k + 1, hlt, by simp, by rw [e1]; exact hJ3, hnx.trans hk3⟩
          case measure => simp [intOf]; omega
        · gi_wp2
          refine bodyPost_ret (results_none rfl _ _ _) rfl ?_
          exact ⟨⟨_, rfl⟩, .inr ⟨_, ⟨k + 1, hlt, e1.symm⟩, hJx3⟩⟩
    · obtain rfl : k = S.length := by omega
      gi_wp2
      go_end0
      exact ⟨⟨_, rfl⟩, .inl ⟨_, rfl, hJs⟩⟩
/-- the shards that are there, with their places -/
theorem there_stops (F : Fence) (n : Nat) (hf : F.fn 35) (hro : F.round = none) (hn : 1 ≤ n) (Bs n₀ : Nat) (A : Option Addr) (C : Nat) (S : List (List Nat)) (gA : Nat → Option Addr) (gC : Nat → Nat) (hlen : S.length ≤ 7) (w : World) (hlt : Bs < w.heap.size) (hn₀ : n₀ ≤ w.heap.size)
    (hBs : w.cell? ⟨Bs, 0, none⟩ = some (.slice A S.length C)) (hc : ∀ i, i < S.length → ∃ b o, A = some ⟨b, o, none⟩ ∧ b < n₀ ∧ w.cell? ⟨b, o + i, none⟩ = some (.slice (gA i) (shardLen S i) (gC i)) ∧ shardLen S i ≤ 9223372036854775807) :
    SeqStopsK F n Try.prog 35 #[.pointer (some ⟨Bs, 0, none⟩)] (fun x : Place S => #[.int .i64 ((x.1 : Nat) : Int), .slice (gA x.1) (shardLen S x.1) (gC x.1)]) (Below n₀) (fun ys => ys = places S S.length (Nat.le_refl _)) (fun pre => ∃ k, ∃ h : k ≤ S.length, pre = places S k h) S.length w := fun l J Jx W hW _ _ hY h0 =>
  there1_in F n hf hro hn l Bs n₀ A C S gA gC hlen J Jx hY W ((hW.cell (p := ⟨Bs, 0, none⟩) hlt).trans hBs)
    (fun i hi => by obtain ⟨b, o, e1, e2, e3, e4⟩ := hc i hi; exact ⟨b, o, e1, e2, ((hW.mono hn₀).cell (p := ⟨b, o + i, none⟩) e2).trans e3, e4⟩) h0
/-- no shard, or one of its length -/
def rightB (l : List Nat) : Bool := decide (l.length = 0) || decide (l.length = 8)
theorem wrongC (l : List Nat) (v : Value) (w : World) (h : Bytes w v l) :
    Calls Try.prog 21 #[v] w fun e w' => e = .returned (.bool (!rightB l)) ∧ w = w' := by
  obtain ⟨A, C, rfl, h1, h2, _⟩ := h.shape
  unfold rightB
  obtain ⟨L, hL⟩ : ∃ L, l.length = L := ⟨_, rfl⟩
  rw [hL] at h1 ⊢
  by_cases h0 : L = 0
  · subst h0
    go_enter Try.func21, Try.ntmps21
    go_wp2_with fail
    go_ret
    exact ⟨rfl, rfl⟩
  · by_cases h8 : L = 8
    · subst h8
      go_enter Try.func21, Try.ntmps21
      go_wp2_with fail
      go_ret
      exact ⟨rfl, rfl⟩
    · have q0 : ¬ ((L : Int) = 0) := by omega
      have q8 : ¬ ((L : Int) = 8) := by omega
      go_enter Try.func21, Try.ntmps21
      go_wp2_with fail
      go_ret
      exact ⟨by simp [h0, h8, q8], rfl⟩
end Go.Proofs.Ytmcodfjaeaociaa.Rs
