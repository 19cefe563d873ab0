/- Data made whole with zeros, and data of which one byte is another one: the lists, and what memory holds. -/
import Derived.Test.YtmcodfjaeaociaaRsMath2
import Derived.Test.YtmcodfjaeaociaaRsAns
import Derived.Test.YtmcodfjaeaociaaZeros
namespace Go.Mem
open Go.RowKit
theorem Built.some {α : Type} {R : World → Value → α → Prop} {w : World} {base t : Nat} {v : Value} {L : List α} {n : Nat} (h : Built R w base t v L) (hn : L.length = n) (h0 : 0 < n) : ∃ g C, v = .slice (.some ⟨g, 0, none⟩) n C ∧ n ≤ C ∧ C ≤ 9223372036854775807 ∧ base ≤ g := by
  obtain ⟨xs, h1, _⟩ := h
  rcases h1.2 with ⟨_, e⟩ | ⟨g, cap, cur, e, hb, _, h3, h4, _, _⟩
  · omega
  · subst hn
    exact ⟨g, cap, e, h3, by unfold maxLen at h4; exact h4, hb⟩
theorem Built.writes {w : World} {base t : Nat} {g n C : Nat} {L : List Nat} (h : Built ByteR w base t (.slice (.some ⟨g, 0, none⟩) n C) L) : Row w g 0 L.length (fun i => L.getD i 0) := by
  have hs := h.slice
  obtain ⟨xs, h1, _⟩ := h
  have hf : ∀ i, w.frozen? ⟨g, i, none⟩ = false := by
    rcases h1.2 with ⟨e, _⟩ | ⟨g', cap, cur, e, _, hg, _⟩
    · cases e
    · cases e
      intro i
      simp [World.frozen?, hg]
  have hb : Bytes w (.slice (.some ⟨g, 0, none⟩) n C) L := hs
  refine ⟨fun i hi => ?_, fun i hi => ?_, fun i _ => hf _⟩
  · rw [(hb.here hi).1]; simp [hi]
  · have := (hb.here hi).2; simpa [hi] using this
end Go.Mem
namespace Go.Proofs.Ytmcodfjaeaociaa.Rs
open Go.RowKit Go.Shelf
open Go.Mem Mat GfPlain
/-- a slice, copied and lengthened by zeros: its two appends -/
theorem full_runs (w : World) (a : List Nat) (A : Option Addr) (L C : Nat) (ha : Bytes w (.slice A L C) a) (hL : a.length = L) (h100 : ¬ 100 < L) : ∃ v1 w1 g C2 w2,
    (Builtin.append_ #[22, 22] 22 #[.slice (some ⟨w.heap.size, 0, none⟩) 0 0, .slice A L C]).run Try.prog (w.alloc (.cells #[] 5)) = .ok v1 w1 ∧
    (Builtin.append_ #[22, 3] 22 #[v1, .int .i64 32]).run Try.prog w1 = .ok (.slice (some ⟨g, 0, none⟩) (L + 32) C2) w2 ∧
    Built ByteR w2 w.heap.size 5 (.slice (some ⟨g, 0, none⟩) (L + 32) C2) (a ++ List.replicate 32 0) ∧ L + 32 ≤ C2 ∧ C2 ≤ 9223372036854775807 ∧ Below w.heap.size w w2 := by
  have hal : Below w.heap.size w (w.alloc (.cells #[] 5)) := (Below.refl _ _).alloc (Nat.le_refl _) _
  obtain ⟨v1, w1, hr1, hbu1, _, hb1⟩ := run_append_list (P := Try.prog) byteR_world byteR_one (w.alloc (.cells #[] 5)) w.heap.size 22 22 5 (.int .u8 0) 1 Try.underlying22 Mat.infoByte rfl _ [] (built_none w (Nat.le_refl _)) A L C a (ha.below hal) (by simp; omega) (by simp)
  have hs1 := hal.size
  have hs2 := hb1.size
  obtain ⟨v2, w2, hr2, hbu2, _, hb2⟩ := run_append_zeros (P := Try.prog) w1 w.heap.size 22 3 22 5 .i64 1 Try.underlying22 Try.underlying3 Mat.infoByte v1 _ hbu1 32 (by omega) (by simp; omega) (by omega)
  obtain ⟨g, C2, rfl, hc, hd, _⟩ := hbu2.some (n := L + 32) (by simp; omega) (by omega)
  exact ⟨v1, w1, g, C2, w2, hr1, hr2, hbu2, hc, hd, (hal.trans hb1).trans hb2⟩
/-- the first 8 K bytes of a, zeros behind it -/
def fullL (K : Nat) (a : List Nat) : List Nat := (a ++ List.replicate 32 0).take (8 * K)
theorem fullL_len {K : Nat} (a : List Nat) (hK : K ≤ 4) : (fullL K a).length = 8 * K := by unfold fullL; simp; omega
theorem fullL_bd {K : Nat} {a : List Nat} (h : ∀ x ∈ a, x < 256) : ∀ x ∈ fullL K a, x < 256 := by
  intro x hx
  rcases List.mem_append.1 (List.mem_of_mem_take hx) with h1 | h1
  · exact h x h1
  · rw [List.eq_of_mem_replicate h1]; omega
theorem parts_entry {K : Nat} {d : List Nat} {k c : Nat} (hk : k < K) (hc : c < 8) : entry (partsOf K d) k c = d.getD (8 * k + c) 0 := by
  unfold entry
  rw [partsOf_get hk]
  simp [hc]
theorem enc_row {K M : Nat} {d : List Nat} {i : Nat} (hK0 : 1 ≤ K) (hlen : d.length = 8 * K) (hi : i < K + M) : (encT K M d).getD i [] = (List.range 8).map (fun c => dot ((codeT K M).getD i []) (partsOf K d) c K) := by
  unfold encT times
  rw [(fit_parts hK0 hlen).2, codeT_len]
  simp [tabOf, hi, prodF, partsOf_len]
theorem xor_inj {a b c : Nat} (h : a ^^^ b = a ^^^ c) : b = c := by
  have := congrArg (fun x => a ^^^ x) h
  simpa [← Nat.xor_assoc] using this
theorem dot_same {r : List Nat} {X Y : List (List Nat)} {c : Nat} : ∀ n, (∀ k, k < n → entry Y k c = entry X k c) → dot r Y c n = dot r X c n
  | 0, _ => rfl
  | n + 1, h => by
    rw [dot, dot, dot_same n (fun k hk => h k (by omega))]
    have := h n (by omega)
    unfold entry at this
    rw [this]
theorem dot_one {r : List Nat} {X Y : List (List Nat)} {c j v : Nat} : ∀ n, j < n → (∀ k, k < n → k ≠ j → entry Y k c = entry X k c) → entry Y j c = entry X j c ^^^ v → dot r Y c n = dot r X c n ^^^ mul (r.getD j 0) v
  | 0, h, _, _ => absurd h (by omega)
  | n + 1, hj, h, hv => by
    rw [dot, dot]
    by_cases e : j = n
    · subst e
      rw [dot_same j (fun k hk => h k (by omega) (by omega))]
      unfold entry at hv
      rw [hv, mul_linr, Nat.xor_assoc]
    · rw [dot_one n (by omega) (fun k hk hkj => h k (by omega) hkj) hv]
      have := h n (by omega) (fun q => e q.symm)
      unfold entry at this
      rw [this, Nat.xor_assoc, Nat.xor_assoc, Nat.xor_comm (mul (r.getD j 0) v)]
theorem dot_sum {r : List Nat} {X Y Z : List (List Nat)} {c : Nat} : ∀ n, (∀ k, k < n → entry Z k c = entry X k c ^^^ entry Y k c) → dot r Z c n = dot r X c n ^^^ dot r Y c n
  | 0, _ => by simp [dot]
  | n + 1, h => by
    rw [dot, dot, dot, dot_sum n (fun k hk => h k (by omega))]
    have := h n (by omega)
    unfold entry at this
    rw [this, mul_linr, xor4]
theorem mul_ne {e v : Nat} (he : e < 256) (hv : v < 256) (h0 : e ≠ 0) (hv0 : v ≠ 0) : mul e v ≠ 0 := by
  intro h
  have h1 := GfPlain.mul_assoc (inv e) e v (inv_lt e) he hv
  rw [h, GfPlain.mul_zero, GfPlain.mul_comm (inv e) e (inv_lt e) he, mul_inv e he h0, GfPlain.one_mul v hv] at h1
  exact hv0 h1.symm
/-- how many of the first i rows of a code look at part j -/
def odd (K M j : Nat) : Nat → Nat
  | 0 => 0
  | i + 1 => odd K M j i + (if entry (codeT K M) i j = 0 then 0 else 1)
def oddsOk : Bool := allLt (fun k => allLt (fun m => allLt (fun j => Nat.beq (odd (k + 1) m j (k + 1 + m)) (m + 1)) (k + 1)) 4) 4
set_option maxRecDepth 100000 in
theorem odds_ok : oddsOk = true := by decide +kernel
theorem odd_all {K M j : Nat} (hK0 : 1 ≤ K) (hK : K ≤ 4) (hM : M ≤ 3) (hj : j < K) : odd K M j (K + M) = M + 1 := by
  have h := allLt_spec (allLt_spec (allLt_spec odds_ok (K - 1) (by omega)) M (by omega)) j (by omega)
  rw [show K - 1 + 1 = K by omega] at h
  exact Nat.eq_of_beq_eq_true h
theorem odd_le (K M j : Nat) : ∀ i, odd K M j i ≤ i
  | 0 => Nat.le_refl _
  | i + 1 => by
    have := odd_le K M j i
    rw [odd]; split <;> omega
theorem map8 (f : Nat → Nat) {c : Nat} (hc : c < 8) : ((List.range 8).map f).getD c 0 = f c := by simp [hc]
/-- a shard of data of which byte p is another one -/
theorem far_row {K M i p t : Nat} {x y : List Nat} (hK0 : 1 ≤ K) (hx : x.length = 8 * K) (hy : y.length = 8 * K) (hp : p < 8 * K) (ht : t < 256) (ht0 : t ≠ 0) (hs : ∀ k, k < 8 * K → k ≠ p → y.getD k 0 = x.getD k 0) (hv : y.getD p 0 = x.getD p 0 ^^^ t) (hi : i < K + M) :
    sameB ((encT K M x).getD i []) ((encT K M y).getD i []) = decide (entry (codeT K M) i (p / 8) = 0) := by
  rw [enc_row hK0 hx hi, enc_row hK0 hy hi]
  have hd : ∀ c, c < 8 → dot ((codeT K M).getD i []) (partsOf K y) c K = dot ((codeT K M).getD i []) (partsOf K x) c K ^^^ (if c = p % 8 then mul (entry (codeT K M) i (p / 8)) t else 0) := by
    intro c hc
    by_cases e : c = p % 8
    · rw [if_pos e]
      refine dot_one K (by omega) (fun k hk hkj => ?_) ?_
      · rw [parts_entry hk hc, parts_entry hk hc]
        exact hs _ (by omega) (by omega)
      · rw [parts_entry (by omega) hc, parts_entry (by omega) hc, show 8 * (p / 8) + c = p by omega]
        exact hv
    · rw [if_neg e, Nat.xor_zero]
      refine dot_same K (fun k hk => ?_)
      rw [parts_entry hk hc, parts_entry hk hc]
      exact hs _ (by omega) (by omega)
  by_cases h0 : entry (codeT K M) i (p / 8) = 0
  · rw [decide_eq_true h0]
    refine decide_eq_true (List.map_congr_left fun c hc => ?_)
    rw [hd c (List.mem_range.1 hc), h0, GfPlain.zero_mul]
    simp
  · rw [decide_eq_false h0]
    refine decide_eq_false fun e => ?_
    have h1 := congrArg (fun l : List Nat => l.getD (p % 8) 0) e
    have hp8 : p % 8 < 8 := Nat.mod_lt _ (by omega)
    rw [map8 _ hp8, map8 _ hp8, hd _ hp8, if_pos rfl] at h1
    have h2 : 0 = mul (entry (codeT K M) i (p / 8)) t := xor_inj (a := dot ((codeT K M).getD i []) (partsOf K x) (p % 8) K) (by rw [Nat.xor_zero]; exact h1)
    have hlt : entry (codeT K M) i (p / 8) < 256 := by
      unfold entry
      exact getD_bd (row_bd (byt_codeT K M) i) _
    exact mul_ne hlt ht h0 ht0 h2.symm
/-- shards of sums -/
theorem sum_row {K M i c : Nat} {x y z : List Nat} (hK0 : 1 ≤ K) (hx : x.length = 8 * K) (hy : y.length = 8 * K) (hz : z.length = 8 * K) (hs : ∀ k, k < 8 * K → z.getD k 0 = x.getD k 0 ^^^ y.getD k 0) (hi : i < K + M) (hc : c < 8) :
    ((encT K M x).getD i []).getD c 0 ^^^ ((encT K M y).getD i []).getD c 0 = ((encT K M z).getD i []).getD c 0 := by
  rw [enc_row hK0 hx hi, enc_row hK0 hy hi, enc_row hK0 hz hi]
  simp only [List.getD_eq_getElem?_getD, List.getElem?_map, List.getElem?_range hc, Option.map_some, Option.getD_some]
  refine (dot_sum K fun k hk => ?_).symm
  rw [parts_entry hk hc, parts_entry hk hc, parts_entry hk hc]
  exact hs _ (by omega)
end Go.Proofs.Ytmcodfjaeaociaa.Rs
