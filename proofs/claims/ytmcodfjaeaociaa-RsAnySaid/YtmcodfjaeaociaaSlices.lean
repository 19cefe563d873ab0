/- What slices.Grow of nothing, slices.Concat and slices.Clone make of bytes. -/
import Derived.Test.YtmcodfjaeaociaaMatCode2
import Derived.Test.YtmcodfjaeaociaaList
namespace Go.Proofs.Ytmcodfjaeaociaa.Mat
open Go.ChangeShapes Go.WideShapes Go.ChangeAt Go.RowKit
open Go.Mem
open GfPlain Gf
theorem built_made {w : World} {base t : Nat} {cur : Array Value} {cap : Nat} (hb : base ≤ w.heap.size) (hm : cap ≤ maxLen) (hs : cur.size = cap) : Built ByteR (w.alloc (.cells cur t)) base t (.slice (some ⟨w.heap.size, 0, none⟩) 0 cap) [] :=
  ⟨[], World.ownsRow_made w cur cap hb hm (by omega), fun _ h => absurd h (by simp)⟩
set_option maxHeartbeats 1000000 in
theorem growC (n base : Nat) (w : World) (hn : n ≤ 4294967296) (hbase : base ≤ w.heap.size) :
    Calls Try.prog 38 #[.slice none 0 0, .int .i64 n] w fun e w' => ∃ v, e = .returned v ∧ Built ByteR w' base 5 v [] ∧ Below base w w' := by
  by_cases h0 : n = 0
  · subst h0
    go_enter Try.func38, Try.ntmps38
    go_wp2
    go_ret
    exact ⟨_, rfl, Built.start _ _ _, Below.refl _ _⟩
  · obtain ⟨i0, hi0, hz0, hz1, hz2⟩ := info_parts infoByte
    have hr := Lib.run_append_nil_zeros (P := Try.prog) w 22 3 22 5 i0 (.int .u8 0) .i64 .i64 Try.underlying22 Try.underlying3 hi0 hz0 n (by omega) (by omega) (by omega) (by rw [hz2]; omega)
    have hge := grownCap_ge w n 0 5
    have hle := grownCap_le_maxLen w n 0 5 (by unfold maxLen; omega)
    have HB := Lib.hid (built_made (w := w.drew) (t := 5) (base := base) (cur := Builtin.zeroCells (Value.int .u8 0).cells n ++ Builtin.zeroCells (Value.int .u8 0).cells (grownCap w n 0 5 - n)) (cap := grownCap w n 0 5) hbase hle (by
      rw [Array.size_append, size_zeroCells, size_zeroCells]; show n * 1 + (grownCap w n 0 5 - n) * 1 = _; omega))
    have HBE := Lib.hid (((Below.refl base w).drew).alloc hbase (.cells (Builtin.zeroCells (Value.int .u8 0).cells n ++ Builtin.zeroCells (Value.int .u8 0).cells (grownCap w n 0 5 - n)) 5))
    have hle' : grownCap w n 0 5 ≤ 9223372036854775807 := hle
    have HR := Lib.hid hr
    clear hr hle
    generalize hg : grownCap w n 0 5 = G at *
    have HG := Lib.hid hg; clear hg
    go_enter Try.func38, Try.ntmps38
    go_wp2_with (at_builtin; refine Lib.wpList_append_run _ rfl (.tmp 20) (.tmp 21) _ _ rfl _ _ rfl rfl _ _ HR.out ?_)
    go_ret
    exact ⟨_, rfl, HB.out, HBE.out⟩
/-- the lengths of the first k rows together, and the rows behind one another -/
def lensTo (M : List (List Nat)) : Nat → Nat
  | 0 => 0
  | k + 1 => lensTo M k + (M.getD k []).length
def catTo (M : List (List Nat)) : Nat → List Nat
  | 0 => []
  | k + 1 => catTo M k ++ M.getD k []
theorem catTo_len (M : List (List Nat)) : ∀ k, (catTo M k).length = lensTo M k
  | 0 => rfl
  | k + 1 => by rw [catTo, List.length_append, catTo_len M k]; rfl
theorem lensTo_mono (M : List (List Nat)) {j k : Nat} (h : j ≤ k) : lensTo M j ≤ lensTo M k := by
  induction h with
  | refl => exact Nat.le_refl _
  | step _ ih => rw [lensTo]; omega
theorem lensTo_succ (M : List (List Nat)) {k : Nat} (hk : k < M.length) : lensTo M (k + 1) = lensTo M k + M[k].length := by rw [lensTo, show M.getD k [] = M[k] by simp [hk]]
theorem catTo_succ (M : List (List Nat)) {k : Nat} (hk : k < M.length) : catTo M (k + 1) = catTo M k ++ M[k] := by rw [catTo, show M.getD k [] = M[k] by simp [hk]]
theorem cast_add {a b c : Nat} (h : c = a + b) : Value.int .i64 ((a : Int) + (b : Int)) = .int .i64 ((c : Nat) : Int) := by subst h; simp
set_option maxHeartbeats 1000000 in
theorem concatC (M : List (List Nat)) (v : Value) (w : World) (h : Tab w v M) (hlen : lensTo M M.length ≤ 4294967296) :
    Calls Try.prog 25 #[v] w fun e w' => ∃ u, e = .returned u ∧ Built ByteR w' w.heap.size 5 u (catTo M M.length) ∧ Below w.heap.size w w' := by
  obtain ⟨A, C, rfl, h1, h2, _⟩ := h.shape
  go_enter Try.func25, Try.ntmps25
  go_wp2
  go_loop [3, 11] (fun s c => ∃ k : Nat, k ≤ M.length ∧ s = .int .i64 (lensTo M k : Nat) ∧ c = .int .i64 k) (fun _ c => M.length - (intOf c).toNat)
  case atStart => exact ⟨0, Nat.zero_le _, rfl, rfl⟩
  case round =>
    obtain ⟨k, hk, rfl, rfl⟩ := hrel
    by_cases hlt : k < M.length
    · obtain ⟨b, o, A', C', rfl, hc, hm, hb⟩ := h.at hlt
      have hs := lensTo_succ M hlt
      have hmo := lensTo_mono M (show k + 1 ≤ M.length by omega)
      have hb1 : lensTo M k + M[k].length ≤ 4294967296 := by omega
      have HS := Lib.hid hs; clear hs hmo
      go_wp2
      go_round
      case rel => exact ⟨k + 1, by omega, cast_add HS.out, by go_num⟩
      case measure => simp [intOf]; omega
    · obtain rfl : k = M.length := by omega
      go_wp2_with (go_at_call 38; refine (growC (lensTo M M.length) w.heap.size _ hlen (Nat.le_refl _)).mono ?_; rintro e w1 ⟨v1, rfl, hbu1, hb1⟩)
      go_loopw [6, 27] (fun u c wr => ∃ k : Nat, k ≤ M.length ∧ c = .int .i64 k ∧ Built ByteR wr w.heap.size 5 u (catTo M k) ∧ Below w.heap.size w wr) (fun _ c _ => M.length - (intOf c).toNat)
      case atStart => exact ⟨0, Nat.zero_le _, rfl, hbu1, hb1⟩
      case round =>
        clear hbu1 hb1
        obtain ⟨k, hk, rfl, hbu, hbr⟩ := hrel
        by_cases hlt : k < M.length
        · obtain ⟨b, o, A', C', rfl, hc0, hm, hb⟩ := h.at hlt
          have hc := below_cell hbr _ _ hc0
          have hbr' := hb.below hbr
          have hs := lensTo_succ M hlt
          have hmo := lensTo_mono M (show k + 1 ≤ M.length by omega)
          have hb1 : lensTo M k + M[k].length ≤ 4294967296 := by omega
          have HC := Lib.hid (catTo_succ M hlt)
          have HB := Lib.hid hbu
          obtain ⟨A5, C5, e0, hl1, hl2⟩ := hbu.len
          rw [catTo_len] at e0 hl1
          subst e0
          clear hs hmo hbu
          go_wp2_with (at_builtin; refine wpList_append_list byteR_world byteR_one _ rfl (.tmp 31) (.tmp 32) 22 rfl w.heap.size 5 (.int .u8 0) 1 Try.underlying22 infoByte rfl _ _ rfl HB.out _ _ _ _ rfl hbr' (by rw [catTo_len]; omega) hbr.size ?_; intro v' w' hbu' hg' hb')
          go_roundw
          case rel => exact ⟨k + 1, by omega, by go_num, by rw [HC.out]; exact hbu', hbr.trans hb'⟩
          case measure => simp [intOf]; omega
        · obtain rfl : k = M.length := by omega
          go_wp2
          go_ret
          exact ⟨_, rfl, hbu, hbr⟩
end Go.Proofs.Ytmcodfjaeaociaa.Mat
