/- What mat.Code makes, and the document's own. -/
import Derived.Test.YtmcodfjaeaociaaMatUnit
namespace Go.Proofs.Ytmcodfjaeaociaa.Mat
open Go.ChangeShapes Go.WideShapes Go.ChangeAt Go.RowKit
open Go.Mem
open GfPlain Gf
def codeF (k : Nat) : Nat → Nat → Nat := fun n j => (ginv (((k + n) ^^^ j : Nat) : Int)).toNat
def codeT (k m : Nat) : List (List Nat) := unitT k ++ tabOf m k (codeF k)
def codeOk (k m : Int) : Bool := decide (1 ≤ k) && decide (k ≤ 4) && decide (0 ≤ m) && decide (m ≤ 3)
theorem codeF_bd (k n j : Nat) : codeF k n j < 256 := by
  have := ginv_bd (((k + n) ^^^ j : Nat) : Int)
  unfold codeF; omega
theorem xor_small {a b : Nat} (ha : a < 8) (hb : b < 8) : a ^^^ b < 8 := Nat.xor_lt_two_pow (n := 3) ha hb
/-- row n while j places are filled -/
def fillF (F : Nat → Nat) (j : Nat) : Nat → Nat := fun i => if i < j then F i else 0
theorem fill_step {w : World} {B m j : Nat} {F : Nat → Nat} (h : Row w B 0 m (fillF F j)) (hj : j < m) (hF : F j < 256) :
    Row (w.setCell ⟨B, j, none⟩ (.int .u8 ((F j : Nat) : Int))) B 0 m (fillF F (j + 1)) := by
  have := h.set hj hF
  rw [Nat.zero_add] at this
  refine this.congr fun i _ => ?_
  unfold fillF
  by_cases e : i = j
  · subst e; rw [if_pos (by omega), if_pos rfl]
  · rw [if_neg e]
    by_cases hlt : i < j
    · rw [if_pos (by omega), if_pos hlt]
    · rw [if_neg (by omega), if_neg hlt]
theorem code_arg {K n j : Nat} (hK : K ≤ 4) (hn : n < 3) (hj : j < 4) : bits .xor .i64 ((K : Int) + (n : Int)) (j : Int) = (((K + n) ^^^ j : Nat) : Int) := by
  rw [show (K : Int) + (n : Int) = ((K + n : Nat) : Int) by simp, i64_xor_nat _ _ (by omega) (by omega)]
theorem code_val (k n j : Nat) : ginv (((k + n) ^^^ j : Nat) : Int) = ((codeF k n j : Nat) : Int) := by
  have := ginv_bd (((k + n) ^^^ j : Nat) : Int)
  unfold codeF; omega
set_option maxHeartbeats 1000000 in
theorem codeC (K M : Nat) (w : World) (hK0 : 1 ≤ K) (hK : K ≤ 4) (hM : M ≤ 3) :
    Calls Try.prog 16 #[.int .i64 K, .int .i64 M] w fun e w' => ∃ v, e = .returned v ∧ Tab w' v (codeT K M) ∧ Below w.heap.size w w' := by
  have hmk28 := run_make_row' (P := Try.prog) 22 5 (.int .u8 0) 1 Try.underlying22 infoByte rfl .i64 .i64 K (by omega) (by omega)
  go_enter Try.func16, Try.ntmps16
  go_wp2_with (go_at_call 26; refine (unitC K _ (by omega)).mono ?_; rintro e w1 ⟨rfl, hf1, hb1⟩)
  have hbu1 := hf1.built (base := w.heap.size) (Nat.le_refl _) (Nat.le_refl _) (by omega) (by omega)
  go_loopw [5, 26] (fun v c wr => ∃ n : Nat, n ≤ M ∧ c = .int .i64 n ∧ Built Bytes wr w.heap.size 22 v (codeT K n) ∧ Below w.heap.size w wr) (fun _ c _ => M - (intOf c).toNat)
  case atStart => exact ⟨0, Nat.zero_le _, rfl, by unfold codeT unitT; rw [show tabOf 0 K (codeF K) = [] from rfl, List.append_nil]; exact hbu1, hb1⟩
  case round =>
    obtain ⟨n, hn, rfl, hbu, hbr⟩ := hrel
    clear hf1 hb1 hbu1
    obtain ⟨wo, rfl⟩ : ∃ wo : World, wo = wr := ⟨_, rfl⟩
    by_cases hlt : n < M
    · have hal : Below wo.heap.size wo (wo.alloc (.cells (madeCells #[.int .u8 0] K) 5)) := (Below.refl _ _).alloc (Nat.le_refl _) _
      have HST := Lib.hid (show Row (wo.alloc (.cells (madeCells #[.int .u8 0] K) 5)) wo.heap.size 0 K (fillF (codeF K n) 0) from (Row.made wo 5 K).congr (fun i _ => by unfold fillF; rw [if_neg (by omega)]))
      go_wp2
      go_loopw [33] (fun c wi => ∃ j : Nat, j ≤ K ∧ c = .int .i64 j ∧ Row wi wo.heap.size 0 K (fillF (codeF K n) j) ∧ Below wo.heap.size wo wi ∧ wo.heap.size < wi.heap.size) (fun c _ => K - (intOf c).toNat)
      case atStart => exact ⟨0, Nat.zero_le _, rfl, HST.out, hal, by simp⟩
      case round =>
        clear hal HST
        obtain ⟨j, hj, rfl, hrow, hbi, hsz⟩ := hrel
        by_cases hjlt : j < K
        · have hcr := hrow.cell j hjlt
          have hfr := hrow.free j hjlt
          rw [Nat.zero_add] at hcr hfr
          have hx := xor_small (a := K + n) (b := j) (by omega) (by omega)
          have hxor := code_arg (K := K) (n := n) (j := j) hK (by omega) (by omega)
          have HV := Lib.hid (code_val K n j)
          have HR := Lib.hid (fill_step hrow hjlt (codeF_bd K n j))
          go_wp2_with (go_at_call 27; refine (invC _ (by omega) (by omega) _).mono ?_; rintro e w' ⟨rfl, rfl⟩)
          go_roundw
          case rel => exact ⟨j + 1, by omega, by go_num, by rw [HV.out]; exact HR.out, hbi.setCell (by exact Nat.le_refl _) _, by simpa [World.setCell] using hsz⟩
          case measure => simp [intOf]; omega
        · obtain rfl : j = K := by omega
          obtain ⟨A5, C5, e0, hl1, hl2⟩ := hbu.len
          rw [show (codeT j n).length = j + n by simp [codeT, unitT, tabOf_len]] at e0 hl1
          subst e0
          have HR := Lib.hid ((hrow.congr (g' := codeF j n) (fun i hi => by unfold fillF; rw [if_pos hi])).stays hsz (by omega) (r := (Value.slice A5 (j + n) C5).ownBlock) (fun e => by have := (hbu.own_lt _ e.symm).2; omega))
          have HB1 := Lib.hid (hbu.below hbi)
          have HBE := Lib.hid (hbr.trans (hbi.mono hbr.size))
          go_wp2_with (at_builtin; refine wpList_append_built (R := Bytes) _ rfl (.tmp 47) (.tmp 49) 24 rfl w.heap.size 22 (.slice none 0 0) 24 Try.underlying24 infoRow rfl _ _ rfl HB1.out _ _ _ rfl (by simp) rfl HR.out (by simp [codeT, unitT, tabOf_len]; omega) HBE.out.size ?_; intro v' w' hbu' hg' hb')
          go_roundw
          case rel => exact ⟨n + 1, by omega, by go_num, by unfold codeT; rw [tabOf_succ, ← List.append_assoc]; exact hbu', HBE.out.trans hb'⟩
          case measure => simp [intOf]; omega
    · obtain rfl : n = M := by omega
      have HB := Lib.hid (hbu.slice)
      go_wp2
      go_ret
      exact ⟨_, rfl, HB.out, hbr⟩
end Go.Proofs.Ytmcodfjaeaociaa.Mat
