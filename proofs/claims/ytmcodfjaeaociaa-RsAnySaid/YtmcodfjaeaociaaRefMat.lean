/- What the document's own answers for tables return: a unit, a product, a code. -/
import Derived.Test.YtmcodfjaeaociaaMatTimes2
import Derived.Test.YtmcodfjaeaociaaOwn
namespace Go.Proofs.Ytmcodfjaeaociaa.Mat
open Go.ChangeShapes Go.WideShapes Go.ChangeAt Go.RowKit
open Go.Mem
open GfPlain Gf
def unitF : Nat → Nat → Nat := fun i j => if j = i then 1 else 0
def unitT (n : Nat) : List (List Nat) := tabOf n n unitF
theorem unit_row (w : World) (t : Nat) {n k : Nat} (hk : k < n) : Row (w.alloc (.cells ((madeCells #[.int .u8 0] n).setIfInBounds k (.int .u8 1)) t)) w.heap.size 0 n (unitF k) := by
  refine Row.new (by rw [Array.size_setIfInBounds, size_madeCells]) (fun i hi => ?_) (fun i _ => by unfold unitF; split <;> omega)
  rw [Array.getElem?_setIfInBounds]
  unfold unitF
  by_cases e : i = k
  · subst e; rw [if_pos rfl, if_pos (by rw [size_madeCells]; simpa using hi), if_pos rfl]; rfl
  · rw [if_neg (fun q => e q.symm), if_neg e]; simp [madeCells, hi, Nat.mod_one]
set_option maxHeartbeats 1000000 in
theorem refUnit (n : Nat) (w : World) (hn : n ≤ 4294967296) :
    Calls Try.prog 32 #[.int .i64 n] w fun e w' => ∃ v, e = .returned v ∧ Built Bytes w' w.heap.size 22 v (unitT n) ∧ Below w.heap.size w w' := by
  have hmk28 := run_make_row' (P := Try.prog) 22 5 (.int .u8 0) 1 Try.underlying22 infoByte rfl .i64 .i64 n (by omega) (by omega)
  go_enter Try.func32, Try.ntmps32
  go_wp2
  go_loopw [3, 4] (fun v c wr => ∃ k : Nat, k ≤ n ∧ c = .int .i64 k ∧ Built Bytes wr w.heap.size 22 v (tabOf k n unitF) ∧ Below w.heap.size w wr) (fun _ c _ => n - (intOf c).toNat)
  case atStart => exact ⟨0, Nat.zero_le _, rfl, Built.start _ _ _, Below.refl _ _⟩
  case round =>
    obtain ⟨k, hk, rfl, hbu, hbr⟩ := hrel
    by_cases hlt : k < n
    · have hcu : (wr.alloc (.cells (madeCells #[.int .u8 0] n) 5)).cell? ⟨wr.heap.size, k, none⟩ = some (.int .u8 0) := by
        have := (Row.made wr 5 n).cell k hlt
        rwa [Nat.zero_add] at this
      obtain ⟨A, C, e0, hl1, hl2⟩ := hbu.len
      rw [tabOf_len] at e0 hl1
      subst e0
      have hal : Below wr.heap.size wr (wr.alloc (.cells ((madeCells #[.int .u8 0] n).setIfInBounds k (.int .u8 1)) 5)) := (Below.refl _ _).alloc (Nat.le_refl _) _
      have HB1 := Lib.hid (hbu.below hal)
      have HR := Lib.hid ((unit_row wr 5 hlt).stays (by simp) (by omega) (r := (Value.slice A k C).ownBlock) (fun e => by have := (hbu.own_lt _ e.symm).2; omega))
      have HBE := Lib.hid (hbr.trans (hal.mono hbr.size))
      clear hal
      go_wp2_with (at_builtin; refine wpList_append_built (R := Bytes) _ rfl (.tmp 16) (.tmp 18) 24 rfl w.heap.size 22 (.slice none 0 0) 24 Try.underlying24 infoRow rfl _ _ rfl HB1.out _ _ _ rfl (by simp) rfl HR.out (by rw [tabOf_len]; omega) HBE.out.size ?_; intro v' w' hbu' hg' hb')
      go_roundw
      case rel => exact ⟨k + 1, by omega, by go_num, by rw [tabOf_succ]; exact hbu', HBE.out.trans hb'⟩
      case measure => simp [intOf]; omega
    · obtain rfl : k = n := by omega
      go_wp2
      go_ret
      exact ⟨_, rfl, hbu, hbr⟩
/-- row i of the product while place j is summed up to k -/
def partF (a b : List (List Nat)) (i j k : Nat) : Nat → Nat := fun c => if c < j then prodF a b i c else if c = j then dot (a.getD i []) b j k else 0
theorem partF_next {a b : List (List Nat)} {i j : Nat} (c : Nat) : partF a b i (j + 1) 0 c = partF a b i j b.length c := by
  unfold partF
  by_cases h : c < j
  · rw [if_pos h, if_pos (by omega)]
  · rw [if_neg h]
    by_cases e : c = j
    · subst e; rw [if_pos (by omega), if_pos rfl]; rfl
    · rw [if_neg (by omega), if_neg e]
      by_cases e' : c = j + 1
      · rw [if_pos e']; rfl
      · rw [if_neg e']
theorem partF_at {a b : List (List Nat)} {i j k : Nat} (hi : i < a.length) : partF a b i j k j = dot a[i] b j k := by unfold partF; rw [if_neg (by omega), if_pos rfl, show a.getD i [] = a[i] by simp [hi]]
theorem partF_step {w : World} {B m : Nat} {a b : List (List Nat)} {i j k : Nat} (h : Row w B 0 m (partF a b i j k)) (hj : j < m) (hi : i < a.length) (hk : k < a[i].length) (hkb : k < b.length) (hjb : j < b[k].length) (h1 : a[i][k] < 256) :
    Row (w.setCell ⟨B, j, none⟩ (.int .u8 ((dot a[i] b j k ^^^ mul a[i][k] b[k][j] : Nat) : Int))) B 0 m (partF a b i j (k + 1)) := by
  have hb := h.bd j hj
  rw [partF_at hi] at hb
  have := h.set hj (xor_lt hb (mul_lt a[i][k] b[k][j] h1))
  rw [Nat.zero_add] at this
  refine this.congr fun c _ => ?_
  unfold partF
  by_cases hc : c < j
  · rw [if_pos hc, if_neg (by omega), if_pos hc]
  · rw [if_neg hc, if_neg hc]
    by_cases e : c = j
    · subst e; rw [if_pos rfl, if_pos rfl]
      show _ ^^^ mul ((a.getD i []).getD k 0) ((b.getD k []).getD c 0) = _
      simp [hi, hk, hkb, hjb]
    · rw [if_neg e, if_neg e, if_neg e]
theorem ref_val (x y z : Nat) (hx : x < 256) (hy : y < 256) (hz : z < 256) : bits .xor .u8 (x : Int) (grmul (y : Int) (z : Int)) = ((x ^^^ mul y z : Nat) : Int) := by
  rw [gmul_grmul _ _ (by omega) (by omega) (by omega) (by omega), gmul_nat, u8_xor_nat _ _ hx (mul_lt _ _ hy)]
set_option maxHeartbeats 1000000 in
theorem refTimes (a b : List (List Nat)) (va vb : Value) (w : World) (ha : Tab w va a) (hb : Tab w vb b) (hok : canTimes a b = true) (hsa : a.length ≤ 4294967296) (hsb : width b ≤ 4294967296) :
    Calls Try.prog 19 #[va, vb] w fun e w' => ∃ v, e = .returned v ∧ Tab w' v (times a b) ∧ Below w.heap.size w w' := by
  unfold canTimes at hok
  rw [Bool.and_eq_true, Bool.and_eq_true, beq_iff_eq] at hok
  obtain ⟨⟨fa, fb⟩, hw⟩ := hok
  obtain ⟨pa, wa⟩ := fitB_iff.1 fa; obtain ⟨pb, wb⟩ := fitB_iff.1 fb
  obtain ⟨A, C, rfl, h1, h2, _⟩ := ha.shape
  obtain ⟨Ab, Cb, rfl, g1, g2, _⟩ := hb.shape
  have HW := Lib.hid hw; clear hw
  have hmk28 := run_make_row' (P := Try.prog) 22 5 (.int .u8 0) 1 Try.underlying22 infoByte rfl .i64 .i64 (width b) (by omega) (by omega)
  have hpb : (0 : Int) < b.length := by omega
  obtain ⟨ba, oa, Aa, Ca, rfl, _, _, _⟩ := ha.at pa
  obtain ⟨bb, ob, Abb, Cbb, rfl, hcbw, hmb, _⟩ := hb.at pb
  rw [← width_get pb, Nat.add_zero] at hcbw
  rw [← width_get pb] at hmb
  clear fa fb
  go_enter Try.func19, Try.ntmps19
  go_wp2
  go_loopw [5, 6] (fun v c wr => ∃ k : Nat, k ≤ a.length ∧ c = .int .i64 k ∧ Built Bytes wr w.heap.size 22 v (tabOf k (width b) (prodF a b)) ∧ Below w.heap.size w wr) (fun _ c _ => a.length - (intOf c).toNat)
  case atStart => exact ⟨0, Nat.zero_le _, rfl, Built.start _ _ _, Below.refl _ _⟩
  case round =>
    obtain ⟨k, hk, rfl, hbu, hbr⟩ := hrel
    obtain ⟨wo, rfl⟩ : ∃ wo : World, wo = wr := ⟨_, rfl⟩
    by_cases hlt : k < a.length
    · obtain ⟨A5, C5, e0, hl1, hl2⟩ := hbu.len
      rw [tabOf_len] at e0 hl1
      subst e0
      obtain ⟨Ak, Ck, hck0, hmk, hbk⟩ := ha.here hlt
      have HLK := Lib.hid (show a[k].length = b.length from (wa k hlt hlt).trans HW.out)
      have hcb := below_cell hbr _ _ hcbw
      have hal : Below wo.heap.size wo (wo.alloc (.cells (madeCells #[.int .u8 0] (width b)) 5)) := (Below.refl _ _).alloc (Nat.le_refl _) _
      have HST := Lib.hid (show Row (wo.alloc (.cells (madeCells #[.int .u8 0] (width b)) 5)) wo.heap.size 0 (width b) (partF a b k 0 0) from (Row.made wo 5 (width b)).congr (fun i _ => by unfold partF; rw [if_neg (by omega)]; split <;> rfl))
      go_wp2
      go_loopw [8] (fun c wi => ∃ j : Nat, j ≤ width b ∧ c = .int .i64 j ∧ Row wi wo.heap.size 0 (width b) (partF a b k j 0) ∧ Below wo.heap.size wo wi ∧ wo.heap.size < wi.heap.size) (fun c _ => width b - (intOf c).toNat)
      case atStart => exact ⟨0, Nat.zero_le _, rfl, HST.out, hal, by simp⟩
      case round =>
        clear hal HST
        obtain ⟨j, hj, rfl, hrow, hbi, hsz⟩ := hrel
        obtain ⟨wi, rfl⟩ : ∃ wi : World, wi = wr := ⟨_, rfl⟩
        by_cases hjlt : j < width b
        · go_wp2
          go_loopw [9] (fun c wj => ∃ q : Nat, q ≤ b.length ∧ c = .int .i64 q ∧ Row wj wo.heap.size 0 (width b) (partF a b k j q) ∧ Below wo.heap.size wo wj ∧ wo.heap.size < wj.heap.size) (fun c _ => b.length - (intOf c).toNat)
          case atStart => exact ⟨0, Nat.zero_le _, rfl, hrow, hbi, hsz⟩
          case round =>
            clear hrow hbi hsz
            obtain ⟨q, hq, rfl, hrow, hbj, hsz⟩ := hrel
            by_cases hqlt : q < b.length
            · have hqk : q < a[k].length := by have := HLK.out; omega
              obtain ⟨Aq, Cq, hcq0, hmq, hbq⟩ := hb.here hqlt
              have hbw := hbr.trans (hbj.mono hbr.size)
              have hck := below_cell hbw _ _ hck0
              have hcq := below_cell hbw _ _ hcq0
              have hjq : j < b[q].length := by have := wb q hqlt hqlt; omega
              obtain ⟨bk, ok, rfl, hckq, hkq⟩ := (hbk.below hbw).at hqk
              obtain ⟨b2, o2, rfl, hcqj, hqj⟩ := (hbq.below hbw).at hjq
              have hcr := hrow.cell j hjlt
              have hfr := hrow.free j hjlt
              have hbd := hrow.bd j hjlt
              rw [Nat.zero_add] at hcr hfr
              rw [partF_at hlt] at hcr hbd
              have HX := Lib.hid (ref_val _ a[k][q] b[q][j] hbd hkq hqj)
              have HR := Lib.hid (partF_step hrow hjlt hlt hqk hqlt hjq hkq).drew
              go_wp2
              go_still_tail 21, (by kernel_rfl)
              still_call (still_of (rmulC _ _ (by omega) (by omega) (by omega) _))
              repeat still_step
              refine wpStill_nil ?_
              change wpList _ _ _ _ _ wr.drew
              go_wp2
              go_roundw
              case rel => exact ⟨q + 1, by omega, by go_num, by rw [HX.out]; exact HR.out, (hbj.setCell (by exact Nat.le_refl _) _).drew, by simpa [World.setCell] using hsz⟩
              case measure => simp [intOf]; omega
            · obtain rfl : q = b.length := by omega
              have HR := Lib.hid (hrow.congr (fun i _ => partF_next i))
              go_wp2
              go_roundw
              case rel => exact ⟨j + 1, by omega, by go_num, HR.out, hbj, hsz⟩
              case measure => simp [intOf]; omega
        · obtain rfl : j = width b := by omega
          have HR := Lib.hid ((hrow.congr (g' := prodF a b k) (fun i hi => by unfold partF; rw [if_pos hi])).stays hsz (by omega) (r := (Value.slice A5 k C5).ownBlock) (fun e => by have := (hbu.own_lt _ e.symm).2; omega))
          have HB1 := Lib.hid (hbu.below hbi)
          have HBE := Lib.hid (hbr.trans (hbi.mono hbr.size))
          go_wp2_with (at_builtin; refine wpList_append_built (R := Bytes) _ rfl (.tmp 54) (.tmp 56) 24 rfl w.heap.size 22 (.slice none 0 0) 24 Try.underlying24 infoRow rfl _ _ rfl HB1.out _ _ _ rfl (by simp) rfl HR.out (by rw [tabOf_len]; omega) HBE.out.size ?_; intro v' w' hbu' hg' hb')
          go_roundw
          case rel => exact ⟨k + 1, by omega, by go_num, by rw [tabOf_succ]; exact hbu', HBE.out.trans hb'⟩
          case measure => simp [intOf]; omega
    · obtain rfl : k = a.length := by omega
      have HB := Lib.hid (hbu.slice)
      go_wp2
      go_ret
      exact ⟨_, rfl, HB.out, hbr⟩
end Go.Proofs.Ytmcodfjaeaociaa.Mat
