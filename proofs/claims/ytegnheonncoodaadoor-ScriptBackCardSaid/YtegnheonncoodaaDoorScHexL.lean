/- The law's own digits of bytes. -/
import Derived.Test.YtegnheonncoodaaDoorScDec
import Derived.Deep.RegionHeld3
namespace Go.Proofs.YtegnheonncoodaaDoor.Scr
set_option linter.unusedVariables false
open Go.ChangeShapes Go.WideShapes Go.ChangeAt Go.RowKit
open Go.Mem Sc
theorem nums_app (l m : List UInt8) : nums l ++ nums m = nums (l ++ m) := by simp [nums]
set_option maxHeartbeats 8000000 in
set_option maxRecDepth 100000 in
theorem hexC (l : List UInt8) (hl : l.length ≤ 1000000) (v : Value) (w : World) (hv : Bytes w v (nums l)) : Calls Tryd.prog 20 #[v] w fun e w' => e = .returned (.string (str (hexL l))) ∧ Below w.heap.size w w' := by
  obtain ⟨A, C, rfl, hn, hC, _⟩ := hv.shape
  rw [nums_len] at hn hv ⊢
  have HV := Lib.hid hv
  clear hv
  go_enter Tryd.func20, Tryd.ntmps20
  go_wp2
  go_loopw [4, 5] (fun u i wr => ∃ k : Nat, k ≤ l.length ∧ i = .int .i64 k ∧ Built ByteR wr w.heap.size 5 u (nums (hexL (l.take k))) ∧ Below w.heap.size w wr) (fun _ i _ => l.length - (intOf i).toNat)
  case atStart => exact ⟨0, Nat.zero_le _, rfl, Built.start _ _ _, Below.refl _ _⟩
  case round =>
    obtain ⟨k, hk, rfl, hbu, hW⟩ := hrel
    obtain ⟨A4, C4, rfl, hc4, hd4⟩ := hbu.len
    by_cases hlt : k < l.length
    · obtain ⟨b, o, rfl, hcell, -⟩ := HV.out.at (i := k) (by rw [nums_len]; exact hlt)
      have hix : (nums l)[k]'(by rw [nums_len]; exact hlt) = l[k].toNat := by simp [nums]
      rw [hix] at hcell
      have HTK := Lib.hid (take_succ' l k hlt)
      clear hix
      generalize l[k] = c at hcell HTK
      have hc := c.toNat_lt
      have D : Hid (hexL (l.take (k + 1)) = hexL (l.take k) ++ [hexd (c.toNat / 16), hexd (c.toNat % 16)]) := by rw [Hid, HTK.out, hexL_snoc]; simp
      have hl1 : (nums (hexL (l.take k))).length ≤ 2000000 := by rw [nums_len, hexL_len, List.length_take]; omega
      have i1 : ∀ w, (Instr.index 9 (.string ⟨#[48, 49, 50, 51, 52, 53, 54, 55, 56, 57, 97, 98, 99, 100, 101, 102]⟩) (.int .u8 ((c.toNat : Int) / 16))).run Tryd.prog w = .ok (.int .u8 ((hexd (c.toNat / 16)).toNat : Nat)) w := fun w => by
        rw [show (c.toNat : Int) / 16 = ((c.toNat / 16 : Nat) : Int) by omega]; exact congrFun (hexd_at (c.toNat / 16) (by omega)) w
      have i2 : ∀ w, (Instr.index 9 (.string ⟨#[48, 49, 50, 51, 52, 53, 54, 55, 56, 57, 97, 98, 99, 100, 101, 102]⟩) (.int .u8 ((c.toNat : Int) % 16))).run Tryd.prog w = .ok (.int .u8 ((hexd (c.toNat % 16)).toNat : Nat)) w := fun w => by
        rw [show (c.toNat : Int) % 16 = ((c.toNat % 16 : Nat) : Int) by omega]; exact congrFun (hexd_at (c.toNat % 16) (by omega)) w
      have u1 : IntKind.u8.wrap ((c.toNat : Int) / 16) = (c.toNat : Int) / 16 := by rw [IntKind.wrap_u8]; omega
      have u2 : (c.toNat : Int).tmod 16 = (c.toNat : Int) % 16 := Int.tmod_eq_emod_of_nonneg (by omega)
      generalize hexd (c.toNat / 16) = x1 at i1 D
      generalize hexd (c.toNat % 16) = x2 at i2 D
      have hx1 := x1.toNat_lt
      have hx2 := x2.toNat_lt
      have hal : Below wr.heap.size wr (wr.alloc (.cells #[.int .u8 (x1.toNat : Nat), .int .u8 (x2.toNat : Nat)] 5)).drew := ((Below.refl _ _).alloc (Nat.le_refl _) _).drew
      have hlit : Bytes (wr.alloc (.cells #[.int .u8 (x1.toNat : Nat), .int .u8 (x2.toNat : Nat)] 5)).drew (.slice (some ⟨wr.heap.size, 0, none⟩) 2 2) [x1.toNat, x2.toNat] := (const_bytes wr 5 (0, 0) [x1.toNat, x2.toNat] (by simp) (by
        intro y hy
        rcases List.mem_cons.1 hy with rfl | hy
        · omega
        · rw [List.mem_singleton.1 hy]; omega)).below (below_drewN _ _ 1)
      have HLIT := Lib.hid hlit
      have HB0 := Lib.hid (hbu.below hal)
      have HSZ := Lib.hid (Nat.le_trans hW.size hal.size)
      have HWL := Lib.hid hl1
      have HAL := Lib.hid (hW.trans (hal.mono hW.size))
      have hd0 : Below w.heap.size w wr.drew := hW.drew
      have hd2 := HAL.out
      have k0 : (0 : Int) ≤ (k : Int) := by omega
      have k1 : (k : Int) < (l.length : Int) := by omega
      have HKEEP : Hid (∀ w', Below w.heap.size w w' → w'.cell? ⟨b, o + k, none⟩ = some (.int .u8 (c.toNat : Nat))) := fun w' hb => below_cell hb _ _ hcell
      clear hlit hbu hl1 hal hcell
      go_wp2_with fail
      go_region_held3 (fun w' => Below w.heap.size w w' ∧ w'.cell? ⟨b, o + k, none⟩ = some (.int .u8 (c.toNat : Nat)))
        (first | exact ⟨hd1, HKEEP.out _ hd1⟩ | exact ⟨hd2, HKEEP.out _ hd2⟩ | exact ⟨hd0, HKEEP.out _ hd0⟩)
        (first
          | (refine step_append_list byteR_world byteR_one _ rfl (.tmp 12) (.tmp 27) 33 rfl w.heap.size 5 (.int .u8 0) 1 Tryd.underlying33 infoByte rfl _ _ rfl HB0.out _ _ _ _ rfl HLIT.out (by have := HWL.out; simp; omega) HSZ.out ?_; intro v1 w1 hbu1 hg1 hb1; have hd1 := HAL.out.trans hb1; clear hg1 hb1))
      all_goals
        go_wp2
        go_roundw
        case rel => exact ⟨k + 1, hlt, by go_num, by rw [D.out, ← nums_app]; exact hbu1, hd1⟩
        case measure => simp [intOf]; omega
    · obtain rfl : k = l.length := by omega
      rw [List.take_length] at hbu ⊢
      have cv := bytes_str (w := wr) (l := hexL l) hbu.slice
      go_wp2
      go_ret
      exact ⟨rfl, hW⟩
end Go.Proofs.YtegnheonncoodaaDoor.Scr
