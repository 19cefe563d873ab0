/- The program's digits of bytes. -/
import Derived.Test.YtegnheonncoodaaDoorScMem
import Derived.Test.YtegnheonncoodaaDoorBits
import Derived.Outline
namespace Go.Proofs.YtegnheonncoodaaDoor.Scr
set_option linter.unusedVariables false
open Go.ChangeShapes Go.WideShapes Go.ChangeAt Go.RowKit
open Go.Mem Sc
def hexS : ByteArray := ⟨#[48, 49, 50, 51, 52, 53, 54, 55, 56, 57, 97, 98, 99, 100, 101, 102]⟩
theorem hexd_at (n : Nat) (hn : n < 16) : (Instr.index 9 (.string hexS) (.int .u8 (n : Nat))).run Tryd.prog = fun w => .ok (.int .u8 ((hexd n).toNat : Nat)) w := by
  match n, hn with
  | 0, _ => rfl
  | 1, _ => rfl
  | 2, _ => rfl
  | 3, _ => rfl
  | 4, _ => rfl
  | 5, _ => rfl
  | 6, _ => rfl
  | 7, _ => rfl
  | 8, _ => rfl
  | 9, _ => rfl
  | 10, _ => rfl
  | 11, _ => rfl
  | 12, _ => rfl
  | 13, _ => rfl
  | 14, _ => rfl
  | 15, _ => rfl
  | n + 16, h => exact absurd h (by omega)
theorem hexL_snoc (l : List UInt8) (c : UInt8) : hexL (l ++ [c]) = hexL l ++ [hexd (c.toNat / 16)] ++ [hexd (c.toNat % 16)] := by simp [hexL, hex2]
theorem hexL_len (l : List UInt8) : (hexL l).length = 2 * l.length := by
  induction l with
  | nil => rfl
  | cons b l ih => rw [show hexL (b :: l) = hex2 b ++ hexL l from rfl, List.length_append, ih, List.length_cons]; simp [hex2]; omega
theorem dig_len (l : List UInt8) : (dig l).length = 2 * l.length + 1 := by simp [dig, hexL_len]
theorem take_succ' (l : List UInt8) (k : Nat) (h : k < l.length) : l.take (k + 1) = l.take k ++ [l[k]] := by rw [List.take_succ_eq_append_getElem h]
set_option maxHeartbeats 4000000 in
theorem digitsC (l : List UInt8) (hl : l.length ≤ 1000000) (w : World) : Calls Tryd.prog 25 #[.string (str l)] w fun e w' => e = .returned (.string (str (dig l))) ∧ Below w.heap.size w w' := by
  have hs := str_size l
  have hget : ∀ k (h : k < l.length), (str l)[k]'(by rw [hs]; exact h) = l[k] := fun k h => rfl
  have hb0 := Bld.start w w.heap.size (Nat.le_refl _)
  have hbw : Below w.heap.size w (w.alloc (.cells #[.pointer none, .slice none 0 0] TBld)) := (Below.refl _ _).alloc (Nat.le_refl _) _
  have hsz : w.heap.size ≤ (w.alloc (.cells #[.pointer none, .slice none 0 0] TBld)).heap.size := by simp
  go_enter Tryd.func25, Tryd.ntmps25
  go_wp2_with (go_at_call 36; refine (bldByteC w.heap.size w.heap.size [] 120 _ hb0 (by simp) hsz).mono ?_; rintro e w1 ⟨rfl, hb1, hw1⟩)
  have hw1' := hbw.trans hw1
  go_loopw [4, 8] (fun _ i wr => ∃ k : Nat, k ≤ l.length ∧ i = .int .i64 k ∧ Bld w.heap.size w.heap.size (dig (l.take k)) wr ∧ Below w.heap.size w wr) (fun _ i _ => l.length - (intOf i).toNat)
  case atStart => exact ⟨0, Nat.zero_le _, rfl, hb1, hw1'⟩
  case round =>
    obtain ⟨k, hk, rfl, hB, hW⟩ := hrel
    by_cases hlt : k < l.length
    · have hg := hget k hlt
      have hix : k < (str l).size := by rw [hs]; exact hlt
      have HTK := Lib.hid (take_succ' l k hlt)
      clear hget
      generalize l[k] = c at hg HTK
      have hc := c.toNat_lt
      have i1 : ∀ w, (Instr.index 9 (.string ⟨#[48, 49, 50, 51, 52, 53, 54, 55, 56, 57, 97, 98, 99, 100, 101, 102]⟩) (.int .u8 ((c.toNat : Int) / 16))).run Tryd.prog w = .ok (.int .u8 ((hexd (c.toNat / 16)).toNat : Nat)) w := fun w => by
        rw [show (c.toNat : Int) / 16 = ((c.toNat / 16 : Nat) : Int) by omega]; exact congrFun (hexd_at (c.toNat / 16) (by omega)) w
      have i2 : ∀ w, (Instr.index 9 (.string ⟨#[48, 49, 50, 51, 52, 53, 54, 55, 56, 57, 97, 98, 99, 100, 101, 102]⟩) (.int .u8 ((c.toNat : Int) % 16))).run Tryd.prog w = .ok (.int .u8 ((hexd (c.toNat % 16)).toNat : Nat)) w := fun w => by
        rw [show (c.toNat : Int) % 16 = ((c.toNat % 16 : Nat) : Int) by omega]; exact congrFun (hexd_at (c.toNat % 16) (by omega)) w
      have hc0 : (c.toNat : Int) ≤ 255 := by omega
      have hs1 : w.heap.size ≤ wr.heap.size := hW.size
      have hl1 : (dig (l.take k)).length + 2 ≤ 140737488355328 := by rw [dig_len, List.length_take]; omega
      have D : Hid (dig (l.take (k + 1)) = dig (l.take k) ++ [hexd (c.toNat / 16)] ++ [hexd (c.toNat % 16)]) := by
        rw [HTK.out, dig, hexL_snoc]; simp [dig, Hid]
      go_wp2_with fail
      refine (bldByteC w.heap.size w.heap.size (dig (l.take k)) (hexd (c.toNat / 16)) _ hB (by omega) hs1).mono ?_
      rintro e w2 ⟨rfl, hb2, hw2⟩
      have hs2 : w.heap.size ≤ w2.heap.size := Nat.le_trans hs1 hw2.size
      go_wp2_with fail
      refine (bldByteC w.heap.size w.heap.size _ (hexd (c.toNat % 16)) _ hb2 (by simp; omega) hs2).mono ?_
      rintro e w3 ⟨rfl, hb3, hw3⟩
      rw [← D.out] at hb3
      go_wp2_with fail
      go_roundw
      case rel => exact ⟨k + 1, hlt, by go_num, hb3, (hW.trans hw2).trans hw3⟩
      case measure => simp [intOf]; omega
    · obtain rfl : k = l.length := by omega
      rw [List.take_length] at hB
      have hs1 : w.heap.size ≤ wr.heap.size := hW.size
      go_wp2_with (go_at_call 15; refine (bldEndC w.heap.size w.heap.size _ _ hB hs1).mono ?_; rintro e w2 ⟨rfl, hw2⟩)
      go_ret
      exact ⟨rfl, hW.trans hw2⟩
end Go.Proofs.YtegnheonncoodaaDoor.Scr
