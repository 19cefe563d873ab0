/- The laws of layer 10 of tapes that are none, and of what the power leaves of an Append, as walks. -/
import Derived.Test.YtndponihilfidaaTpI
import Derived.Test.YtndponihilfidaaAppSrc
import Derived.Deep.RegionHeld3
namespace Go.Proofs.Ytndponihilfidaa.Tape
set_option linter.unusedVariables false
open Go.ChangeShapes Go.WideShapes Go.ChangeAt Go.RowKit
open Go.Mem Tp Same
variable {PD : Thing}
theorem fresh_read2 : fresh.readE 2 = 1 ∧ fresh.readB 2 = [] := by decide
theorem nx {W w w' : World} (h : Below W.heap.size W w) (hb : Below w.heap.size w w') : Below W.heap.size W w' := h.trans (hb.mono h.size)
set_option maxHeartbeats 2000000 in
theorem TapeNoneC (I : Iface PD) (N0 : NoTape) (n : Int) (l0 : -9223372036854775808 ≤ n) (u0 : n ≤ 9223372036854775807) (v : Value) (l : List Nat) (w : World) (hl : Bytes w v l) :
    Calls Try.prog 5 #[.int .i64 n, v] w fun e w' => e = .returned (.bool true) ∧ Below w.heap.size w w' := by
  go_enter Try.func5, Try.ntmps5
  go_wp2_with fail
  refine (N0.fuse w n).mono ?_
  rintro _ w1 ⟨rfl, hb1⟩
  have HB1 := Lib.hid hb1
  clear hb1
  go_wp2_with fail
  refine (N0.crash w1 n).mono ?_
  rintro _ w2 ⟨rfl, hb2⟩
  have HB2 := Lib.hid (nx HB1.out hb2)
  clear hb2
  go_wp2_with fail
  refine (N0.lose w2 n).mono ?_
  rintro _ w3 ⟨rfl, hb3⟩
  have HB3 := Lib.hid (nx HB2.out hb3)
  clear hb3
  go_wp2_with fail
  refine (N0.spoil w3 n v).mono ?_
  rintro _ w4 ⟨rfl, hb4⟩
  have HB4 := Lib.hid (nx HB3.out hb4)
  clear hb4
  go_wp2_with fail
  refine (N0.read w4 n).mono ?_
  rintro _ w5 ⟨u5, rfl, hu5, hb5⟩
  have HB5 := Lib.hid (nx HB4.out hb5)
  obtain ⟨A5, C5, rfl, -, -, -⟩ := hu5.shape
  rw [show ([] : List Nat).length = 0 from rfl]
  clear hb5 hu5
  go_wp2_with fail
  refine (Mine.new I w5 (W := w) HB5.out).mono ?_
  rintro _ w6 ⟨p, rfl, hm6⟩
  have HM6 := Lib.hid hm6
  clear hm6
  go_wp2_with fail
  refine (Mine.read I HM6.out (fresh_upto _) 2 ⟨by omega, by omega⟩).mono ?_
  rintro _ w7 ⟨u7, rfl, hu7, hm7, hb7⟩
  rw [fresh_read2.1]
  have HB7 := Lib.hid hm7.bel
  rw [fresh_read2.2] at hu7
  obtain ⟨A7, C7, rfl, -, -, -⟩ := hu7.1.shape
  rw [show ([] : List Nat).length = 0 from rfl]
  clear hu7 hm7 hb7
  go_wp2_with fail
  refine (answersC I w7).mono ?_
  rintro _ w8 ⟨rfl, hb8⟩
  have HB8 := Lib.hid (nx HB7.out hb8)
  clear hb8
  go_wp2_with fail
  refine (N0.append w8 v).mono ?_
  rintro _ w9 ⟨rfl, hb9⟩
  have HB9 := Lib.hid (nx HB8.out hb9)
  clear hb9
  go_wp2_with fail
  refine (N0.replace w9 v).mono ?_
  rintro _ w10 ⟨rfl, hb10⟩
  have HB10 := Lib.hid (nx HB9.out hb10)
  clear hb10
  go_wp2
  go_ret
  exact ⟨rfl, HB10.out⟩
/-! ### of an Append that the power goes in -/
def pt1 (a : List Nat) : St := fresh.write a false
def pt2 (a : List Nat) : St := (pt1 a).burn 0
def pt3 (a b : List Nat) : St := (pt2 a).write b false
theorem pt1_eq (a : List Nat) : pt1 a = ⟨⟨a, [], false, false, false⟩, ⟨a, [], false, false, false⟩, -1, false⟩ := rfl
theorem pt2_eq (a : List Nat) : pt2 a = ⟨⟨a, [], false, false, false⟩, ⟨a, [], false, false, false⟩, 0, false⟩ := rfl
theorem pt3_eq (a b : List Nat) : pt3 a b = ⟨⟨a, b, true, false, false⟩, ⟨a, [], false, false, false⟩, 0, true⟩ := rfl
theorem pt_e (a b : List Nat) : fresh.writeE = 0 ∧ (pt2 a).writeE = 9 ∧ (pt3 a b).writeE = 9 ∧ (pt3 a b).write b false = pt3 a b := ⟨rfl, rfl, rfl, rfl⟩
theorem pt4_eq (a b : List Nat) (keep : Int) : (pt3 a b).crash keep = ⟨⟨a ++ b.take keep.toNat, [], false, false, false⟩, ⟨a, [], false, false, false⟩, -1, false⟩ := rfl
theorem pt4_read (a b : List Nat) (keep : Int) : ((pt3 a b).crash keep).readE 0 = 0 ∧ ((pt3 a b).crash keep).readB 0 = a ++ b.take keep.toNat ∧ ((pt3 a b).crash keep).writeE = 0 := ⟨rfl, rfl, rfl⟩
theorem pt_upto {a b : List Nat} (ha : a.length ≤ 1000) (hb : b.length ≤ 1000) (keep : Int) : (pt1 a).upto 1000000 ∧ (pt2 a).upto 1000000 ∧ (pt3 a b).upto 1000000 ∧ ((pt3 a b).crash keep).upto 1000000 := by
  have h : (a ++ b.take keep.toNat).length ≤ 2000 := by rw [List.length_append, List.length_take]; omega
  refine ⟨⟨⟨?_, ?_⟩, ⟨?_, ?_⟩⟩, ⟨⟨?_, ?_⟩, ⟨?_, ?_⟩⟩, ⟨⟨?_, ?_⟩, ⟨?_, ?_⟩⟩, ⟨⟨?_, ?_⟩, ⟨?_, ?_⟩⟩⟩
  all_goals first | (show a.length ≤ _; omega) | (show b.length ≤ _; omega) | (show (a ++ b.take keep.toNat).length ≤ _; omega) | (show ([] : List Nat).length ≤ _; simp)
end Go.Proofs.Ytndponihilfidaa.Tape
