/- Tapes that are none: the program's answers, and the law. -/
import Derived.Test.YtndponihilfidaaPtIface
import Derived.Test.YtndponihilfidaaTpLaws
namespace Go.Proofs.Ytndponihilfidaa.Tape
set_option linter.unusedVariables false
open Go.ChangeShapes Go.WideShapes Go.ChangeAt Go.RowKit
open Go.Mem Tp
theorem append_none (w : World) (A : Option Addr) (n C : Nat) : Calls Try.prog 9 #[.pointer none, .slice A n C] w fun e w' => e = .returned (.int .i64 1) ∧ Below w.heap.size w w' := by
  go_enter Try.func9, Try.ntmps9
  go_wp2_with fail
  refine (write_none w _ false).mono ?_
  rintro _ w1 ⟨rfl, hb⟩
  have HB := Lib.hid hb
  clear hb
  go_wp2
  go_ret
  exact ⟨rfl, HB.out⟩
theorem replace_none (w : World) (A : Option Addr) (n C : Nat) : Calls Try.prog 11 #[.pointer none, .slice A n C] w fun e w' => e = .returned (.int .i64 1) ∧ Below w.heap.size w w' := by
  go_enter Try.func11, Try.ntmps11
  go_wp2_with fail
  refine (write_none w _ true).mono ?_
  rintro _ w1 ⟨rfl, hb⟩
  have HB := Lib.hid hb
  clear hb
  go_wp2
  go_ret
  exact ⟨rfl, HB.out⟩
theorem read_none (w : World) (i : Int) : Calls Try.prog 17 #[.pointer none, .int .i64 i] w fun e w' => ∃ u, e = .returned (.tuple #[u, .int .i64 1]) ∧ Bytes w' u [] ∧ Below w.heap.size w w' := by
  go_enter Try.func17, Try.ntmps17
  go_wp2_with fail
  refine (side_none w i).mono ?_
  rintro _ w1 ⟨rfl, rfl⟩
  go_wp2
  go_ret2
  exact ⟨_, rfl, (RowIn.nil (fun _ => True) _).1, Below.refl _ _⟩
theorem spoil_none (w : World) (i : Int) (u : Value) : Calls Try.prog 16 #[.pointer none, .int .i64 i, u] w fun e w' => e = .returned (.tuple #[]) ∧ Below w.heap.size w w' := by
  go_enter Try.func16, Try.ntmps16
  go_wp2_with fail
  refine (side_none w i).mono ?_
  rintro _ w1 ⟨rfl, rfl⟩
  go_wp2
  go_end0
  exact ⟨rfl, Below.refl _ _⟩
theorem lose_none (w : World) (i : Int) : Calls Try.prog 15 #[.pointer none, .int .i64 i] w fun e w' => e = .returned (.tuple #[]) ∧ Below w.heap.size w w' := by
  go_enter Try.func15, Try.ntmps15
  go_wp2_with fail
  refine (side_none w i).mono ?_
  rintro _ w1 ⟨rfl, rfl⟩
  go_wp2
  go_end0
  exact ⟨rfl, Below.refl _ _⟩
theorem fuse_none (w : World) (i : Int) : Calls Try.prog 12 #[.pointer none, .int .i64 i] w fun e w' => e = .returned (.tuple #[]) ∧ Below w.heap.size w w' := by
  go_enter Try.func12, Try.ntmps12
  go_wp2
  go_end0
  exact ⟨rfl, Below.refl _ _⟩
theorem crash_none (w : World) (i : Int) : Calls Try.prog 13 #[.pointer none, .int .i64 i] w fun e w' => e = .returned (.tuple #[]) ∧ Below w.heap.size w w' := by
  go_enter Try.func13, Try.ntmps13
  go_wp2
  exact bodyPost_ret (v := .tuple #[]) (by simp [results, Try.results13, go_sem]) rfl ⟨rfl, Below.refl _ _⟩
set_option maxHeartbeats 2000000 in
theorem TapeNoneS (I : Iface PD) (n : Int) (l0 : -9223372036854775808 ≤ n) (u0 : n ≤ 9223372036854775807) (v : Value) (l : List Nat) (w : World) (hl : Bytes w v l) :
    Calls Try.prog 5 #[.int .i64 n, v] w fun e w' => e = .returned (.bool true) ∧ Below w.heap.size w w' := by
  obtain ⟨A0, C0, rfl, -, -, -⟩ := hl.shape
  obtain ⟨N0, hN0⟩ : ∃ n, l.length = n := ⟨_, rfl⟩
  rw [hN0]
  clear hl hN0
  go_enter Try.func5, Try.ntmps5
  go_wp2_with fail
  refine (fuse_none w n).mono ?_
  rintro _ w1 ⟨rfl, hb1⟩
  have HB1 := Lib.hid hb1
  clear hb1
  go_wp2_with fail
  refine (crash_none w1 n).mono ?_
  rintro _ w2 ⟨rfl, hb2⟩
  have HB2 := Lib.hid (nx HB1.out hb2)
  clear hb2
  go_wp2_with fail
  refine (lose_none w2 n).mono ?_
  rintro _ w3 ⟨rfl, hb3⟩
  have HB3 := Lib.hid (nx HB2.out hb3)
  clear hb3
  go_wp2_with fail
  refine (spoil_none w3 n _).mono ?_
  rintro _ w4 ⟨rfl, hb4⟩
  have HB4 := Lib.hid (nx HB3.out hb4)
  clear hb4
  go_wp2_with fail
  refine (read_none w4 n).mono ?_
  rintro _ w5 ⟨u5, rfl, hu5, hb5⟩
  have HB5 := Lib.hid (nx HB4.out hb5)
  obtain ⟨A5, C5, rfl, -, -, -⟩ := hu5.shape
  rw [show ([] : List Nat).length = 0 from rfl]
  clear hb5 hu5
  go_wp2_with fail
  refine (Mine.new I w5 (W := w) HB5.out).mono ?_
  rintro _ w6 ⟨p, rfl, hm6⟩
  have HM6 := Lib.hid hm6
  clear hm6
  go_wp2_with fail
  refine (Mine.read I HM6.out (fresh_upto _) 2 ⟨by omega, by omega⟩).mono ?_
  rintro _ w7 ⟨u7, rfl, hu7, hm7, hb7⟩
  rw [fresh_read2.1]
  have HB7 := Lib.hid hm7.bel
  rw [fresh_read2.2] at hu7
  obtain ⟨A7, C7, rfl, -, -, -⟩ := hu7.1.shape
  rw [show ([] : List Nat).length = 0 from rfl]
  clear hu7 hm7 hb7
  go_wp2_with fail
  refine (answersC I w7).mono ?_
  rintro _ w8 ⟨rfl, hb8⟩
  have HB8 := Lib.hid (nx HB7.out hb8)
  clear hb8
  go_wp2_with fail
  refine (append_none w8 _ _ _).mono ?_
  rintro _ w9 ⟨rfl, hb9⟩
  have HB9 := Lib.hid (nx HB8.out hb9)
  clear hb9
  go_wp2_with fail
  refine (replace_none w9 _ _ _).mono ?_
  rintro _ w10 ⟨rfl, hb10⟩
  have HB10 := Lib.hid (nx HB9.out hb10)
  clear hb10
  go_wp2
  go_ret
  exact ⟨rfl, HB10.out⟩
end Go.Proofs.Ytndponihilfidaa.Tape
