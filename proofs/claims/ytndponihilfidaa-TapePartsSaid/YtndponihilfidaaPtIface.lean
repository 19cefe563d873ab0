/- The program's tapes keep the contracts that the laws ask for; so do tapes that are none. -/
import Derived.Test.YtndponihilfidaaPtWrite
import Derived.Test.YtndponihilfidaaPtCrash
namespace Go.Proofs.Ytndponihilfidaa.Tape
set_option linter.unusedVariables false
open Go.ChangeShapes Go.WideShapes Go.ChangeAt Go.RowKit
open Go.Mem Tp
theorem pwriteC {w : World} {F : Nat → Prop} {p : Nat} {t : St} (h : PD w F p t) (ht : t.upto 1000000) (l : List Nat) (u : Value) (hu : RowIn (fun b => ¬ F b) w u l) (hl : l.length ≤ 1000) (sw : Bool) :
    Calls Try.prog 20 #[.pointer (some ⟨p, 0, none⟩), .agg #[u, .bool sw]] w (PPost w F p t l sw) := by
  by_cases hd : t.down = true
  · exact pwrite_down h ht l u hu hl sw hd
  · have hd : t.down = false := by simpa using hd
    by_cases hb : t.s0.lost = true ∧ t.s1.lost = true
    · exact pwrite_lost h ht l u hu hl sw hd hb
    · exact pwrite_go h ht l u hu hl sw hd hb
theorem appendC {w : World} {F : Nat → Prop} {p : Nat} {s : St} (h : PD w F p s) (hs : s.upto 1000000) (l : List Nat) (u : Value) (hu : RowIn (fun b => ¬ F b) w u l) (hl : l.length ≤ 1000) :
    Calls Try.prog 9 #[.pointer (some ⟨p, 0, none⟩), u] w fun e w' => e = .returned (.int .i64 s.writeE) ∧ Does PD F p (s.write l false) w w' := by
  have HW := Lib.hid (pwriteC h hs l u hu hl false)
  obtain ⟨A0, C0, rfl, -, -, -⟩ := hu.1.shape
  clear h hs hu
  go_enter Try.func9, Try.ntmps9
  go_wp2_with fail
  refine HW.out.mono ?_
  rintro _ w1 ⟨rfl, hd⟩
  have HD := Lib.hid hd
  clear hd
  go_wp2
  go_ret
  exact ⟨rfl, HD.out⟩
theorem replaceC {w : World} {F : Nat → Prop} {p : Nat} {s : St} (h : PD w F p s) (hs : s.upto 1000000) (l : List Nat) (u : Value) (hu : RowIn (fun b => ¬ F b) w u l) (hl : l.length ≤ 1000) :
    Calls Try.prog 11 #[.pointer (some ⟨p, 0, none⟩), u] w fun e w' => e = .returned (.int .i64 s.writeE) ∧ Does PD F p (s.write l true) w w' := by
  have HW := Lib.hid (pwriteC h hs l u hu hl true)
  obtain ⟨A0, C0, rfl, -, -, -⟩ := hu.1.shape
  clear h hs hu
  go_enter Try.func11, Try.ntmps11
  go_wp2_with fail
  refine HW.out.mono ?_
  rintro _ w1 ⟨rfl, hd⟩
  have HD := Lib.hid hd
  clear hd
  go_wp2
  go_ret
  exact ⟨rfl, HD.out⟩
theorem three (i : Int) : i = 0 ∨ i = 1 ∨ (i < 0 ∨ 1 < i) := by omega
theorem bool_two (b : Bool) : b = true ∨ b = false := by cases b <;> simp
theorem iface : Iface PD where
  turned := fun h ht hd => h.turned ht hd
  lt := fun h => h.lt
  new := newC
  append := fun h hs l u hu hl => appendC h hs l u hu hl
  replace := fun h hs l u hu hl => replaceC h hs l u hu hl
  read := fun {w F p s} h hs i hi => by
    rcases three i with rfl | rfl | k
    · rcases bool_two s.s0.lost with q | q
      · exact read_lost0 h q
      · exact read_0 h hs q
    · rcases bool_two s.s1.lost with q | q
      · exact read_lost1 h q
      · exact read_1 h hs q
    · exact read_no h i k
  spoil := fun {w F p s} h hs i l u hi hu hl => by
    rcases three i with rfl | rfl | k
    · rcases bool_two s.s0.lost with q | q
      · exact spoil_lost0 h q l u
      · exact spoil_0 h q l u hu.1 (by omega)
    · rcases bool_two s.s1.lost with q | q
      · exact spoil_lost1 h q l u
      · exact spoil_1 h q l u hu.1 (by omega)
    · exact spoil_no h i k l u
  lose := fun {w F p s} h i hi => by
    rcases three i with rfl | rfl | k
    · exact lose_0 h
    · exact lose_1 h
    · exact lose_no h i k
  fuse := fun h n hn => fuseC h n hn
  crash := fun h hs n hn => crashC h hs n hn
theorem write_none (w : World) (u : Value) (sw : Bool) : Calls Try.prog 20 #[.pointer none, .agg #[u, .bool sw]] w fun e w' => e = .returned (.int .i64 1) ∧ Below w.heap.size w w' := by
  have HB := Lib.hid (show Below w.heap.size w (w.alloc (.cells #[u, .bool sw] 49)) from (Below.refl _ _).alloc (Nat.le_refl _) _)
  go_enter Try.func20, Try.ntmps20
  go_wp2_with fail
  refine (works_none _).mono ?_
  rintro _ w1 ⟨rfl, rfl⟩
  go_wp2
  go_ret
  exact ⟨rfl, HB.out⟩
end Go.Proofs.Ytndponihilfidaa.Tape
