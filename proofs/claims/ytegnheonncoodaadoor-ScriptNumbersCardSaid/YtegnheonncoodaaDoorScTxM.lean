/- The law's own text of steps. -/
import Derived.Test.YtegnheonncoodaaDoorScHexL
namespace Go.Proofs.YtegnheonncoodaaDoor.Scr
set_option linter.unusedVariables false
open Go.ChangeShapes Go.WideShapes Go.ChangeAt Go.RowKit
open Go.Mem Sc
/-- s with p behind it is r, and not too long; k: how many bytes p has -/
def Adds (s p r : ByteArray) (k : Nat) : Prop := s ++ p = r ∧ ¬ 9223372036854775807 < s.size + p.size ∧ ¬ 9223372036854775807 < s.size + k
theorem adds_of (a b : List UInt8) (h : a.length + b.length ≤ 9223372036854775807) : Adds (str a) (str b) (str (a ++ b)) b.length := ⟨str_app a b, by rw [str_size, str_size]; omega, by rw [str_size]; omega⟩
theorem hex_chunk (key : List UInt8) : dig key = [120] ++ hexL key := rfl

theorem line_parts (T : List UInt8) (x : SD) : ((((((((((T ++ Lib.itoa x.kind) ++ [32]) ++ Lib.itoa x.a) ++ [32]) ++ Lib.decDigits x.keep) ++ [32, 120]) ++ hexL x.key) ++ [32, 120]) ++ hexL x.data) ++ [10]) = T ++ lineOf x := by simp [lineOf, dig]
theorem line_adds (T : List UInt8) (x : SD) (hx : x.Ok) (hs : Small x) (hT : T.length ≤ 1000000000) : ∃ s0 s1 s2 s3 s4 s5 s6 s7 s8 s9 s10 n1 n2 n3 h1 h2 : ByteArray, s0 = str T ∧ n1 = str (Lib.itoa x.kind) ∧ n2 = str (Lib.itoa x.a) ∧ n3 = str (Lib.decDigits x.keep) ∧ h1 = str (hexL x.key) ∧ h2 = str (hexL x.data) ∧ Adds s0 n1 s1 n1.size ∧ Adds s1 (⟨#[32]⟩ : ByteArray) s2 1 ∧ Adds s2 n2 s3 n2.size ∧ Adds s3 (⟨#[32]⟩ : ByteArray) s4 1 ∧ Adds s4 n3 s5 n3.size ∧ Adds s5 (⟨#[32, 120]⟩ : ByteArray) s6 2 ∧ Adds s6 h1 s7 h1.size ∧ Adds s7 (⟨#[32, 120]⟩ : ByteArray) s8 2 ∧ Adds s8 h2 s9 h2.size ∧ Adds s9 (⟨#[10]⟩ : ByteArray) s10 1 ∧ s10 = str (T ++ lineOf x) := by
  have l1 := itoa_len x.kind hx.k
  have l2 := itoa_len x.a hx.a
  have l3 := dec_len x.keep hx.p
  have l4 := hexL_len x.key
  have l5 := hexL_len x.data
  have g1 : x.key.length ≤ 1000000 := hs.1
  have g2 : x.data.length ≤ 1000000 := hs.2
  refine ⟨str T, str (T ++ Lib.itoa x.kind), str ((T ++ Lib.itoa x.kind) ++ [32]), str (((T ++ Lib.itoa x.kind) ++ [32]) ++ Lib.itoa x.a), str ((((T ++ Lib.itoa x.kind) ++ [32]) ++ Lib.itoa x.a) ++ [32]), str (((((T ++ Lib.itoa x.kind) ++ [32]) ++ Lib.itoa x.a) ++ [32]) ++ Lib.decDigits x.keep), str ((((((T ++ Lib.itoa x.kind) ++ [32]) ++ Lib.itoa x.a) ++ [32]) ++ Lib.decDigits x.keep) ++ [32, 120]), str (((((((T ++ Lib.itoa x.kind) ++ [32]) ++ Lib.itoa x.a) ++ [32]) ++ Lib.decDigits x.keep) ++ [32, 120]) ++ hexL x.key), str ((((((((T ++ Lib.itoa x.kind) ++ [32]) ++ Lib.itoa x.a) ++ [32]) ++ Lib.decDigits x.keep) ++ [32, 120]) ++ hexL x.key) ++ [32, 120]), str (((((((((T ++ Lib.itoa x.kind) ++ [32]) ++ Lib.itoa x.a) ++ [32]) ++ Lib.decDigits x.keep) ++ [32, 120]) ++ hexL x.key) ++ [32, 120]) ++ hexL x.data), str ((((((((((T ++ Lib.itoa x.kind) ++ [32]) ++ Lib.itoa x.a) ++ [32]) ++ Lib.decDigits x.keep) ++ [32, 120]) ++ hexL x.key) ++ [32, 120]) ++ hexL x.data) ++ [10]), str (Lib.itoa x.kind), str (Lib.itoa x.a), str (Lib.decDigits x.keep), str (hexL x.key), str (hexL x.data), rfl, rfl, rfl, rfl, rfl, rfl, ?_, ?_, ?_, ?_, ?_, ?_, ?_, ?_, ?_, ?_, by rw [line_parts]⟩
  · have := adds_of T (Lib.itoa x.kind) (by first | omega | (simp only [List.length_append, List.length_cons, List.length_nil]; omega))
    rw [← str_size (Lib.itoa x.kind)] at this
    exact this
  · exact adds_of (T ++ Lib.itoa x.kind) [32] (by first | omega | (simp only [List.length_append, List.length_cons, List.length_nil]; omega))
  · have := adds_of ((T ++ Lib.itoa x.kind) ++ [32]) (Lib.itoa x.a) (by first | omega | (simp only [List.length_append, List.length_cons, List.length_nil]; omega))
    rw [← str_size (Lib.itoa x.a)] at this
    exact this
  · exact adds_of (((T ++ Lib.itoa x.kind) ++ [32]) ++ Lib.itoa x.a) [32] (by first | omega | (simp only [List.length_append, List.length_cons, List.length_nil]; omega))
  · have := adds_of ((((T ++ Lib.itoa x.kind) ++ [32]) ++ Lib.itoa x.a) ++ [32]) (Lib.decDigits x.keep) (by first | omega | (simp only [List.length_append, List.length_cons, List.length_nil]; omega))
    rw [← str_size (Lib.decDigits x.keep)] at this
    exact this
  · exact adds_of (((((T ++ Lib.itoa x.kind) ++ [32]) ++ Lib.itoa x.a) ++ [32]) ++ Lib.decDigits x.keep) [32, 120] (by first | omega | (simp only [List.length_append, List.length_cons, List.length_nil]; omega))
  · have := adds_of ((((((T ++ Lib.itoa x.kind) ++ [32]) ++ Lib.itoa x.a) ++ [32]) ++ Lib.decDigits x.keep) ++ [32, 120]) (hexL x.key) (by first | omega | (simp only [List.length_append, List.length_cons, List.length_nil]; omega))
    rw [← str_size (hexL x.key)] at this
    exact this
  · exact adds_of (((((((T ++ Lib.itoa x.kind) ++ [32]) ++ Lib.itoa x.a) ++ [32]) ++ Lib.decDigits x.keep) ++ [32, 120]) ++ hexL x.key) [32, 120] (by first | omega | (simp only [List.length_append, List.length_cons, List.length_nil]; omega))
  · have := adds_of ((((((((T ++ Lib.itoa x.kind) ++ [32]) ++ Lib.itoa x.a) ++ [32]) ++ Lib.decDigits x.keep) ++ [32, 120]) ++ hexL x.key) ++ [32, 120]) (hexL x.data) (by first | omega | (simp only [List.length_append, List.length_cons, List.length_nil]; omega))
    rw [← str_size (hexL x.data)] at this
    exact this
  · exact adds_of (((((((((T ++ Lib.itoa x.kind) ++ [32]) ++ Lib.itoa x.a) ++ [32]) ++ Lib.decDigits x.keep) ++ [32, 120]) ++ hexL x.key) ++ [32, 120]) ++ hexL x.data) [10] (by first | omega | (simp only [List.length_append, List.length_cons, List.length_nil]; omega))
end Go.Proofs.YtegnheonncoodaaDoor.Scr
