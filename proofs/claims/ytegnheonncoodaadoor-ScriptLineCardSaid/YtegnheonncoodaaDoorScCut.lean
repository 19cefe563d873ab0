/- strings.Cut at a blank. -/
import Derived.Test.YtegnheonncoodaaDoorScLib
import Derived.Deep.QuietTactic
import Derived.BigQuiet
import Derived.IntWalk
namespace Go.Proofs.YtegnheonncoodaaDoor.Scr
set_option linter.unusedVariables false
open Go.ChangeShapes Go.WideShapes Go.ChangeAt Go.RowKit
open Go.Mem Sc
theorem cut_hit {l : List UInt8} {i : Nat} (h : Lib.indexByte l 32 = i) : bef l = l.take i ∧ aft l = l.drop (i + 1) := by
  unfold bef aft Lib.cut
  rw [Lib.index_one, h, if_pos (by omega)]
  simp
theorem cut_miss {l : List UInt8} (h : Lib.indexByte l 32 = -1) : bef l = l ∧ aft l = [] := by
  unfold bef aft Lib.cut
  rw [Lib.index_one, h, if_neg (by omega)]
  exact ⟨rfl, rfl⟩
theorem index_cases (l : List UInt8) (c : UInt8) : Lib.indexByte l c = -1 ∨ ∃ i : Nat, Lib.indexByte l c = i ∧ i < l.length := by
  have h := Lib.indexByte_ge l c
  by_cases h0 : Lib.indexByte l c = -1
  · exact .inl h0
  · refine .inr ⟨(Lib.indexByte l c).toNat, by omega, ?_⟩
    have := (Lib.indexByte_some (l := l) (c := c) (o := (Lib.indexByte l c).toNat) (by omega)).1
    rcases Nat.lt_or_ge (Lib.indexByte l c).toNat l.length with q | q
    · exact q
    · rw [List.getElem?_eq_none q] at this; cases this
theorem str_eq {s : ByteArray} {l : List UInt8} (h : s.data.toList = l) : s = str l := by subst h; rfl
set_option maxHeartbeats 1000000 in
theorem cutIC (s : ByteArray) (hs : s.size ≤ 9223372036854775806) (w : World) : Calls Tryd.prog 38 #[.string s, .string ⟨#[32]⟩] w fun e w' => (∃ b, e = .returned (.tuple #[.string (str (bef s.data.toList)), .string (str (aft s.data.toList)), .bool b])) ∧ ∃ n, w' = w.drewN n := by
  have hsz : s.data.toList.length = s.size := Array.length_toList
  rcases index_cases s.data.toList 32 with h | ⟨i, h, hi⟩
  · obtain ⟨e1, e2⟩ := cut_miss h
    rw [e1, e2]
    have H := Lib.hid h
    clear h
    go_enter Tryd.func38, Tryd.ntmps38
    go_wp2_with (go_at_call 49; refine (Tryd.stringslite_Index_one s 32 _).mono ?_; rintro e w' ⟨rfl, rfl⟩; rw [H.out])
    go_ret3
    exact ⟨⟨_, rfl⟩, 0, (World.drewN_zero _).symm⟩
  · obtain ⟨e1, e2⟩ := cut_hit h
    rw [hsz] at hi
    rw [e1, e2]
    have H := Lib.hid h
    clear h
    have hw : IntKind.i64.wrap ((i : Int) + 1) = (i : Int) + 1 := IntWalk.i64_in _ (by omega)
    have h1 : 0 ≤ (i : Int) + 1 := by omega
    have h2 : ((i : Int) + 1).toNat = i + 1 := by omega
    have h3 : (i : Int) + 1 ≤ s.size := by omega
    go_enter Tryd.func38, Tryd.ntmps38
    go_wp2_with (go_at_call 49; refine (Tryd.stringslite_Index_one s 32 _).mono ?_; rintro e w' ⟨rfl, rfl⟩; rw [H.out])
    go_quiet (fail)
    go_wp2
    go_ret3
    refine ⟨⟨true, ?_⟩, _, rfl⟩
    rw [← str_eq (show (s.extract 0 i).data.toList = s.data.toList.take i by rw [Lib.extract_data, List.drop_zero, Nat.sub_zero]), ← str_eq (Lib.extract_to_end s (i + 1))]
    rfl
theorem cutC (l : List UInt8) (hl : l.length ≤ 9223372036854775806) (w : World) : Calls Tryd.prog 28 #[.string (str l), .string ⟨#[32]⟩] w fun e w' => (∃ b, e = .returned (.tuple #[.string (str (bef l)), .string (str (aft l)), .bool b])) ∧ ∃ n, w' = w.drewN n := by
  have hs : (str l).size ≤ 9223372036854775806 := by rw [str_size]; exact hl
  go_enter Tryd.func28, Tryd.ntmps28
  go_wp2_with (go_at_call 38; refine (cutIC _ hs _).mono ?_; rintro e w' ⟨⟨b, rfl⟩, n, rfl⟩)
  go_ret3
  exact ⟨⟨b, rfl⟩, n, rfl⟩
theorem bef_len (l : List UInt8) : (bef l).length ≤ l.length := by
  rcases index_cases l 32 with h | ⟨i, h, hi⟩
  · rw [(cut_miss h).1]; exact Nat.le_refl _
  · rw [(cut_hit h).1]; simp; omega
theorem aft_len (l : List UInt8) : (aft l).length ≤ l.length := by
  rcases index_cases l 32 with h | ⟨i, h, hi⟩
  · rw [(cut_miss h).2]; simp
  · rw [(cut_hit h).2]; simp
end Go.Proofs.YtegnheonncoodaaDoor.Scr
