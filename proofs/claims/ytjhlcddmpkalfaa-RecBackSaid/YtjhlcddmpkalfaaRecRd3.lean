/- The program's own reader of records' bytes: keys; slices that are built while it reads. -/
import Derived.Test.YtjhlcddmpkalfaaRecRd2
import Derived.Laws.BytesArg
namespace Go.Proofs.Ytjhlcddmpkalfaa.Rec
set_option linter.unusedVariables false
open Go.ChangeShapes Go.WideShapes Go.ChangeAt Go.RowKit
open Go.Mem RecM
def strOf (l : List Nat) : ByteArray := strOfNums (l.map fun x : Nat => (x : Int))
theorem strOf_size (l : List Nat) : (strOf l).size = l.length := by unfold strOf; rw [strOfNums_size, List.length_map]
theorem strOf_b {l : List Nat} (h : ∀ x ∈ l, x < 256) : strB (strOf l) = l := by
  unfold strB strOf
  rw [strOfNums_data, List.map_map, List.map_map]
  conv => rhs; rw [← List.map_id l]
  refine List.map_congr_left fun x hx => ?_
  have := h x hx
  simp only [Function.comp, Int.toNat_natCast, id]
  rw [UInt8.toNat_ofNat']
  omega
theorem bytes_string {w : World} {A : Option Addr} {N C : Nat} {l : List Nat} (h : Bytes w (.slice A N C) l) :
    (convert 29 9 (.slice A N C)).run Try.prog w = .ok (.string (strOf l)) w := by
  obtain ⟨_, _, e, _⟩ := h.shape
  cases e
  cases A with
  | none =>
    have h0 : l.length = 0 := by
      rcases Nat.eq_zero_or_pos l.length with x | x
      · exact x
      · obtain ⟨_, _, e, _⟩ := h.at x
        cases e
    have : l = [] := List.length_eq_zero_iff.1 h0
    subst this
    exact run_convert_bytes_nil w 29 5 Try.underlying29 Try.underlying5 _ _ 9 Try.underlying9
  | some a =>
    rcases Nat.eq_zero_or_pos l.length with x | x
    · have : l = [] := List.length_eq_zero_iff.1 x
      subst this
      rw [run_convert_bytes_string w 29 9 5 _ _ _ Try.underlying29 Try.underlying5 Try.underlying9]
      exact run_bytesToString w a _ _ [] rfl
    · obtain ⟨b, o, e, _⟩ := h.at x
      cases e
      exact run_convert_bytes_arg w 29 5 Try.underlying29 Try.underlying5 b o _ _ (l.map fun x : Nat => (x : Int)) (by simp) (fun i hi => by
        rw [(h.here hi).1]
        simp [List.getD, hi]) 9 Try.underlying9
def StrV (_ : World) (V : Value) (s : ByteArray) : Prop := V = .string s ∧ s.size ≤ 16
theorem rds_key_bad {l l1 l2 : List Nat} {b : Bool} {x : Int} (h : Rds (fun z : Int => 0 ≤ z ∧ z ≤ 16) (fun z => Sha.numB z.toNat 1) l b x l1 true) (hl : l2.length ≤ l1.length) (s : ByteArray) : Rds (fun s : ByteArray => s.size ≤ 16) keyE l b s l2 true := by
  refine ⟨h.was, (fun q => by cases q), fun q _ z y hz e => ?_, Nat.le_trans hl h.len⟩
  have hz' : z.size ≤ 16 := hz
  unfold keyE at e
  rw [List.append_assoc] at e
  exact h.no q rfl (z.size : Nat) (strB z ++ y) ⟨by omega, by omega⟩ (by rw [Int.toNat_natCast]; exact e)
theorem rds_key_short {l l1 : List Nat} {b : Bool} {N : Nat} (h : Rds (fun z : Int => 0 ≤ z ∧ z ≤ 16) (fun z => Sha.numB z.toNat 1) l b (N : Int) l1 false) (hl : l1.length < N) (s : ByteArray) : Rds (fun s : ByteArray => s.size ≤ 16) keyE l b s l1 true := by
  refine ⟨fun _ => rfl, (fun q => by cases q), fun q _ z y hz e => ?_, h.len⟩
  have hz' : z.size ≤ 16 := hz
  obtain ⟨h1, h2⟩ := h.yes rfl
  unfold keyE at e
  rw [List.append_assoc, h2, Int.toNat_natCast] at e
  obtain ⟨e1, e2⟩ := code_nat 1 N z.size _ _ (by show N < 256 ^ 1; omega) (by show z.size < 256 ^ 1; omega) e
  have := congrArg List.length e2
  rw [List.length_append, strB_len] at this
  omega
theorem rds_key_yes {l l1 : List Nat} {b : Bool} {N : Nat} (h : Rds (fun z : Int => 0 ≤ z ∧ z ≤ 16) (fun z => Sha.numB z.toNat 1) l b (N : Int) l1 false) (hl : N ≤ l1.length) (hb : ∀ x ∈ l1, x < 256) : Rds (fun s : ByteArray => s.size ≤ 16) keyE l b (strOf (l1.take N)) (l1.drop N) false := by
  obtain ⟨h1, h2⟩ := h.yes rfl
  have hsz : (strOf (l1.take N)).size = N := by rw [strOf_size, List.length_take]; omega
  refine ⟨h.was, fun _ => ⟨?_, ?_⟩, (fun _ q => by cases q), by rw [List.length_drop]; have := h.len; omega⟩
  · show (strOf (l1.take N)).size ≤ 16
    rw [hsz]; omega
  · unfold keyE
    rw [strOf_b (fun x hx => hb x (List.mem_of_mem_take hx)), hsz, h2, Int.toNat_natCast, List.append_assoc, List.take_append_drop]
set_option maxHeartbeats 1000000 in
theorem rkeyC {w : World} {p : Nat} {l : List Nat} {bad : Bool} (h : Rd w p l bad) :
    Calls Try.prog 39 #[.pointer (some ⟨p, 0, none⟩)] w (Red StrV (fun s : ByteArray => s.size ≤ 16) keyE w p l bad) := by
  have H := Lib.hid h
  have HLT := Lib.hid h.lt
  clear h
  go_enter Try.func39, Try.ntmps39
  go_wp2_with fail
  refine (getC H.out 0 16 1 (by unfold Most; omega) (by omega) (by omega)).mono ?_
  rintro e w1 ⟨V, x, l1, b1, rfl, hs, ht, hr, hd⟩
  obtain ⟨rfl, x0, x1⟩ := hs.here
  obtain ⟨N, rfl⟩ := Int.eq_ofNat_of_zero_le x0
  have HR := Lib.hid hr
  have HT := Lib.hid ht
  by_cases hno : b1 = true ∨ l1.length < N
  · have HK := Lib.hid (show Rds (fun s : ByteArray => s.size ≤ 16) keyE l bad ⟨#[]⟩ l1 true by
      cases b1 with
      | true => exact rds_key_bad hd (Nat.le_refl _) _
      | false => exact rds_key_short hd (by rcases hno with x | x; cases x; exact x) _)
    have HNO := Lib.hid hno
    have hnil : ∀ w : World, (convert 29 9 (.slice none 0 0)).run Try.prog w = .ok (.string ⟨#[]⟩) w := fun w => run_convert_bytes_nil w 29 5 Try.underlying29 Try.underlying5 _ _ 9 Try.underlying9
    clear hs ht hr hd hno
    go_wp2_with fail
    refine (takeNo HR.out N (by omega) HNO.out).mono ?_
    rintro _ w2 ⟨rfl, ht2, hr2⟩
    have HR2 := Lib.hid hr2
    have HT2 := Lib.hid (HT.out.trans ht2 (Grown.refl _ _))
    clear ht2 hr2
    go_wp2
    go_ret
    exact ⟨.string ⟨#[]⟩, ⟨#[]⟩, _, _, rfl, fun _ _ => ⟨rfl, by decide⟩, HT2.out, HR2.out, HK.out⟩
  · have hb : b1 = false := by cases hb : b1 with
      | false => rfl
      | true => exact absurd (.inl hb) hno
    subst hb
    have hk : N ≤ l1.length := Nat.le_of_not_lt fun x => hno (.inr x)
    have HKY := Lib.hid (rds_key_yes hd hk hr.bd)
    have HK := Lib.hid hk
    have hN : N ≤ 16 := by have := (hd.yes rfl).1.2; omega
    have htl : (l1.take N).length = N := by rw [List.length_take]; omega
    have HSZ := Lib.hid (show (strOf (l1.take N)).size ≤ 16 by rw [strOf_size, htl]; exact hN)
    clear hs ht hr hd hno hk htl x0 x1
    go_wp2_with fail
    refine (takeYes HR.out N HK.out).mono ?_
    rintro _ w2 ⟨A, C, rfl, hs2, ht2, hr2⟩
    have hcv := bytes_string hs2.here
    have HR2 := Lib.hid hr2
    have HT2 := Lib.hid (HT.out.trans ht2 (Grown.refl _ _))
    obtain ⟨S, hS⟩ : ∃ S, strOf (l1.take N) = S := ⟨_, rfl⟩
    rw [hS] at hcv HSZ HKY
    clear hs2 ht2 hr2 hS
    go_wp2
    go_ret
    exact ⟨.string S, S, _, _, rfl, fun _ _ => ⟨rfl, HSZ.out⟩, HT2.out, HR2.out, HKY.out⟩
end Go.Proofs.Ytjhlcddmpkalfaa.Rec
