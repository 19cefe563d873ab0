/- The program's own reader of records' bytes: numbers, keys. -/
import Derived.Test.YtjhlcddmpkalfaaRecRd
import Derived.Test.YtjhlcddmpkalfaaRecWr3
namespace Go.Proofs.Ytjhlcddmpkalfaa.Rec
set_option linter.unusedVariables false
open Go.ChangeShapes Go.WideShapes Go.ChangeAt Go.RowKit
open Go.Mem RecM
/-- a reader's call: it tells x, in new memory -/
def Red {α : Type} (R : World → Value → α → Prop) (ok : α → Prop) (E : α → List Nat) (w : World) (p : Nat) (l : List Nat) (bad : Bool) (e : Ending) (w' : World) : Prop :=
  ∃ V x l' bad', e = .returned V ∧ Sure (fun b => b < w.heap.size) w' (fun w'' => R w'' V x) ∧ Turned (fun b => b = p) w w' ∧ Rd w' p l' bad' ∧ Rds ok E l bad x l' bad'
def IntV (_ : World) (V : Value) (x : Int) : Prop := V = .int .i64 x ∧ 0 ≤ x ∧ x ≤ 4294967295
theorem val_lt {l : List Nat} (hb : ∀ x ∈ l, x < 256) {j : Nat} (hj : j ≤ 4) (hl : j ≤ l.length) : val (l.take j) ≤ 4294967295 ∧ (j ≤ 3 → val (l.take j) ≤ 16777215) := by
  have h := (numB_val j (l.take j) (by rw [List.length_take]; omega) (fun x hx => hb x (List.mem_of_mem_take hx))).2
  have h4 : (256 : Nat) ^ j ≤ 256 ^ 4 := Nat.pow_le_pow_right (by decide) hj
  have e4 : (256 : Nat) ^ 4 = 4294967296 := rfl
  refine ⟨by omega, fun h3 => ?_⟩
  have h5 : (256 : Nat) ^ j ≤ 256 ^ 3 := Nat.pow_le_pow_right (by decide) h3
  have e3 : (256 : Nat) ^ 3 = 16777216 := rfl
  omega
theorem most_nat {most : Int} {k : Nat} (h : Most most k) : most < 256 ^ k := h.le.2.2.2.2
set_option maxHeartbeats 2000000 in
theorem getC {w : World} {p : Nat} {l : List Nat} {bad : Bool} (h : Rd w p l bad) (least most : Int) (k : Nat) (hm : Most most k) (hl : 0 ≤ least) (hl1 : least ≤ 1) :
    Calls Try.prog 37 #[.pointer (some ⟨p, 0, none⟩), .int .i64 least, .int .i64 most] w (Red IntV (fun z => least ≤ z ∧ z ≤ most) (fun z => Sha.numB z.toNat k) w p l bad) := by
  have H := Lib.hid h
  obtain ⟨m0, m1, k0, k1, -⟩ := hm.le
  have HM := Lib.hid hm
  by_cases hno : bad = true ∨ l.length < k
  · have HNO := Lib.hid hno
    have HR := Lib.hid (show Rds (fun z : Int => least ≤ z ∧ z ≤ most) (fun z => Sha.numB z.toNat k) l bad 0 l true by
      cases hb : bad with
      | true => exact Rds.bad rfl 0
      | false => exact rds_short (by rcases hno with x | x; rw [hb] at x; cases x; exact x) 0)
    clear hno h hm
    go_enter Try.func37, Try.ntmps37
    go_wp2_with fail
    refine (widthC most k _ HM.out).mono ?_
    rintro _ _ ⟨rfl, rfl⟩
    go_wp2_with fail
    refine (takeNo H.out k (by omega) HNO.out).mono ?_
    rintro _ w2 ⟨rfl, ht, A, C, hr⟩
    have HT := Lib.hid ht
    have HR2 := Lib.hid hr
    obtain ⟨c0, c1⟩ := hr.cells
    have f1 := hr.free 1
    have HF := Lib.hid (hr.flag true)
    clear ht hr
    go_wp2
    refine wp_loop_rounds 1 ?_
    rw [rounds_succ]
    go_wp2
    go_ret
    exact ⟨.int .i64 0, 0, l, true, rfl, fun _ _ => ⟨rfl, by omega, by omega⟩, HT.out.trans HF.out.2 (Grown.refl _ _), ⟨A, C, HF.out.1⟩, HR.out⟩
  · have hb : bad = false := by cases hb : bad with
      | false => rfl
      | true => exact absurd (.inl hb) hno
    have hk : k ≤ l.length := Nat.le_of_not_lt fun x => hno (.inr x)
    subst hb
    have HK := Lib.hid hk
    have HBD := Lib.hid h.bd
    have HR := Lib.hid (rds_get (least := least) (most := most) hl (most_nat hm) h.bd hk)
    clear hno h hm hk
    go_enter Try.func37, Try.ntmps37
    go_wp2_with fail
    refine (widthC most k _ HM.out).mono ?_
    rintro _ _ ⟨rfl, rfl⟩
    go_wp2_with fail
    refine (takeYes H.out k HK.out).mono ?_
    rintro _ w2 ⟨A1, C1, rfl, hs, ht, A, C, hr⟩
    have HT := Lib.hid ht
    obtain ⟨c0, c1⟩ := hr.cells
    have f1 := hr.free 1
    have HF := Lib.hid (fun b => hr.flag b)
    have HS := Lib.hid hs.here
    have htl : (l.take k).length = k := by have := HK.out; rw [List.length_take]; omega
    have HTL := Lib.hid htl
    clear ht hr hs htl
    go_wp2
    go_loop [7, 15] (fun n i => ∃ j : Nat, j ≤ k ∧ i = .int .i64 j ∧ n = .int .i64 (val (l.take j) : Nat)) (fun _ i => k - (intOf i).toNat)
    case atStart => exact ⟨0, Nat.zero_le _, rfl, rfl⟩
    case round =>
      obtain ⟨j, hj, rfl, rfl⟩ := hrel
      have hv := val_lt HBD.out (j := j) (by omega) (Nat.le_trans hj HK.out)
      by_cases hlt : j < k
      · have hjl : j < l.length := Nat.lt_of_lt_of_le hlt HK.out
        obtain ⟨b, o, rfl, hc, hx⟩ := HS.out.at (i := j) (by rw [HTL.out]; exact hlt)
        have HVT := Lib.hid (val_take hjl)
        rw [List.getElem_take] at hc hx
        obtain ⟨x, hxe⟩ : ∃ x, l[j] = x := ⟨_, rfl⟩
        rw [hxe] at hc hx HVT
        have hv2 := hv.2 (by omega)
        obtain ⟨V, hV⟩ : ∃ V, val (l.take j) = V := ⟨_, rfl⟩
        rw [hV] at hv2 HVT ⊢
        have hor : bits .or .i64 ((V : Int) * 256) (x : Int) = ((V * 256 + x : Nat) : Int) := by
          have := i64_or_nat (V * 256) x (by omega) (by omega)
          rw [or_byte V x hx] at this
          rw [← this]
          congr 1
        have q1 : (j : Int) < (k : Int) := by omega
        clear hv hxe hV hjl
        go_wp2
        go_round
        case rel => exact ⟨j + 1, by omega, by go_num, by rw [HVT.out]; exact congrArg (Value.int .i64) (by omega)⟩
        case measure => simp [intOf]; omega
      · obtain rfl : j = k := by omega
        have q1 : ¬ (j : Int) < (j : Int) := by omega
        obtain ⟨V, hV⟩ : ∃ V, val (l.take j) = V := ⟨_, rfl⟩
        rw [hV] at HR hv ⊢
        have hv1 := hv.1
        obtain ⟨b, hb⟩ : ∃ b, (decide ((V : Int) < least) || decide (most < (V : Int))) = b := ⟨_, rfl⟩
        rw [hb] at HR
        have HFB := Lib.hid (HF.out b)
        clear hv hV
        have hcase : ((V : Int) < least ∧ b = true) ∨ (least ≤ (V : Int) ∧ most < (V : Int) ∧ b = true) ∨ (least ≤ (V : Int) ∧ (V : Int) ≤ most ∧ b = false) := by
          rw [← hb]
          by_cases a1 : (V : Int) < least
          · exact .inl ⟨a1, by simp [a1]⟩
          · by_cases a2 : most < (V : Int)
            · exact .inr (.inl ⟨by omega, a2, by simp [a2]⟩)
            · exact .inr (.inr ⟨by omega, by omega, by simp [a1, a2]⟩)
        clear hb
        rcases hcase with ⟨a1, rfl⟩ | ⟨a1, a2, rfl⟩ | ⟨a1, a2, rfl⟩
        · have d1 : decide ((V : Int) < least) = true := by simpa using a1
          go_wp2
          go_ret
          exact ⟨.int .i64 V, V, _, _, rfl, fun _ _ => ⟨rfl, by omega, by omega⟩, HT.out.trans HFB.out.2 (Grown.refl _ _), ⟨A, C, HFB.out.1⟩, HR.out⟩
        · have d1 : decide ((V : Int) < least) = false := by simpa using a1
          have d2 : decide (most < (V : Int)) = true := by simpa using a2
          go_wp2
          go_ret
          exact ⟨.int .i64 V, V, _, _, rfl, fun _ _ => ⟨rfl, by omega, by omega⟩, HT.out.trans HFB.out.2 (Grown.refl _ _), ⟨A, C, HFB.out.1⟩, HR.out⟩
        · have d1 : decide ((V : Int) < least) = false := by simpa using a1
          have d2 : decide (most < (V : Int)) = false := by simpa using a2
          go_wp2
          go_ret
          exact ⟨.int .i64 V, V, _, _, rfl, fun _ _ => ⟨rfl, by omega, by omega⟩, HT.out.trans HFB.out.2 (Grown.refl _ _), ⟨A, C, HFB.out.1⟩, HR.out⟩
theorem rnumC {w : World} {p : Nat} {l : List Nat} {bad : Bool} (h : Rd w p l bad) :
    Calls Try.prog 38 #[.pointer (some ⟨p, 0, none⟩)] w (Red IntV okNum numE w p l bad) := by
  have H := Lib.hid h
  clear h
  go_enter Try.func38, Try.ntmps38
  go_wp2_with fail
  refine (getC H.out 0 1073741824 4 (by unfold Most; omega) (by omega) (by omega)).mono ?_
  rintro e w2 ⟨V, x, l', bad', rfl, hs, ht, hr, hd⟩
  have HX := Lib.hid (show Red IntV okNum numE w p l bad (.returned V) w2 from ⟨V, x, l', bad', rfl, hs, ht, hr, hd⟩)
  obtain ⟨rfl, -⟩ := hs.here
  clear hs ht hr hd
  go_wp2
  go_ret
  exact HX.out
end Go.Proofs.Ytjhlcddmpkalfaa.Rec
