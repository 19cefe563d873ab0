/- The program's line of a step, whole. -/
import Derived.Test.YtegnheonncoodaaDoorScLine
import Derived.Lib.ItoaLen
namespace Go.Proofs.YtegnheonncoodaaDoor.Scr
set_option linter.unusedVariables false
open Go.ChangeShapes Go.WideShapes Go.ChangeAt Go.RowKit
open Go.Mem Sc
theorem strOfNums_nums (l : List UInt8) : strOfNums ((nums l).map fun x : Nat => (x : Int)) = str l := by
  refine ByteArray.ext ?_
  apply Array.ext'
  rw [strOfNums_data]
  unfold nums str
  rw [List.map_map, List.map_map]
  conv => rhs; rw [← List.map_id l]
  refine List.map_congr_left fun x _ => ?_
  simp
/-- string(b) -/
theorem bytes_str {w : World} {A : Option Addr} {N C : Nat} {l : List UInt8} (h : Bytes w (.slice A N C) (nums l)) :
    (convert 33 9 (.slice A N C)).run Tryd.prog w = .ok (.string (str l)) w := by
  obtain ⟨_, _, e, _⟩ := h.shape
  cases e
  cases A with
  | none =>
    have h0 : (nums l).length = 0 := by
      rcases Nat.eq_zero_or_pos (nums l).length with x | x
      · exact x
      · obtain ⟨_, _, e, _⟩ := h.at x
        cases e
    have : l = [] := List.length_eq_zero_iff.1 (by rw [nums_len] at h0; exact h0)
    subst this
    exact run_convert_bytes_nil w 33 5 Tryd.underlying33 Tryd.underlying5 _ _ 9 Tryd.underlying9
  | some a =>
    rcases Nat.eq_zero_or_pos (nums l).length with x | x
    · have : l = [] := List.length_eq_zero_iff.1 (by rw [nums_len] at x; exact x)
      subst this
      rw [run_convert_bytes_string w 33 9 5 _ _ _ Tryd.underlying33 Tryd.underlying5 Tryd.underlying9]
      exact run_bytesToString w a _ _ [] rfl
    · obtain ⟨b, o, e, _⟩ := h.at x
      cases e
      have := run_convert_bytes_arg w 33 5 Tryd.underlying33 Tryd.underlying5 b o (nums l).length C ((nums l).map fun x : Nat => (x : Int)) (by simp) (fun i hi => by
        rw [(h.here hi).1]
        simp [List.getD, hi]) 9 Tryd.underlying9
      rw [this, strOfNums_nums]
theorem lineOf_eq (x : SD) : (Lib.itoa x.kind ++ 32 :: (Lib.itoa x.a ++ 32 :: (Lib.decDigits x.keep ++ 32 :: (dig x.key ++ 32 :: dig x.data)))) ++ [10] = lineOf x := by simp [lineOf]
theorem itoa_len (n : Int) (h : I6 n) : (Lib.itoa n).length ≤ 21 := Lib.itoa_length_le n h.1 h.2
theorem dec_len (n : Nat) (h : n < 18446744073709551616) : (Lib.decDigits n).length ≤ 20 := by
  rw [Lib.decDigits_length]
  by_cases h1 : 1 ≤ n
  · have := Lib.numDigits_eq n h1 h; split at this <;> omega
  · have : n = 0 := by omega
    subst this
    rw [Lib.nDigits_small (by omega)]
    omega
def Small (x : SD) : Prop := x.key.length ≤ 1000000 ∧ x.data.length ≤ 1000000
set_option maxHeartbeats 8000000 in
theorem writeC (x : SD) (hx : x.Ok) (hs : Small x) (A : Option Addr) (C : Nat) (w : World) (hB : Bytes w (.slice A x.data.length C) (nums x.data)) (hT : Tabs w) : Calls Tryd.prog 14 #[stepVal x A C] w fun e w' => e = .returned (.string (str (lineOf x))) ∧ Below w.heap.size w w' := by
  obtain ⟨wb, hwb⟩ : ∃ wb, w.alloc (.cells #[.int .i64 x.kind, .int .i64 x.a, .string (str x.key), .slice A x.data.length C, .int .u64 (x.keep : Nat)] TStep) = wb := ⟨_, rfl⟩
  have hbw : Below w.heap.size w wb := by rw [← hwb]; exact (Below.refl _ _).alloc (Nat.le_refl _) _
  have hsz : wb.heap.size = w.heap.size + 1 := by rw [← hwb]; simp
  have hrow := row_of w #[.int .i64 x.kind, .int .i64 x.a, .string (str x.key), .slice A x.data.length C, .int .u64 (x.keep : Nat)] TStep
  rw [hwb] at hrow
  have k0 : wb.cell? ⟨w.heap.size, 0, none⟩ = some (.int .i64 x.kind) := hrow.cell (i := 0) (by simp)
  have k1 : wb.cell? ⟨w.heap.size, 1, none⟩ = some (.int .i64 x.a) := hrow.cell (i := 1) (by simp)
  have k2 : wb.cell? ⟨w.heap.size, 2, none⟩ = some (.string (str x.key)) := hrow.cell (i := 2) (by simp)
  have k3 : wb.cell? ⟨w.heap.size, 3, none⟩ = some (.slice A x.data.length C) := hrow.cell (i := 3) (by simp)
  have k4 : wb.cell? ⟨w.heap.size, 4, none⟩ = some (.int .u64 (x.keep : Nat)) := hrow.cell (i := 4) (by simp)
  have HK : Hid (∀ w', Below wb.heap.size wb w' → (Below wb.heap.size wb w' ∧ w'.cell? ⟨w.heap.size, 0, none⟩ = some (.int .i64 x.kind) ∧ w'.cell? ⟨w.heap.size, 1, none⟩ = some (.int .i64 x.a) ∧ w'.cell? ⟨w.heap.size, 2, none⟩ = some (.string (str x.key)) ∧ w'.cell? ⟨w.heap.size, 3, none⟩ = some (.slice A x.data.length C) ∧ w'.cell? ⟨w.heap.size, 4, none⟩ = some (.int .u64 (x.keep : Nat)) ∧ (convert 33 9 (.slice A x.data.length C)).run Tryd.prog w' = .ok (.string (str x.data)) w')) :=
    fun w' hb => ⟨hb, below_cell hb _ _ k0, below_cell hb _ _ k1, below_cell hb _ _ k2, below_cell hb _ _ k3, below_cell hb _ _ k4, bytes_str ((hB.below hbw).below hb)⟩
  have HTT : Hid (∀ w', Below wb.heap.size wb w' → Tabs w') := fun w' hb => (hT.below hbw).below hb
  have HIT : Hid (∀ w' z, I6 z → Below wb.heap.size wb w' → Calls Tryd.prog 23 #[.int .i64 z] w' fun e w'' => e = .returned (.string (str (Lib.itoa z))) ∧ Below wb.heap.size wb w'') := fun w' z hz hb => (itoaC _ hz _ (HTT.out _ hb)).mono fun _ _ h => ⟨h.1, hb.trans (h.2.mono hb.size)⟩
  have HFM : Hid (∀ w', Below wb.heap.size wb w' → Calls Tryd.prog 24 #[.int .u64 (x.keep : Nat), .int .i64 10] w' fun e w'' => e = .returned (.string (str (Lib.decDigits x.keep))) ∧ Below wb.heap.size wb w'') := fun w' hb => (fmtC _ hx.p _ (HTT.out _ hb)).mono fun _ _ h => ⟨h.1, hb.trans (h.2.mono hb.size)⟩
  have HDG : Hid (∀ w' l, l.length ≤ 1000000 → Below wb.heap.size wb w' → Calls Tryd.prog 25 #[.string (str l)] w' fun e w'' => e = .returned (.string (str (dig l))) ∧ Below wb.heap.size wb w'') := fun w' l hl hb => (digitsC l hl w').mono fun _ _ h => ⟨h.1, hb.trans (h.2.mono hb.size)⟩
  have HLN : Hid (∀ w', Below wb.heap.size wb w' → Calls Tryd.prog 22 #[.slice (some ⟨w'.heap.size, 0, none⟩) 5 5] (w'.alloc (.cells #[.string (str (Lib.itoa x.kind)), .string (str (Lib.itoa x.a)), .string (str (Lib.decDigits x.keep)), .string (str (dig x.key)), .string (str (dig x.data))] 9)) fun e w'' => e = .returned (.string (str (lineOf x))) ∧ Below wb.heap.size wb w'') := fun w' hb => by
    have hal : Below wb.heap.size wb (w'.alloc (.cells #[.string (str (Lib.itoa x.kind)), .string (str (Lib.itoa x.a)), .string (str (Lib.decDigits x.keep)), .string (str (dig x.key)), .string (str (dig x.data))] 9)) := hb.alloc hb.size _
    have hr := row_of w' #[.string (str (Lib.itoa x.kind)), .string (str (Lib.itoa x.a)), .string (str (Lib.decDigits x.keep)), .string (str (dig x.key)), .string (str (dig x.data))] 9
    have h1 := itoa_len x.kind hx.k
    have h2 := itoa_len x.a hx.a
    have h3 := dec_len x.keep hx.p
    have h4 := dig_len x.key
    have h5 := dig_len x.data
    have g1 : x.key.length ≤ 1000000 := hs.1
    have g2 : x.data.length ≤ 1000000 := hs.2
    refine (lineC (Lib.itoa x.kind) (Lib.itoa x.a) (Lib.decDigits x.keep) (dig x.key) (dig x.data) (by omega) w'.heap.size 5 _ (Nat.le_refl _) (fun j y hj => ?_) (by simp)).mono fun e w'' ⟨he, hb2⟩ => ⟨?_, hal.trans (hb2.mono hal.size)⟩
    · have hj5 : j < 5 := by
        rcases Nat.lt_or_ge j 5 with q | q
        · exact q
        · rw [List.getElem?_eq_none (by simp [strs]; omega)] at hj; cases hj
      rw [Nat.zero_add, hr.cell (i := j) (by simpa using hj5)]
      match j, hj5, hj with
      | 0, _, hj => rw [← Option.some.inj hj]; rfl
      | 1, _, hj => rw [← Option.some.inj hj]; rfl
      | 2, _, hj => rw [← Option.some.inj hj]; rfl
      | 3, _, hj => rw [← Option.some.inj hj]; rfl
      | 4, _, hj => rw [← Option.some.inj hj]; rfl
    · rw [he, lineOf_eq]
  have HX := Lib.hid hx
  have HSK := Lib.hid hs.1
  have HSD := Lib.hid hs.2
  have HIK := Lib.hid hx.k
  have HIA := Lib.hid hx.a
  have HBW := Lib.hid hbw
  have hd0 : Below wb.heap.size wb wb.drew := below_drewN _ wb 1
  clear hrow hsz hbw k0 k1 k2 k3 k4 hB hT hx hs
  unfold stepVal
  go_enter Tryd.func14, Tryd.ntmps14
  go_wp2_with fail
  clear hwb
  go_region_held3 (fun w' => (Below wb.heap.size wb w' ∧ w'.cell? ⟨w.heap.size, 0, none⟩ = some (.int .i64 x.kind) ∧ w'.cell? ⟨w.heap.size, 1, none⟩ = some (.int .i64 x.a) ∧ w'.cell? ⟨w.heap.size, 2, none⟩ = some (.string (str x.key)) ∧ w'.cell? ⟨w.heap.size, 3, none⟩ = some (.slice A x.data.length C) ∧ w'.cell? ⟨w.heap.size, 4, none⟩ = some (.int .u64 (x.keep : Nat)) ∧ (convert 33 9 (.slice A x.data.length C)).run Tryd.prog w' = .ok (.string (str x.data)) w'))
    (first | exact HK.out _ hd7 | exact HK.out _ hd6 | exact HK.out _ hd5 | exact HK.out _ hd4 | exact HK.out _ hd3 | exact HK.out _ hd2 | exact HK.out _ hd1 | exact HK.out _ hd0)
    (first
      | (go_at_call 23; (with_reducible refine (HIT.out _ x.kind HIK.out hd0).mono ?_); rintro _ w1 ⟨rfl, hd1⟩)
      | (go_at_call 23; (with_reducible refine (HIT.out _ x.a HIA.out hd1).mono ?_); rintro _ w2 ⟨rfl, hd2⟩)
      | (go_at_call 24; (with_reducible refine (HFM.out _ hd2).mono ?_); rintro _ w3 ⟨rfl, hd3⟩)
      | (go_at_call 25; (with_reducible refine (HDG.out _ x.key HSK.out hd3).mono ?_); rintro _ w4 ⟨rfl, hd4⟩)
      | (go_at_call 25; (with_reducible refine (HDG.out _ x.data HSD.out hd4).mono ?_); rintro _ w5 ⟨rfl, hd5⟩; have hd6 := hd5.alloc hd5.size (.cells #[.string (str (Lib.itoa x.kind)), .string (str (Lib.itoa x.a)), .string (str (Lib.decDigits x.keep)), .string (str (dig x.key)), .string (str (dig x.data))] 9))
      | (go_at_call 22; (with_reducible refine (HLN.out _ hd5).mono ?_); rintro _ w6 ⟨rfl, hd7⟩))
  go_wp2
  go_ret
  exact ⟨rfl, HBW.out.trans (hd7.mono HBW.out.size)⟩
end Go.Proofs.YtegnheonncoodaaDoor.Scr
