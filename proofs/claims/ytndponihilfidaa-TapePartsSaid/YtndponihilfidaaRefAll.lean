/- The document's side of a tape, with what is loose, as a walk. -/
import Derived.Test.YtndponihilfidaaRows
import Derived.Test.YtndponihilfidaaTpMem
import Derived.Test.YtndponihilfidaaZeros
import Derived.Test.YtndponihilfidaaAppSrc
import Derived.Deep.Cut
import Derived.Deep.RegionLaw
namespace Go.Proofs.Ytndponihilfidaa.Tape
set_option linter.unusedVariables false
open Go.ChangeShapes Go.WideShapes Go.ChangeAt Go.RowKit
open Go.Mem Tp
theorem infoByte' : (Try.prog.info? 5).map (fun i => (i.zero, i.size, i.bytes)) = some (some (.int .u8 0), 1, 1) := by kernel_rfl
abbrev sideV (B L : Value) (s : Sd) : Value := .agg #[B, L, .bool s.wet, .bool s.swap, .bool s.lost]
def AllPost (s : Sd) (R : Nat → Prop) (keep : Int) (w : World) (e : Ending) (w' : World) : Prop := ∃ u, e = .returned u ∧ RowIn (fun b => R b ∨ w.heap.size ≤ b) w' u (s.all keep) ∧ Below w.heap.size w w'
theorem tmod2 (k : Int) : (k.tmod 2 == 0) = decide (k % 2 = 0) := by
  have : k.tmod 2 = 0 ↔ k % 2 = 0 := by
    rw [Int.tmod_eq_emod]
    split <;> omega
  by_cases h : k % 2 = 0
  · rw [decide_eq_true h, beq_iff_eq]; exact this.2 h
  · rw [decide_eq_false h, beq_eq_false_iff_ne]; exact fun q => h (this.1 q)
theorem row_below {R : Nat → Prop} {w w' : World} {v : Value} {l : List Nat} (h : RowIn R w v l) (hb : Below w.heap.size w w') : RowIn (fun b => R b ∨ w.heap.size ≤ b) w' v l :=
  ⟨h.1.below hb, fun a n C e hn => .inl (h.2 a n C e hn)⟩
theorem row_take {R : Nat → Prop} {w : World} {A : Option Addr} {n C j : Nat} {l : List Nat} (h : RowIn R w (.slice A n C) l) (hj : j ≤ l.length) : RowIn R w (.slice A j C) (l.take j) := by
  obtain ⟨h1, h2⟩ := h
  refine ⟨h1.take hj, fun a m C' e hm => ?_⟩
  cases e
  obtain ⟨A', n', C'', e1, e2, e3⟩ := h1
  cases e1
  exact h2 a n C rfl (by omega)
set_option maxHeartbeats 1000000 in
theorem all_dry_true (b l : List Nat) (x : Bool) (B L : Value) (R : Nat → Prop) (w : World) (hB : RowIn R w B b) (hL : RowIn R w L l) (keep : Int) (lk : -9223372036854775808 ≤ keep) (uk : keep ≤ 9223372036854775807) (hb : b.length ≤ 1000000) (hl : l.length ≤ 1000000) :
    Calls Try.prog 19 #[.agg #[B, L, .bool false, .bool true, .bool x], .int .i64 keep] w (AllPost ⟨b, l, false, true, x⟩ R keep w) := by
  obtain ⟨A1, C1, rfl, h1, h2, -⟩ := hB.1.shape
  obtain ⟨A2, C2, rfl, k1, k2, -⟩ := hL.1.shape
  obtain ⟨n1, hn1⟩ : ∃ n, b.length = n := ⟨_, rfl⟩
  obtain ⟨n2, hn2⟩ : ∃ n, l.length = n := ⟨_, rfl⟩
  rw [hn1] at hB h1 hb ⊢
  rw [hn2] at hL k1 hl ⊢
  have HN1 := Lib.hid hn1
  have HN2 := Lib.hid hn2
  have HB := Lib.hid hB
  have HL := Lib.hid hL
  clear hB hL hn1 hn2
  have HBE := Lib.hid (fun c : Array Value => ((Below.refl _ _).alloc (Nat.le_refl _) _ : Below w.heap.size w (w.alloc (.cells c 29))))
  go_enter Try.func19, Try.ntmps19
  go_wp2
  go_ret
  exact ⟨_, rfl, row_below HB.out (HBE.out _), HBE.out _⟩
set_option maxHeartbeats 1000000 in
theorem all_dry_false (b l : List Nat) (x : Bool) (B L : Value) (R : Nat → Prop) (w : World) (hB : RowIn R w B b) (hL : RowIn R w L l) (keep : Int) (lk : -9223372036854775808 ≤ keep) (uk : keep ≤ 9223372036854775807) (hb : b.length ≤ 1000000) (hl : l.length ≤ 1000000) :
    Calls Try.prog 19 #[.agg #[B, L, .bool false, .bool false, .bool x], .int .i64 keep] w (AllPost ⟨b, l, false, false, x⟩ R keep w) := by
  obtain ⟨A1, C1, rfl, h1, h2, -⟩ := hB.1.shape
  obtain ⟨A2, C2, rfl, k1, k2, -⟩ := hL.1.shape
  obtain ⟨n1, hn1⟩ : ∃ n, b.length = n := ⟨_, rfl⟩
  obtain ⟨n2, hn2⟩ : ∃ n, l.length = n := ⟨_, rfl⟩
  rw [hn1] at hB h1 hb ⊢
  rw [hn2] at hL k1 hl ⊢
  have HN1 := Lib.hid hn1
  have HN2 := Lib.hid hn2
  have HB := Lib.hid hB
  have HL := Lib.hid hL
  clear hB hL hn1 hn2
  have HBE := Lib.hid (fun c : Array Value => ((Below.refl _ _).alloc (Nat.le_refl _) _ : Below w.heap.size w (w.alloc (.cells c 29))))
  go_enter Try.func19, Try.ntmps19
  go_wp2
  go_ret
  exact ⟨_, rfl, row_below HB.out (HBE.out _), HBE.out _⟩
set_option maxHeartbeats 1000000 in
theorem all_even (b l : List Nat) (x : Bool) (B L : Value) (R : Nat → Prop) (w : World) (hB : RowIn R w B b) (hL : RowIn R w L l) (keep : Int) (lk : -9223372036854775808 ≤ keep) (uk : keep ≤ 9223372036854775807) (hb : b.length ≤ 1000000) (hl : l.length ≤ 1000000) (hk : keep % 2 = 0) :
    Calls Try.prog 19 #[.agg #[B, L, .bool true, .bool true, .bool x], .int .i64 keep] w (AllPost ⟨b, l, true, true, x⟩ R keep w) := by
  obtain ⟨A1, C1, rfl, h1, h2, -⟩ := hB.1.shape
  obtain ⟨A2, C2, rfl, k1, k2, -⟩ := hL.1.shape
  obtain ⟨n1, hn1⟩ : ∃ n, b.length = n := ⟨_, rfl⟩
  obtain ⟨n2, hn2⟩ : ∃ n, l.length = n := ⟨_, rfl⟩
  rw [hn1] at hB h1 hb ⊢
  rw [hn2] at hL k1 hl ⊢
  have HN1 := Lib.hid hn1
  have HN2 := Lib.hid hn2
  have HB := Lib.hid hB
  have HL := Lib.hid hL
  clear hB hL hn1 hn2
  have HBE := Lib.hid (fun c : Array Value => ((Below.refl _ _).alloc (Nat.le_refl _) _ : Below w.heap.size w (w.alloc (.cells c 29))))
  have hd : (keep.tmod 2 == 0) = true := by rw [tmod2]; simpa using hk
  have HE := Lib.hid (show Sd.all ⟨b, l, true, true, x⟩ keep = b from (show Sd.all ⟨b, l, true, true, x⟩ keep = if keep % 2 = 0 then b else l from rfl).trans (if_pos hk))
  clear hk
  go_enter Try.func19, Try.ntmps19
  go_wp2
  go_ret
  exact ⟨_, rfl, by rw [HE.out]; exact row_below HB.out (HBE.out _), HBE.out _⟩
set_option maxHeartbeats 1000000 in
theorem all_odd (b l : List Nat) (x : Bool) (B L : Value) (R : Nat → Prop) (w : World) (hB : RowIn R w B b) (hL : RowIn R w L l) (keep : Int) (lk : -9223372036854775808 ≤ keep) (uk : keep ≤ 9223372036854775807) (hb : b.length ≤ 1000000) (hl : l.length ≤ 1000000) (hk : ¬ keep % 2 = 0) :
    Calls Try.prog 19 #[.agg #[B, L, .bool true, .bool true, .bool x], .int .i64 keep] w (AllPost ⟨b, l, true, true, x⟩ R keep w) := by
  obtain ⟨A1, C1, rfl, h1, h2, -⟩ := hB.1.shape
  obtain ⟨A2, C2, rfl, k1, k2, -⟩ := hL.1.shape
  obtain ⟨n1, hn1⟩ : ∃ n, b.length = n := ⟨_, rfl⟩
  obtain ⟨n2, hn2⟩ : ∃ n, l.length = n := ⟨_, rfl⟩
  rw [hn1] at hB h1 hb ⊢
  rw [hn2] at hL k1 hl ⊢
  have HN1 := Lib.hid hn1
  have HN2 := Lib.hid hn2
  have HB := Lib.hid hB
  have HL := Lib.hid hL
  clear hB hL hn1 hn2
  have HBE := Lib.hid (fun c : Array Value => ((Below.refl _ _).alloc (Nat.le_refl _) _ : Below w.heap.size w (w.alloc (.cells c 29))))
  have hd : (keep.tmod 2 == 0) = false := by rw [tmod2]; simpa using hk
  have HE := Lib.hid (show Sd.all ⟨b, l, true, true, x⟩ keep = l from (show Sd.all ⟨b, l, true, true, x⟩ keep = if keep % 2 = 0 then b else l from rfl).trans (if_neg hk))
  clear hk
  go_enter Try.func19, Try.ntmps19
  go_wp2
  go_ret
  exact ⟨_, rfl, by rw [HE.out]; exact row_below HL.out (HBE.out _), HBE.out _⟩
set_option maxHeartbeats 1000000 in
theorem all_neg (b l : List Nat) (x : Bool) (B L : Value) (R : Nat → Prop) (w : World) (hB : RowIn R w B b) (hL : RowIn R w L l) (keep : Int) (lk : -9223372036854775808 ≤ keep) (uk : keep ≤ 9223372036854775807) (hb : b.length ≤ 1000000) (hl : l.length ≤ 1000000) (hk : keep < 0) (hz : 0 < l.length) :
    Calls Try.prog 19 #[.agg #[B, L, .bool true, .bool false, .bool x], .int .i64 keep] w (AllPost ⟨b, l, true, false, x⟩ R keep w) := by
  obtain ⟨A1, C1, rfl, h1, h2, -⟩ := hB.1.shape
  obtain ⟨A2, C2, rfl, k1, k2, -⟩ := hL.1.shape
  obtain ⟨n1, hn1⟩ : ∃ n, b.length = n := ⟨_, rfl⟩
  obtain ⟨n2, hn2⟩ : ∃ n, l.length = n := ⟨_, rfl⟩
  rw [hn1] at hB h1 hb ⊢
  rw [hn2] at hL k1 hl ⊢
  have HN1 := Lib.hid hn1
  have HN2 := Lib.hid hn2
  have HB := Lib.hid hB
  have HL := Lib.hid hL
  clear hB hL hn1 hn2
  have HBE := Lib.hid (fun c : Array Value => ((Below.refl _ _).alloc (Nat.le_refl _) _ : Below w.heap.size w (w.alloc (.cells c 29))))
  rw [HN2.out] at hz
  have hd : decide (keep < 0) = true := by simpa using hk
  have hd2 : decide ((0 : Int) < (n2 : Int)) = true := by simp; omega
  have hd3 : decide (0 < n2) = true := by simpa using hz
  have HE := Lib.hid (show Sd.all ⟨b, l, true, false, x⟩ keep = b ++ l.take 0 by rw [show Sd.all ⟨b, l, true, false, x⟩ keep = b ++ l.take (keep : Int).toNat from rfl]; rw [show keep.toNat = 0 by omega])
  have q0 : (0 : Int) ≤ (C2 : Int) := by omega
  clear hk hz
  obtain ⟨wb, hwb⟩ : ∃ wb, wb = w.alloc (.cells #[.slice A1 n1 C1, .slice A2 n2 C2, .bool true, .bool false, .bool x] 29) := ⟨_, rfl⟩
  have HWB := Lib.hid (show Below w.heap.size w wb from hwb ▸ HBE.out _)
  have HE0 := Lib.hid (show Built ByteR (wb.alloc (.cells #[] 5)) wb.heap.size 5 (.slice (some ⟨wb.heap.size, 0, none⟩) 0 0) [] from built_none wb (Nat.le_refl _))
  have HX0 := Lib.hid (show Below wb.heap.size wb (wb.alloc (.cells #[] 5)) from (Below.refl _ _).alloc (Nat.le_refl _) _)
  have HW0 := Lib.hid (HWB.out.trans (HX0.out.mono HWB.out.size))
  obtain ⟨v4, w4, hr4, hbu4, hg4, hb4, hat4⟩ := run_append_src (P := Try.prog) (wb.alloc (.cells #[] 5)) wb.heap.size 27 27 27 5 Try.underlying27 infoByte' _ _ HE0.out _ _ (BSrc.ofBytes Try.underlying27 (HB.out.1.below HW0.out)) (by rw [HN1.out]; simp only [List.length_nil, Nat.zero_add]; omega) HX0.out.size
  have HX4 := Lib.hid (HX0.out.trans hb4)
  have HW4 := Lib.hid (HWB.out.trans (HX4.out.mono HWB.out.size))
  obtain ⟨v5, w5, hr5, hbu5, hg5, hb5, hat5⟩ := run_append_src (P := Try.prog) w4 wb.heap.size 27 27 27 5 Try.underlying27 infoByte' _ _ hbu4 (.slice A2 0 C2) (l.take 0) (BSrc.ofBytes Try.underlying27 ((row_take HL.out (j := 0) (by rw [HN2.out]; omega)).1.below HW4.out)) (by rw [List.nil_append, HN1.out, List.length_take]; omega) HX4.out.size
  have HX5 := Lib.hid (HX4.out.trans hb5)
  have HW5 := Lib.hid (HWB.out.trans (HX5.out.mono HWB.out.size))
  have HU := Lib.hid (show RowIn (fun b => R b ∨ w.heap.size ≤ b) w5 v5 (b ++ l.take 0) from hbu5.rowIn (fun b hb => .inr (Nat.le_trans HWB.out.size (hbu5.own_lt b hb).1)))
  have hc0 : wb.cell? ⟨w.heap.size, 0, none⟩ = some (.slice A1 n1 C1) := by rw [hwb, cell_of_row _ _ _ _ _ _ (heap_alloc_new w _)]; rfl
  have hc1 : (wb.alloc (.cells #[] 5)).cell? ⟨w.heap.size, 0, none⟩ = some (.slice A1 n1 C1) := below_cell HX0.out _ _ hc0
  have HR4 := Lib.hid hr4
  have HR5 := Lib.hid hr5
  clear hr4 hbu4 hg4 hb4 hat4 hr5 hbu5 hg5 hb5 hat5
  go_enter Try.func19, Try.ntmps19
  go_upto_region 12 with (fail)
  rw [← hwb]
  clear hwb
  go_wp2_with (first
    | (at_builtin; refine Lib.wpList_append_run _ rfl (.tmp 30) (.tmp 32) _ _ rfl _ _ rfl rfl _ _ HR4.out ?_)
    | (at_builtin; refine Lib.wpList_append_run _ rfl (.tmp 33) (.tmp 34) _ _ rfl _ _ rfl rfl _ _ HR5.out ?_))
  go_ret
  exact ⟨_, rfl, by rw [HE.out]; exact HU.out, HW5.out⟩
set_option maxHeartbeats 1000000 in
theorem all_neg0 (b l : List Nat) (x : Bool) (B L : Value) (R : Nat → Prop) (w : World) (hB : RowIn R w B b) (hL : RowIn R w L l) (keep : Int) (lk : -9223372036854775808 ≤ keep) (uk : keep ≤ 9223372036854775807) (hb : b.length ≤ 1000000) (hl : l.length ≤ 1000000) (hk : keep < 0) (hz : l.length = 0) :
    Calls Try.prog 19 #[.agg #[B, L, .bool true, .bool false, .bool x], .int .i64 keep] w (AllPost ⟨b, l, true, false, x⟩ R keep w) := by
  obtain ⟨A1, C1, rfl, h1, h2, -⟩ := hB.1.shape
  obtain ⟨A2, C2, rfl, k1, k2, -⟩ := hL.1.shape
  obtain ⟨n1, hn1⟩ : ∃ n, b.length = n := ⟨_, rfl⟩
  obtain ⟨n2, hn2⟩ : ∃ n, l.length = n := ⟨_, rfl⟩
  rw [hn1] at hB h1 hb ⊢
  rw [hn2] at hL k1 hl ⊢
  have HN1 := Lib.hid hn1
  have HN2 := Lib.hid hn2
  have HB := Lib.hid hB
  have HL := Lib.hid hL
  clear hB hL hn1 hn2
  have HBE := Lib.hid (fun c : Array Value => ((Below.refl _ _).alloc (Nat.le_refl _) _ : Below w.heap.size w (w.alloc (.cells c 29))))
  rw [HN2.out] at hz
  have hd : decide (keep < 0) = true := by simpa using hk
  have hd2 : decide ((0 : Int) < (n2 : Int)) = false := by simp; omega
  have hd3 : decide (0 < n2) = false := by simp; omega
  have HE := Lib.hid (show Sd.all ⟨b, l, true, false, x⟩ keep = b ++ l.take n2 by rw [show Sd.all ⟨b, l, true, false, x⟩ keep = b ++ l.take (keep : Int).toNat from rfl]; rw [show keep.toNat = 0 by omega, show n2 = 0 by omega])
  clear hk hz
  obtain ⟨wb, hwb⟩ : ∃ wb, wb = w.alloc (.cells #[.slice A1 n1 C1, .slice A2 n2 C2, .bool true, .bool false, .bool x] 29) := ⟨_, rfl⟩
  have HWB := Lib.hid (show Below w.heap.size w wb from hwb ▸ HBE.out _)
  have HE0 := Lib.hid (show Built ByteR (wb.alloc (.cells #[] 5)) wb.heap.size 5 (.slice (some ⟨wb.heap.size, 0, none⟩) 0 0) [] from built_none wb (Nat.le_refl _))
  have HX0 := Lib.hid (show Below wb.heap.size wb (wb.alloc (.cells #[] 5)) from (Below.refl _ _).alloc (Nat.le_refl _) _)
  have HW0 := Lib.hid (HWB.out.trans (HX0.out.mono HWB.out.size))
  obtain ⟨v4, w4, hr4, hbu4, hg4, hb4, hat4⟩ := run_append_src (P := Try.prog) (wb.alloc (.cells #[] 5)) wb.heap.size 27 27 27 5 Try.underlying27 infoByte' _ _ HE0.out _ _ (BSrc.ofBytes Try.underlying27 (HB.out.1.below HW0.out)) (by rw [HN1.out]; simp only [List.length_nil, Nat.zero_add]; omega) HX0.out.size
  have HX4 := Lib.hid (HX0.out.trans hb4)
  have HW4 := Lib.hid (HWB.out.trans (HX4.out.mono HWB.out.size))
  obtain ⟨v5, w5, hr5, hbu5, hg5, hb5, hat5⟩ := run_append_src (P := Try.prog) w4 wb.heap.size 27 27 27 5 Try.underlying27 infoByte' _ _ hbu4 (.slice A2 n2 C2) (l.take n2) (BSrc.ofBytes Try.underlying27 ((row_take HL.out (j := n2) (by rw [HN2.out]; omega)).1.below HW4.out)) (by rw [List.nil_append, HN1.out, List.length_take]; omega) HX4.out.size
  have HX5 := Lib.hid (HX4.out.trans hb5)
  have HW5 := Lib.hid (HWB.out.trans (HX5.out.mono HWB.out.size))
  have HU := Lib.hid (show RowIn (fun b => R b ∨ w.heap.size ≤ b) w5 v5 (b ++ l.take n2) from hbu5.rowIn (fun b hb => .inr (Nat.le_trans HWB.out.size (hbu5.own_lt b hb).1)))
  have hc0 : wb.cell? ⟨w.heap.size, 0, none⟩ = some (.slice A1 n1 C1) := by rw [hwb, cell_of_row _ _ _ _ _ _ (heap_alloc_new w _)]; rfl
  have hc1 : (wb.alloc (.cells #[] 5)).cell? ⟨w.heap.size, 0, none⟩ = some (.slice A1 n1 C1) := below_cell HX0.out _ _ hc0
  have HR4 := Lib.hid hr4
  have HR5 := Lib.hid hr5
  clear hr4 hbu4 hg4 hb4 hat4 hr5 hbu5 hg5 hb5 hat5
  go_enter Try.func19, Try.ntmps19
  go_upto_region 12 with (fail)
  rw [← hwb]
  clear hwb
  go_wp2_with (first
    | (at_builtin; refine Lib.wpList_append_run _ rfl (.tmp 30) (.tmp 32) _ _ rfl _ _ rfl rfl _ _ HR4.out ?_)
    | (at_builtin; refine Lib.wpList_append_run _ rfl (.tmp 33) (.tmp 34) _ _ rfl _ _ rfl rfl _ _ HR5.out ?_))
  go_ret
  exact ⟨_, rfl, by rw [HE.out]; exact HU.out, HW5.out⟩
set_option maxHeartbeats 1000000 in
theorem all_far (b l : List Nat) (x : Bool) (B L : Value) (R : Nat → Prop) (w : World) (hB : RowIn R w B b) (hL : RowIn R w L l) (keep : Int) (lk : -9223372036854775808 ≤ keep) (uk : keep ≤ 9223372036854775807) (hb : b.length ≤ 1000000) (hl : l.length ≤ 1000000) (hk : (l.length : Int) ≤ keep) :
    Calls Try.prog 19 #[.agg #[B, L, .bool true, .bool false, .bool x], .int .i64 keep] w (AllPost ⟨b, l, true, false, x⟩ R keep w) := by
  obtain ⟨A1, C1, rfl, h1, h2, -⟩ := hB.1.shape
  obtain ⟨A2, C2, rfl, k1, k2, -⟩ := hL.1.shape
  obtain ⟨n1, hn1⟩ : ∃ n, b.length = n := ⟨_, rfl⟩
  obtain ⟨n2, hn2⟩ : ∃ n, l.length = n := ⟨_, rfl⟩
  rw [hn1] at hB h1 hb ⊢
  rw [hn2] at hL k1 hl ⊢
  have HN1 := Lib.hid hn1
  have HN2 := Lib.hid hn2
  have HB := Lib.hid hB
  have HL := Lib.hid hL
  clear hB hL hn1 hn2
  have HBE := Lib.hid (fun c : Array Value => ((Below.refl _ _).alloc (Nat.le_refl _) _ : Below w.heap.size w (w.alloc (.cells c 29))))
  rw [HN2.out] at hk
  have hd : decide (keep < 0) = false := by simp; omega
  have hd2 : decide (keep < (n2 : Int)) = false := by simp; omega
  have HE := Lib.hid (show Sd.all ⟨b, l, true, false, x⟩ keep = b ++ l.take n2 by rw [show Sd.all ⟨b, l, true, false, x⟩ keep = b ++ l.take (keep : Int).toNat from rfl]; rw [List.take_of_length_le (by rw [HN2.out]; omega), List.take_of_length_le (by rw [HN2.out]; omega)])
  clear hk
  obtain ⟨wb, hwb⟩ : ∃ wb, wb = w.alloc (.cells #[.slice A1 n1 C1, .slice A2 n2 C2, .bool true, .bool false, .bool x] 29) := ⟨_, rfl⟩
  have HWB := Lib.hid (show Below w.heap.size w wb from hwb ▸ HBE.out _)
  have HE0 := Lib.hid (show Built ByteR (wb.alloc (.cells #[] 5)) wb.heap.size 5 (.slice (some ⟨wb.heap.size, 0, none⟩) 0 0) [] from built_none wb (Nat.le_refl _))
  have HX0 := Lib.hid (show Below wb.heap.size wb (wb.alloc (.cells #[] 5)) from (Below.refl _ _).alloc (Nat.le_refl _) _)
  have HW0 := Lib.hid (HWB.out.trans (HX0.out.mono HWB.out.size))
  obtain ⟨v4, w4, hr4, hbu4, hg4, hb4, hat4⟩ := run_append_src (P := Try.prog) (wb.alloc (.cells #[] 5)) wb.heap.size 27 27 27 5 Try.underlying27 infoByte' _ _ HE0.out _ _ (BSrc.ofBytes Try.underlying27 (HB.out.1.below HW0.out)) (by rw [HN1.out]; simp only [List.length_nil, Nat.zero_add]; omega) HX0.out.size
  have HX4 := Lib.hid (HX0.out.trans hb4)
  have HW4 := Lib.hid (HWB.out.trans (HX4.out.mono HWB.out.size))
  obtain ⟨v5, w5, hr5, hbu5, hg5, hb5, hat5⟩ := run_append_src (P := Try.prog) w4 wb.heap.size 27 27 27 5 Try.underlying27 infoByte' _ _ hbu4 (.slice A2 n2 C2) (l.take n2) (BSrc.ofBytes Try.underlying27 ((row_take HL.out (j := n2) (by rw [HN2.out]; omega)).1.below HW4.out)) (by rw [List.nil_append, HN1.out, List.length_take]; omega) HX4.out.size
  have HX5 := Lib.hid (HX4.out.trans hb5)
  have HW5 := Lib.hid (HWB.out.trans (HX5.out.mono HWB.out.size))
  have HU := Lib.hid (show RowIn (fun b => R b ∨ w.heap.size ≤ b) w5 v5 (b ++ l.take n2) from hbu5.rowIn (fun b hb => .inr (Nat.le_trans HWB.out.size (hbu5.own_lt b hb).1)))
  have hc0 : wb.cell? ⟨w.heap.size, 0, none⟩ = some (.slice A1 n1 C1) := by rw [hwb, cell_of_row _ _ _ _ _ _ (heap_alloc_new w _)]; rfl
  have hc1 : (wb.alloc (.cells #[] 5)).cell? ⟨w.heap.size, 0, none⟩ = some (.slice A1 n1 C1) := below_cell HX0.out _ _ hc0
  have HR4 := Lib.hid hr4
  have HR5 := Lib.hid hr5
  clear hr4 hbu4 hg4 hb4 hat4 hr5 hbu5 hg5 hb5 hat5
  go_enter Try.func19, Try.ntmps19
  go_upto_region 12 with (fail)
  rw [← hwb]
  clear hwb
  go_wp2_with (first
    | (at_builtin; refine Lib.wpList_append_run _ rfl (.tmp 30) (.tmp 32) _ _ rfl _ _ rfl rfl _ _ HR4.out ?_)
    | (at_builtin; refine Lib.wpList_append_run _ rfl (.tmp 33) (.tmp 34) _ _ rfl _ _ rfl rfl _ _ HR5.out ?_))
  go_ret
  exact ⟨_, rfl, by rw [HE.out]; exact HU.out, HW5.out⟩
set_option maxHeartbeats 1000000 in
theorem all_part (b l : List Nat) (x : Bool) (B L : Value) (R : Nat → Prop) (w : World) (hB : RowIn R w B b) (hL : RowIn R w L l) (keep : Int) (lk : -9223372036854775808 ≤ keep) (uk : keep ≤ 9223372036854775807) (hb : b.length ≤ 1000000) (hl : l.length ≤ 1000000) (h0 : 0 ≤ keep) (hk : keep < (l.length : Int)) :
    Calls Try.prog 19 #[.agg #[B, L, .bool true, .bool false, .bool x], .int .i64 keep] w (AllPost ⟨b, l, true, false, x⟩ R keep w) := by
  obtain ⟨A1, C1, rfl, h1, h2, -⟩ := hB.1.shape
  obtain ⟨A2, C2, rfl, k1, k2, -⟩ := hL.1.shape
  obtain ⟨n1, hn1⟩ : ∃ n, b.length = n := ⟨_, rfl⟩
  obtain ⟨n2, hn2⟩ : ∃ n, l.length = n := ⟨_, rfl⟩
  rw [hn1] at hB h1 hb ⊢
  rw [hn2] at hL k1 hl ⊢
  have HN1 := Lib.hid hn1
  have HN2 := Lib.hid hn2
  have HB := Lib.hid hB
  have HL := Lib.hid hL
  clear hB hL hn1 hn2
  have HBE := Lib.hid (fun c : Array Value => ((Below.refl _ _).alloc (Nat.le_refl _) _ : Below w.heap.size w (w.alloc (.cells c 29))))
  rw [HN2.out] at hk
  obtain ⟨K, rfl⟩ := Int.eq_ofNat_of_zero_le h0
  have hd2 : decide ((K : Int) < (n2 : Int)) = true := by simpa using hk
  have hd3 : decide (K < n2) = true := by simp; omega
  have q0 : (K : Int) ≤ (C2 : Int) := by omega
  have q1 : K ≤ n2 := by omega
  have HE := Lib.hid (show Sd.all ⟨b, l, true, false, x⟩ (K : Int) = b ++ l.take K by rw [show Sd.all ⟨b, l, true, false, x⟩ (K : Int) = b ++ l.take ((K : Int) : Int).toNat from rfl]; rw [Int.toNat_natCast])
  clear hk h0
  obtain ⟨wb, hwb⟩ : ∃ wb, wb = w.alloc (.cells #[.slice A1 n1 C1, .slice A2 n2 C2, .bool true, .bool false, .bool x] 29) := ⟨_, rfl⟩
  have HWB := Lib.hid (show Below w.heap.size w wb from hwb ▸ HBE.out _)
  have HE0 := Lib.hid (show Built ByteR (wb.alloc (.cells #[] 5)) wb.heap.size 5 (.slice (some ⟨wb.heap.size, 0, none⟩) 0 0) [] from built_none wb (Nat.le_refl _))
  have HX0 := Lib.hid (show Below wb.heap.size wb (wb.alloc (.cells #[] 5)) from (Below.refl _ _).alloc (Nat.le_refl _) _)
  have HW0 := Lib.hid (HWB.out.trans (HX0.out.mono HWB.out.size))
  obtain ⟨v4, w4, hr4, hbu4, hg4, hb4, hat4⟩ := run_append_src (P := Try.prog) (wb.alloc (.cells #[] 5)) wb.heap.size 27 27 27 5 Try.underlying27 infoByte' _ _ HE0.out _ _ (BSrc.ofBytes Try.underlying27 (HB.out.1.below HW0.out)) (by rw [HN1.out]; simp only [List.length_nil, Nat.zero_add]; omega) HX0.out.size
  have HX4 := Lib.hid (HX0.out.trans hb4)
  have HW4 := Lib.hid (HWB.out.trans (HX4.out.mono HWB.out.size))
  obtain ⟨v5, w5, hr5, hbu5, hg5, hb5, hat5⟩ := run_append_src (P := Try.prog) w4 wb.heap.size 27 27 27 5 Try.underlying27 infoByte' _ _ hbu4 (.slice A2 K C2) (l.take K) (BSrc.ofBytes Try.underlying27 ((row_take HL.out (j := K) (by rw [HN2.out]; omega)).1.below HW4.out)) (by rw [List.nil_append, HN1.out, List.length_take]; omega) HX4.out.size
  have HX5 := Lib.hid (HX4.out.trans hb5)
  have HW5 := Lib.hid (HWB.out.trans (HX5.out.mono HWB.out.size))
  have HU := Lib.hid (show RowIn (fun b => R b ∨ w.heap.size ≤ b) w5 v5 (b ++ l.take K) from hbu5.rowIn (fun b hb => .inr (Nat.le_trans HWB.out.size (hbu5.own_lt b hb).1)))
  have hc0 : wb.cell? ⟨w.heap.size, 0, none⟩ = some (.slice A1 n1 C1) := by rw [hwb, cell_of_row _ _ _ _ _ _ (heap_alloc_new w _)]; rfl
  have hc1 : (wb.alloc (.cells #[] 5)).cell? ⟨w.heap.size, 0, none⟩ = some (.slice A1 n1 C1) := below_cell HX0.out _ _ hc0
  have HR4 := Lib.hid hr4
  have HR5 := Lib.hid hr5
  clear hr4 hbu4 hg4 hb4 hat4 hr5 hbu5 hg5 hb5 hat5
  go_enter Try.func19, Try.ntmps19
  go_upto_region 12 with (fail)
  rw [← hwb]
  clear hwb
  go_wp2_with (first
    | (at_builtin; refine Lib.wpList_append_run _ rfl (.tmp 30) (.tmp 32) _ _ rfl _ _ rfl rfl _ _ HR4.out ?_)
    | (at_builtin; refine Lib.wpList_append_run _ rfl (.tmp 33) (.tmp 34) _ _ rfl _ _ rfl rfl _ _ HR5.out ?_))
  go_ret
  exact ⟨_, rfl, by rw [HE.out]; exact HU.out, HW5.out⟩
theorem refAllC (s : Sd) (B L : Value) (R : Nat → Prop) (w : World) (hB : RowIn R w B s.b) (hL : RowIn R w L s.l) (keep : Int) (lk : -9223372036854775808 ≤ keep) (uk : keep ≤ 9223372036854775807) (hs : s.upto 1000000) :
    Calls Try.prog 19 #[sideV B L s, .int .i64 keep] w (AllPost s R keep w) := by
  obtain ⟨b, l, wet, swap, x⟩ := s
  obtain ⟨h1, h2⟩ := hs
  cases wet
  · cases swap
    · exact all_dry_false b l x B L R w hB hL keep lk uk h1 h2
    · exact all_dry_true b l x B L R w hB hL keep lk uk h1 h2
  · cases swap
    · by_cases k0 : keep < 0
      · by_cases kz : l.length = 0
        · exact all_neg0 b l x B L R w hB hL keep lk uk h1 h2 k0 kz
        · exact all_neg b l x B L R w hB hL keep lk uk h1 h2 k0 (by omega)
      · by_cases k1 : keep < (l.length : Int)
        · exact all_part b l x B L R w hB hL keep lk uk h1 h2 (by omega) k1
        · exact all_far b l x B L R w hB hL keep lk uk h1 h2 (by omega)
    · by_cases k0 : keep % 2 = 0
      · exact all_even b l x B L R w hB hL keep lk uk h1 h2 k0
      · exact all_odd b l x B L R w hB hL keep lk uk h1 h2 k0
end Go.Proofs.Ytndponihilfidaa.Tape
