/- The program's own reader of records' bytes: records; Decode. -/
import Derived.Test.YtjhlcddmpkalfaaRecRd6
namespace Go.Proofs.Ytjhlcddmpkalfaa.Rec
set_option linter.unusedVariables false
open Go.ChangeShapes Go.WideShapes Go.ChangeAt Go.RowKit
open Go.Mem RecM
theorem code_kind : RecM.Code (fun z : Int => 1 ≤ z ∧ z ≤ 5) (fun z => Sha.numB z.toNat 1) := by
  intro a c u v ha hb e
  have ha' : 1 ≤ a ∧ a ≤ 5 := ha
  have hb' : 1 ≤ c ∧ c ≤ 5 := hb
  obtain ⟨e1, e2⟩ := code_nat 1 a.toNat c.toNat u v (by show a.toNat < 256 ^ 1; omega) (by show c.toNat < 256 ^ 1; omega) e
  exact ⟨by omega, e2⟩
theorem rds_rec {l l0 l1 l2 l3 l4 l5 l6 : List Nat} {b b0 b1 b2 b3 b4 b5 b6 : Bool} {x0 x1 x2 : Int} {x3 : ByteArray} {x4 : List StpD} {x5 : List ObjD} {x6 : List Int}
    (h0 : Rds (fun z : Int => 1 ≤ z ∧ z ≤ 5) (fun z => Sha.numB z.toNat 1) l b x0 l0 b0) (h1 : Rds okNum numE l0 b0 x1 l1 b1) (h2 : Rds okNum numE l1 b1 x2 l2 b2) (h3 : Rds (fun s : ByteArray => s.size ≤ 16) keyE l2 b2 x3 l3 b3)
    (h4 : Rds okStps stpsE l3 b3 x4 l4 b4) (h5 : Rds okObjs objsE l4 b4 x5 l5 b5) (h6 : Rds okInts intsE l5 b5 x6 l6 b6) : Rds Fits recE l b ⟨x0, x1, x2, x3, x4, x5, x6⟩ l6 b6 := by
  have c1 := code_kind
  have c2 := code_pair c1 code_num
  have c3 := code_pair c2 code_num
  have c4 := code_pair c3 code_key
  have c5 := code_pair c4 code_stps
  have c6 := code_pair c5 code_objs
  exact ((((((h0.pair h1 c1).pair h2 c2).pair h3 c3).pair h4 c4).pair h5 c5).pair h6 c6).to (fun r : RecD => ((((((r.kind, r.id), r.size), r.key), r.stripes), r.objects), r.drives)) (fun r => (fits_iff r).symm) (fun _ => rfl) rfl
theorem rec_row (w : World) (T : TypeId) : (w.alloc (.cells #[.int .i64 0, .int .i64 0, .int .i64 0, .string ⟨#[]⟩, .slice none 0 0, .slice none 0 0, .slice none 0 0] T)).rowIs w.heap.size T 7 (fun i => if i = 0 then .int .i64 0 else if i = 1 then .int .i64 0 else if i = 2 then .int .i64 0 else if i = 3 then .string ⟨#[]⟩ else .slice none 0 0) :=
  World.rowIs_alloc w _ T _ (fun i hi => by
    have : i < 7 := hi
    rcases (by omega : i = 0 ∨ i = 1 ∨ i = 2 ∨ i = 3 ∨ i = 4 ∨ i = 5 ∨ i = 6) with rfl | rfl | rfl | rfl | rfl | rfl | rfl <;> rfl)
set_option maxHeartbeats 4000000 in
theorem rrecC {w : World} {p : Nat} {l : List Nat} {bad : Bool} (h : Rd w p l bad) :
    Calls Try.prog 21 #[.pointer (some ⟨p, 0, none⟩)] w (Red RecV Fits recE w p l bad) := by
  have hp := h.lt
  have hb0 : Below w.heap.size w (w.alloc (.cells #[.int .i64 0, .int .i64 0, .int .i64 0, .string ⟨#[]⟩, .slice none 0 0, .slice none 0 0, .slice none 0 0] 26)) := (Below.refl _ _).alloc (Nat.le_refl _) _
  have H := Lib.hid (h.below hb0)
  have HB0 := Lib.hid (show Turned (fun b => b = p) w (w.alloc (.cells #[.int .i64 0, .int .i64 0, .int .i64 0, .string ⟨#[]⟩, .slice none 0 0, .slice none 0 0, .slice none 0 0] 26)) from Turned.of_below _ hb0)
  have HG := Lib.hid (rec_row w 26)
  have HZ := Lib.hid (show w.heap.size < (w.alloc (.cells #[.int .i64 0, .int .i64 0, .int .i64 0, .string ⟨#[]⟩, .slice none 0 0, .slice none 0 0, .slice none 0 0] 26)).heap.size by simp)
  have hne : w.heap.size ≠ p := by omega
  clear h hb0
  go_enter Try.func21, Try.ntmps21
  go_wp2_with fail
  refine (getC H.out 1 5 1 (by unfold Most; omega) (by omega) (by omega)).mono ?_
  rintro _ w0 ⟨V0, x0, l0, b0, rfl, hs0, ht0, hr0, hd0⟩
  obtain ⟨rfl, y0, z0⟩ := hs0.here
  have HR0 := Lib.hid hr0
  have HD0 := Lib.hid hd0
  have HT0 := Lib.hid (HB0.out.trans ht0 (Grown.refl _ _))
  have HG0 := Lib.hid (kept_row HG.out HZ.out hne ht0)
  have HZ0 := Lib.hid (Nat.lt_of_lt_of_le HZ.out ht0.size)
  clear hs0 ht0 hr0 hd0
  go_wp2_with fail
  refine (rnumC HR0.out).mono ?_
  rintro _ w1 ⟨V1, x1, l1, b1, rfl, hs1, ht1, hr1, hd1⟩
  obtain ⟨rfl, y1, z1⟩ := hs1.here
  have HR1 := Lib.hid hr1
  have HD1 := Lib.hid hd1
  have HT1 := Lib.hid (HT0.out.trans ht1 (Grown.refl _ _))
  have HG1 := Lib.hid (kept_row HG0.out HZ0.out hne ht1)
  have HZ1 := Lib.hid (Nat.lt_of_lt_of_le HZ0.out ht1.size)
  clear hs1 ht1 hr1 hd1
  go_wp2_with fail
  refine (rnumC HR1.out).mono ?_
  rintro _ w2 ⟨V2, x2, l2, b2, rfl, hs2, ht2, hr2, hd2⟩
  obtain ⟨rfl, y2, z2⟩ := hs2.here
  have HR2 := Lib.hid hr2
  have HD2 := Lib.hid hd2
  have HT2 := Lib.hid (HT1.out.trans ht2 (Grown.refl _ _))
  have HG2 := Lib.hid (kept_row HG1.out HZ1.out hne ht2)
  have HZ2 := Lib.hid (Nat.lt_of_lt_of_le HZ1.out ht2.size)
  clear hs2 ht2 hr2 hd2
  go_wp2_with fail
  refine (rkeyC HR2.out).mono ?_
  rintro _ w3 ⟨V3, x3, l3, b3, rfl, hs3, ht3, hr3, hd3⟩
  obtain ⟨rfl, ks⟩ := hs3.here
  have HKS := Lib.hid ks
  have HP4 := Lib.hid (show p < w3.heap.size from hr3.lt)
  have HR3 := Lib.hid hr3
  have HD3 := Lib.hid hd3
  have HT3 := Lib.hid (HT2.out.trans ht3 (Grown.refl _ _))
  have HG3 := Lib.hid (kept_row HG2.out HZ2.out hne ht3)
  have HZ3 := Lib.hid (Nat.lt_of_lt_of_le HZ2.out ht3.size)
  clear hs3 ht3 hr3 hd3 ks
  go_wp2_with fail
  refine (rstpsC HR3.out).mono ?_
  rintro _ w4 ⟨V4, x4, l4, b4, rfl, hs4, ht4, hr4, hd4⟩
  obtain ⟨A4, C4, rfl, -⟩ := hs4.here.1.shape
  have HS4 := Lib.hid hs4
  have HP5 := Lib.hid (show p < w4.heap.size from hr4.lt)
  have HR4 := Lib.hid hr4
  have HD4 := Lib.hid hd4
  have HT4 := Lib.hid (HT3.out.trans ht4 (Grown.refl _ _))
  have HG4 := Lib.hid (kept_row HG3.out HZ3.out hne ht4)
  have HZ4 := Lib.hid (Nat.lt_of_lt_of_le HZ3.out ht4.size)
  clear hs4 ht4 hr4 hd4
  go_wp2_with fail
  refine (readObjs HR4.out).mono ?_
  rintro _ w5 ⟨V5, x5, l5, b5, rfl, hs5, ht5, hr5, hd5⟩
  obtain ⟨A5, C5, rfl, -⟩ := hs5.here.1.shape
  have HS5 := Lib.hid hs5
  have HP6 := Lib.hid (show p < w5.heap.size from hr5.lt)
  have HS4b := Lib.hid (HS4.out.later (ht5.mono fun b hb => by have := HP4.out; omega))
  have HR5 := Lib.hid hr5
  have HD5 := Lib.hid hd5
  have HT5 := Lib.hid (HT4.out.trans ht5 (Grown.refl _ _))
  have HG5 := Lib.hid (kept_row HG4.out HZ4.out hne ht5)
  have HZ5 := Lib.hid (Nat.lt_of_lt_of_le HZ4.out ht5.size)
  clear hs5 ht5 hr5 hd5
  go_wp2_with fail
  refine (rdrivesC HR5.out).mono ?_
  rintro _ w6 ⟨V6, x6, l6, b6, rfl, hs6, ht6, hr6, hd6⟩
  obtain ⟨A6, C6, rfl, -⟩ := hs6.here.1.shape
  have HS6 := Lib.hid hs6
  have HS4c := Lib.hid (HS4b.out.later (ht6.mono fun b hb => by have := HP4.out; omega))
  have HS5c := Lib.hid (HS5.out.later (ht6.mono fun b hb => by have := HP5.out; omega))
  have HR6 := Lib.hid hr6
  have HD6 := Lib.hid (rds_rec HD0.out HD1.out HD2.out HD3.out HD4.out HD5.out hd6)
  have HT6 := Lib.hid (HT5.out.trans ht6 (Grown.refl _ _))
  have hg := kept_row HG5.out HZ5.out hne ht6
  have HZ6 := Lib.hid (Nat.lt_of_lt_of_le HZ5.out ht6.size)
  clear hs6 ht6 hr6 hd6
  have k0 : w6.cell? ⟨w.heap.size, 0, none⟩ = some (.int .i64 0) := hg.cell (i := 0) (by omega)
  have f0 : w6.frozen? ⟨w.heap.size, 0, none⟩ = false := hg.frozen 0
  have k1 : w6.cell? ⟨w.heap.size, 1, none⟩ = some (.int .i64 0) := hg.cell (i := 1) (by omega)
  have f1 : w6.frozen? ⟨w.heap.size, 1, none⟩ = false := hg.frozen 1
  have k2 : w6.cell? ⟨w.heap.size, 2, none⟩ = some (.int .i64 0) := hg.cell (i := 2) (by omega)
  have f2 : w6.frozen? ⟨w.heap.size, 2, none⟩ = false := hg.frozen 2
  have k3 : w6.cell? ⟨w.heap.size, 3, none⟩ = some (.string ⟨#[]⟩) := hg.cell (i := 3) (by omega)
  have f3 : w6.frozen? ⟨w.heap.size, 3, none⟩ = false := hg.frozen 3
  have k4 : w6.cell? ⟨w.heap.size, 4, none⟩ = some (.slice none 0 0) := hg.cell (i := 4) (by omega)
  have f4 : w6.frozen? ⟨w.heap.size, 4, none⟩ = false := hg.frozen 4
  have k5 : w6.cell? ⟨w.heap.size, 5, none⟩ = some (.slice none 0 0) := hg.cell (i := 5) (by omega)
  have f5 : w6.frozen? ⟨w.heap.size, 5, none⟩ = false := hg.frozen 5
  have k6 : w6.cell? ⟨w.heap.size, 6, none⟩ = some (.slice none 0 0) := hg.cell (i := 6) (by omega)
  have f6 : w6.frozen? ⟨w.heap.size, 6, none⟩ = false := hg.frozen 6
  have hz := (((((((hg.set 0 (.int .i64 x0)).set 1 (.int .i64 x1)).set 2 (.int .i64 x2)).set 3 (.string x3)).set 4 (.slice A4 x4.length C4)).set 5 (.slice A5 x5.length C5)).set 6 (.slice A6 x6.length C6))
  have HW := Lib.hid (show ∃ wz, (((((((w6.setCell ⟨w.heap.size, 0, none⟩ (.int .i64 x0)).setCell ⟨w.heap.size, 1, none⟩ (.int .i64 x1)).setCell ⟨w.heap.size, 2, none⟩ (.int .i64 x2)).setCell ⟨w.heap.size, 3, none⟩ (.string x3)).setCell ⟨w.heap.size, 4, none⟩ (.slice A4 x4.length C4)).setCell ⟨w.heap.size, 5, none⟩ (.slice A5 x5.length C5)).setCell ⟨w.heap.size, 6, none⟩ (.slice A6 x6.length C6)) = wz ∧
      wz.cell? ⟨w.heap.size, 0, none⟩ = some (.int .i64 x0) ∧ wz.cell? ⟨w.heap.size, 1, none⟩ = some (.int .i64 x1) ∧ wz.cell? ⟨w.heap.size, 2, none⟩ = some (.int .i64 x2) ∧ wz.cell? ⟨w.heap.size, 3, none⟩ = some (.string x3) ∧ wz.cell? ⟨w.heap.size, 4, none⟩ = some (.slice A4 x4.length C4) ∧ wz.cell? ⟨w.heap.size, 5, none⟩ = some (.slice A5 x5.length C5) ∧ wz.cell? ⟨w.heap.size, 6, none⟩ = some (.slice A6 x6.length C6) ∧ Turned (fun b => b = w.heap.size) w6 wz from
    ⟨_, rfl, hz.cell (i := 0) (by omega), hz.cell (i := 1) (by omega), hz.cell (i := 2) (by omega), hz.cell (i := 3) (by omega), hz.cell (i := 4) (by omega), hz.cell (i := 5) (by omega), hz.cell (i := 6) (by omega), ((((((((Turned.refl _ _ : Turned (fun b => b = w.heap.size) w6 w6).set1 _ _).set1 _ _).set1 _ _).set1 _ _).set1 _ _).set1 _ _).set1 _ _)⟩)
  have HI := Lib.hid (show I64 x0 ∧ I64 x1 ∧ I64 x2 from ⟨⟨by omega, by omega⟩, ⟨by omega, by omega⟩, ⟨by omega, by omega⟩⟩)
  clear hg hz
  go_wp2
  obtain ⟨wz, hwz, z0, z1, z2, z3, z4, z5, z6, ht⟩ := HW.out
  rw [hwz]
  refine bodyPost_ret (v := .agg #[.int .i64 x0, .int .i64 x1, .int .i64 x2, .string x3, .slice A4 x4.length C4, .slice A5 x5.length C5, .slice A6 x6.length C6]) (by simp [results, Try.results21, go_sem, z0, z1, z2, z3, z4, z5, z6]) rfl ?_
  refine ⟨_, ⟨x0, x1, x2, x3, x4, x5, x6⟩, l6, b6, rfl, fun w8 t8 => ?_, Turned.upto HT6.out (ht.below (fun b hb => by omega) (Nat.le_of_lt HZ6.out)), HR6.out.later (ht.mono fun b hb => by omega), HD6.out⟩
  have key : ∀ {B : Nat} {P : World → Prop}, w.heap.size < B → Sure (fun b => b < B) w6 P → P w8 := fun {B P} hB hs =>
    hs w8 ((ht.mono fun b hb => by omega).trans (t8.mono fun b hb => Nat.lt_trans hb hB) (Grown.refl _ _))
  have g4 := key HZ3.out HS4c.out
  have g5 := key HZ4.out HS5c.out
  have g6 := key HZ5.out HS6.out
  exact ⟨A4, A5, A6, C4, C5, C6, rfl, ⟨g4.1, g5.1, g6.1, HI.out.1, HI.out.2.1, HI.out.2.2, (by have := HKS.out; show x3.size ≤ 140737488351232; omega), g4.2, g5.2, g6.2⟩⟩
end Go.Proofs.Ytjhlcddmpkalfaa.Rec
