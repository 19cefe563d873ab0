/- The program's own reader of records' bytes: stripes. -/
import Derived.Test.YtjhlcddmpkalfaaRecRd4
theorem Go.Mem.Turned.set1 {w w' : Go.World} {g : Nat} (h : Go.Mem.Turned (fun b => b = g) w w') (i : Nat) (v : Go.Value) : Go.Mem.Turned (fun b => b = g) w (w'.setCell ⟨g, i, none⟩ v) := h.trans (Go.Mem.Turned.set (F := fun b => b = g) v rfl) (Go.Mem.Grown.refl _ _)
namespace Go.Proofs.Ytjhlcddmpkalfaa.Rec
set_option linter.unusedVariables false
open Go.ChangeShapes Go.WideShapes Go.ChangeAt Go.RowKit
open Go.Mem RecM
/-- a stripe by value -/
def StpV (w : World) (V : Value) (s : StpD) : Prop := ∃ A C, V = .agg #[.int .i64 s.id, .int .i64 s.ep, .slice A s.locs.length C] ∧ Ints w (.slice A s.locs.length C) s.locs ∧ I64 s.id ∧ I64 s.ep ∧ LenOk s.locs.length
theorem rds_stp {l l1 l2 l3 : List Nat} {b b1 b2 b3 : Bool} {x y : Int} {z : List Int} (h1 : Rds okNum numE l b x l1 b1) (h2 : Rds okNum numE l1 b1 y l2 b2) (h3 : Rds okInts intsE l2 b2 z l3 b3) : Rds okStp stpE l b ⟨x, y, z⟩ l3 b3 := by
  have hc2 : RecM.Code (fun q : Int × Int => okNum q.1 ∧ okNum q.2) (fun q => numE q.1 ++ numE q.2) := by
    intro a c u v ha hb e
    simp only [List.append_assoc] at e
    obtain ⟨e1, e2⟩ := code_num _ _ _ _ ha.1 hb.1 e
    obtain ⟨e3, e4⟩ := code_num _ _ _ _ ha.2 hb.2 e2
    exact ⟨Prod.ext e1 e3, e4⟩
  exact ((h1.pair h2 code_num).pair h3 hc2).to (fun s : StpD => ((s.id, s.ep), s.locs)) (fun _ => Iff.rfl) (fun _ => rfl) rfl
theorem kept_row {w w' : World} {g T n : Nat} {f : Nat → Value} {p : Nat} (h : w.rowIs g T n f) (hg : g < w.heap.size) (hp : g ≠ p) (ht : Turned (fun b => b = p) w w') : w'.rowIs g T n f := h.of_block (ht.block g hg hp)
theorem stp_row (w : World) (T : TypeId) : (w.alloc (.cells #[.int .i64 0, .int .i64 0, .slice none 0 0] T)).rowIs w.heap.size T 3 (fun i => if i = 0 then .int .i64 0 else if i = 1 then .int .i64 0 else .slice none 0 0) :=
  World.rowIs_alloc w _ T _ (fun i hi => by
    have : i < 3 := hi
    rcases (by omega : i = 0 ∨ i = 1 ∨ i = 2) with rfl | rfl | rfl <;> rfl)
set_option maxHeartbeats 2000000 in
theorem rstpC {w : World} {p : Nat} {l : List Nat} {bad : Bool} (h : Rd w p l bad) :
    Calls Try.prog 53 #[.pointer (some ⟨p, 0, none⟩)] w (Red StpV okStp stpE w p l bad) := by
  have hp := h.lt
  have hb0 : Below w.heap.size w (w.alloc (.cells #[.int .i64 0, .int .i64 0, .slice none 0 0] 41)) := (Below.refl _ _).alloc (Nat.le_refl _) _
  have H := Lib.hid (h.below hb0)
  have HB0 := Lib.hid (show Turned (fun b => b = p) w (w.alloc (.cells #[.int .i64 0, .int .i64 0, .slice none 0 0] 41)) from Turned.of_below _ hb0)
  have HG := Lib.hid (stp_row w 41)
  have HZ := Lib.hid (show w.heap.size < (w.alloc (.cells #[.int .i64 0, .int .i64 0, .slice none 0 0] 41)).heap.size by simp)
  have hne : w.heap.size ≠ p := by omega
  clear h hb0
  go_enter Try.func53, Try.ntmps53
  go_wp2_with fail
  refine (rnumC H.out).mono ?_
  rintro _ w1 ⟨V1, x1, l1, b1, rfl, hs1, ht1, hr1, hd1⟩
  obtain ⟨rfl, y0, y1⟩ := hs1.here
  have HR1 := Lib.hid hr1
  have HD1 := Lib.hid hd1
  have HT1 := Lib.hid (HB0.out.trans ht1 (Grown.refl _ _))
  have HG1 := Lib.hid (kept_row HG.out HZ.out hne ht1)
  have HZ1 := Lib.hid (Nat.lt_of_lt_of_le HZ.out ht1.size)
  clear hs1 ht1 hr1 hd1
  go_wp2_with fail
  refine (rnumC HR1.out).mono ?_
  rintro _ w2 ⟨V2, x2, l2, b2, rfl, hs2, ht2, hr2, hd2⟩
  obtain ⟨rfl, y2, y3⟩ := hs2.here
  have HR2 := Lib.hid hr2
  have HD2 := Lib.hid hd2
  have HT2 := Lib.hid (HT1.out.trans ht2 (Grown.refl _ _))
  have HG2 := Lib.hid (kept_row HG1.out HZ1.out hne ht2)
  have HZ2 := Lib.hid (Nat.lt_of_lt_of_le HZ1.out ht2.size)
  clear hs2 ht2 hr2 hd2
  go_wp2_with fail
  refine (rdrivesC HR2.out).mono ?_
  rintro _ w3 ⟨V3, x3, l3, b3, rfl, hs3, ht3, hr3, hd3⟩
  obtain ⟨A, C, rfl, -⟩ := hs3.here.1.shape
  have hg3 := kept_row HG2.out HZ2.out hne ht3
  have k0 : w3.cell? ⟨w.heap.size, 0, none⟩ = some (.int .i64 0) := hg3.cell (i := 0) (by omega)
  have k1 : w3.cell? ⟨w.heap.size, 1, none⟩ = some (.int .i64 0) := hg3.cell (i := 1) (by omega)
  have k2 : w3.cell? ⟨w.heap.size, 2, none⟩ = some (.slice none 0 0) := hg3.cell (i := 2) (by omega)
  have f0 : w3.frozen? ⟨w.heap.size, 0, none⟩ = false := hg3.frozen 0
  have f1 : w3.frozen? ⟨w.heap.size, 1, none⟩ = false := hg3.frozen 1
  have f2 : w3.frozen? ⟨w.heap.size, 2, none⟩ = false := hg3.frozen 2
  have hz := ((hg3.set 0 (.int .i64 x1)).set 1 (.int .i64 x2)).set 2 (.slice A x3.length C)
  have HW := Lib.hid (show ∃ wz, ((w3.setCell ⟨w.heap.size, 0, none⟩ (.int .i64 x1)).setCell ⟨w.heap.size, 1, none⟩ (.int .i64 x2)).setCell ⟨w.heap.size, 2, none⟩ (.slice A x3.length C) = wz ∧
      wz.cell? ⟨w.heap.size, 0, none⟩ = some (.int .i64 x1) ∧ wz.cell? ⟨w.heap.size, 1, none⟩ = some (.int .i64 x2) ∧ wz.cell? ⟨w.heap.size, 2, none⟩ = some (.slice A x3.length C) ∧ Turned (fun b => b = w.heap.size) w3 wz from
    ⟨_, rfl, hz.cell (i := 0) (by omega), hz.cell (i := 1) (by omega), hz.cell (i := 2) (by omega), ((((Turned.refl _ _ : Turned (fun b => b = w.heap.size) w3 w3).set1 _ _).set1 _ _).set1 _ _)⟩)
  have HZ3 := Lib.hid (show w.heap.size ≤ w3.heap.size from Nat.le_trans (Nat.le_of_lt HZ2.out) ht3.size)
  have HS3 := Lib.hid hs3
  have HR3 := Lib.hid hr3
  have HT3 := Lib.hid (HT2.out.trans ht3 (Grown.refl _ _))
  have HD3 := Lib.hid (rds_stp HD1.out HD2.out hd3)
  have HI := Lib.hid (show I64 x1 ∧ I64 x2 from ⟨⟨by omega, by omega⟩, ⟨by omega, by omega⟩⟩)
  clear hs3 ht3 hr3 hd3 hg3 hz
  go_wp2
  obtain ⟨wz, hwz, z0, z1, z2, ht4⟩ := HW.out
  rw [hwz]
  refine bodyPost_ret (v := .agg #[.int .i64 x1, .int .i64 x2, .slice A x3.length C]) (by simp [results, Try.results53, go_sem, z0, z1, z2]) rfl ?_
  refine ⟨_, ⟨x1, x2, x3⟩, l3, b3, rfl, fun w5 t5 => ?_, Turned.upto HT3.out (ht4.below (fun b hb => by omega) HZ3.out), HR3.out.later (ht4.mono fun b hb => by omega), HD3.out⟩
  have t6 : Turned (fun b => b < w2.heap.size) w3 w5 := (ht4.mono fun b hb => by have := HZ2.out; omega).trans (t5.mono fun b hb => Nat.lt_trans hb HZ2.out) (Grown.refl _ _)
  have h7 := HS3.out w5 t6
  exact ⟨A, C, rfl, h7.1, HI.out.1, HI.out.2, h7.2⟩
def StpsV (w : World) (V : Value) (l : List StpD) : Prop := Stps w V l ∧ LenOk l.length
theorem infoStp : (Try.prog.info? 41).map (fun i => (i.zero, i.size, i.bytes)) = some (some (.agg #[.int .i64 0, .int .i64 0, .slice none 0 0]), 3, 40) := by kernel_rfl
theorem stp_sure {X Y : Nat → Prop} {w : World} {s : StpD} {A : Option Addr} {C : Nat} (h : Sure X w (fun w' => StpV w' (.agg #[.int .i64 s.id, .int .i64 s.ep, .slice A s.locs.length C]) s)) (hY : ∀ b, Y b → X b) :
    Sure Y w (fun w' => StpR w' (fun j => #[Value.int .i64 s.id, .int .i64 s.ep, .slice A s.locs.length C].getD j undef) s) := by
  intro w' t
  obtain ⟨A', C', e, h1, h2, h3, h4⟩ := h w' (t.mono hY)
  cases e
  exact ⟨rfl, rfl, h1, h2, h3, h4⟩
set_option maxHeartbeats 2000000 in
theorem readStps {w : World} {p : Nat} {l : List Nat} {bad : Bool} (h : Rd w p l bad) :
    Calls Try.prog 52 #[.pointer (some ⟨p, 0, none⟩), .int .i64 255, .func (.func 53) #[.pointer (some ⟨p, 0, none⟩)] #[]] w (Red StpsV okStps stpsE w p l bad) := by
  have H := Lib.hid h
  have hp := h.lt
  clear h
  go_enter Try.func52, Try.ntmps52
  go_wp2_with fail
  refine (getC H.out 0 255 1 (by unfold Most; omega) (by omega) (by omega)).mono ?_
  rintro e w1 ⟨V, x, l1, b1, rfl, hs, ht, hr, hd⟩
  obtain ⟨rfl, x0, x1⟩ := hs.here
  obtain ⟨N, rfl⟩ := Int.eq_ofNat_of_zero_le x0
  have hN : N ≤ 4294967295 := by omega
  have HFIN := Lib.hid (fun (j : Nat) (v : Value) (wr : World) (xs ys : List StpD) (lj : List Nat) (bj : Bool) (vy : Value) (hm : RMid 3 StpR okStp stpE 41 w p l1 b1 j v wr xs lj bj) (hj : j ≤ N) (hend : bj = true ∨ j = N) (hys : (bj = true ∧ ys = [] ∧ vy = .slice none 0 0) ∨ (ys = xs ∧ vy = v)) =>
    (show Red StpsV okStps stpsE w p l bad (.returned vy) wr from ⟨vy, ys, lj, bj, rfl, (by
      rcases hys with ⟨_, rfl, rfl⟩ | ⟨rfl, rfl⟩
      · exact fun w' _ => ⟨Cells.nil 3 StpR w', Nat.zero_le _⟩
      · exact fun w' t' => ⟨hm.1.sure w' t', by rw [hm.2.1]; unfold LenOk; omega⟩), hm.2.2.1, hm.2.2.2.1, rds_list (most := 255) (by decide) hd hm.2.2.2.2 hm.2.1 hj hend ys (fun hb => by
        rcases hys with ⟨q, _, _⟩ | ⟨rfl, _⟩
        · rw [q] at hb; cases hb
        · rfl)⟩))
  have HST := Lib.hid (show RMid 3 StpR okStp stpE 41 w p l1 b1 0 (.slice none 0 0) w1 [] l1 b1 from ⟨BuiltP.start _ _ _ _ _, rfl, ht, hr, rds_none⟩)
  clear hs ht hr hd x0 x1
  go_wp2
  go_loopw [7, 11] (fun v i wr => ∃ j : Nat, j ≤ N ∧ i = .int .i64 j ∧ ∃ xs lj bj, RMid 3 StpR okStp stpE 41 w p l1 b1 j v wr xs lj bj) (fun _ i _ => N - (intOf i).toNat)
  case atStart => exact ⟨0, Nat.zero_le _, rfl, _, _, _, HST.out⟩
  case round =>
    obtain ⟨j, hj, rfl, xs, lj, bj, hm⟩ := hrel
    have HM := Lib.hid hm
    obtain ⟨A, C, e, -, -, -⟩ := hm.1.len
    subst e
    by_cases hlt : j < N
    · obtain ⟨A2, C2, hrd⟩ := hm.2.2.2.1
      obtain ⟨-, c1⟩ := hrd.cells
      have q1 : (j : Int) < (N : Int) := by omega
      cases bj with
      | true =>
        have HX := Lib.hid (HFIN.out j _ wr xs [] lj true _ HM.out (by omega) (.inl rfl) (.inl ⟨rfl, rfl, rfl⟩))
        clear hm hrd
        go_wp2
        go_ret
        exact HX.out
      | false =>
        have hxl := hm.2.1
        have HXL := Lib.hid hxl
        clear hm hrd hxl
        go_wp2_with fail
        refine (rstpC HM.out.2.2.2.1).mono ?_
        rintro _ w2 ⟨V2, x2, l2, b2, rfl, hs2, ht2, hr2, hd2⟩
        obtain ⟨A', C', rfl, -⟩ := hs2.here
        have hown := HM.out.1.own_lt
        have HEL := Lib.hid (stp_sure hs2 (Y := fun b => b < w.heap.size ∨ (Value.slice A xs.length C).ownBlock = some b) (fun b hb => hb.elim (fun q => Nat.lt_of_lt_of_le q HM.out.2.2.1.size) (fun q => (hown b q).2)))
        have HB2 := Lib.hid (HM.out.1.turned (ht2.mono fun b hb => by omega))
        have HR2 := Lib.hid hr2
        have HT2 := Lib.hid (HM.out.2.2.1.trans ht2 (Grown.refl _ _))
        have HD2 := Lib.hid (rds_more code_stp HM.out.2.2.2.2 hd2 HXL.out)
        have HZ := Lib.hid (show w.heap.size ≤ w2.heap.size from HT2.out.size)
        clear c1 hs2 ht2 hr2 hd2 hown
        go_wp2_with (refine wpList_append_builtP w2 rfl (.tmp 17) (.tmp 20) 22 rfl w.heap.size 41 (.agg #[.int .i64 0, .int .i64 0, .slice none 0 0]) 40 Try.underlying22 infoStp rfl (by decide) _ xs rfl HB2.out #[.int .i64 x2.id, .int .i64 x2.ep, .slice A' x2.locs.length C'] x2 w2.heap.size rfl rfl rfl (by simp [Value.oneCell']) HEL.out (by rw [HXL.out]; omega) HZ.out ?_; intro v3 w3 hb3 hbl3; have HB3 := Lib.hid hb3; have HBL3 := Lib.hid hbl3; obtain ⟨A3, C3, e3, _⟩ := hb3.len; obtain ⟨L3, hL3⟩ : ∃ L3, (xs ++ [x2]).length = L3 := ⟨_, rfl⟩; rw [hL3] at e3; subst e3; clear hb3 hbl3 hL3)
        have HX := Lib.hid (show RMid 3 StpR okStp stpE 41 w p l1 b1 (j + 1) (.slice A3 L3 C3) w3 (xs ++ [x2]) l2 b2 from ⟨HB3.out, by rw [List.length_append, HXL.out]; rfl, Turned.upto HT2.out HBL3.out, HR2.out.later (Turned.low HBL3.out (fun b hb => by omega)), HD2.out⟩)
        go_wp2
        go_roundw
        case rel => exact ⟨j + 1, by omega, by go_num, _, _, _, HX.out⟩
        case measure => simp [intOf]; omega
    · obtain rfl : j = N := by omega
      have HX := Lib.hid (HFIN.out j _ wr xs xs lj bj _ HM.out (Nat.le_refl _) (.inr rfl) (.inr ⟨rfl, rfl⟩))
      clear hm
      go_wp2
      go_ret
      exact HX.out
theorem rstpsC {w : World} {p : Nat} {l : List Nat} {bad : Bool} (h : Rd w p l bad) :
    Calls Try.prog 40 #[.pointer (some ⟨p, 0, none⟩)] w (Red StpsV okStps stpsE w p l bad) := by
  have H := Lib.hid h
  clear h
  go_enter Try.func40, Try.ntmps40
  go_wp2_with fail
  refine (readStps H.out).mono ?_
  rintro e w2 ⟨V, x, l', bad', rfl, hs, ht, hr, hd⟩
  have HX := Lib.hid (show Red StpsV okStps stpsE w p l bad (.returned V) w2 from ⟨V, x, l', bad', rfl, hs, ht, hr, hd⟩)
  obtain ⟨A, C, rfl, -⟩ := hs.here.1.shape
  clear hs ht hr hd
  go_wp2
  go_ret
  exact HX.out
end Go.Proofs.Ytjhlcddmpkalfaa.Rec
