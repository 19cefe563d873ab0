/- The program's own reader of records' bytes: objects, records; Decode. -/
import Derived.Test.YtjhlcddmpkalfaaRecRd5
import Derived.Test.YtjhlcddmpkalfaaRecWr5
namespace Go.Proofs.Ytjhlcddmpkalfaa.Rec
set_option linter.unusedVariables false
open Go.ChangeShapes Go.WideShapes Go.ChangeAt Go.RowKit
open Go.Mem RecM
theorem code_pair {α β : Type} {ok : α → Prop} {E : α → List Nat} {ok2 : β → Prop} {E2 : β → List Nat} (h : RecM.Code ok E) (k : RecM.Code ok2 E2) : RecM.Code (fun q : α × β => ok q.1 ∧ ok2 q.2) (fun q => E q.1 ++ E2 q.2) := by
  intro a c u v ha hb e
  simp only [List.append_assoc] at e
  obtain ⟨e1, e2⟩ := h _ _ _ _ ha.1 hb.1 e
  obtain ⟨e3, e4⟩ := k _ _ _ _ ha.2 hb.2 e2
  exact ⟨Prod.ext e1 e3, e4⟩
/-- an object by value -/
def ObjV (w : World) (V : Value) (s : ObjD) : Prop := ∃ A C, V = .agg #[.string s.key, .int .i64 s.id, .int .i64 s.size, .slice A s.stripes.length C] ∧ Stps w (.slice A s.stripes.length C) s.stripes ∧ I64 s.id ∧ I64 s.size ∧ KeyOk s.key ∧ LenOk s.stripes.length
theorem rds_obj {l l0 l1 l2 l3 : List Nat} {b b0 b1 b2 b3 : Bool} {k : ByteArray} {x y : Int} {z : List StpD} (h0 : Rds (fun s : ByteArray => s.size ≤ 16) keyE l b k l0 b0) (h1 : Rds okNum numE l0 b0 x l1 b1) (h2 : Rds okNum numE l1 b1 y l2 b2) (h3 : Rds okStps stpsE l2 b2 z l3 b3) : Rds okObj objE l b ⟨k, x, y, z⟩ l3 b3 :=
  (((h0.pair h1 code_key).pair h2 (code_pair code_key code_num)).pair h3 (code_pair (code_pair code_key code_num) code_num)).to (fun s : ObjD => (((s.key, s.id), s.size), s.stripes)) (fun _ => Iff.rfl) (fun _ => rfl) rfl
theorem obj_row (w : World) (T : TypeId) : (w.alloc (.cells #[.string ⟨#[]⟩, .int .i64 0, .int .i64 0, .slice none 0 0] T)).rowIs w.heap.size T 4 (fun i => if i = 0 then .string ⟨#[]⟩ else if i = 1 then .int .i64 0 else if i = 2 then .int .i64 0 else .slice none 0 0) :=
  World.rowIs_alloc w _ T _ (fun i hi => by
    have : i < 4 := hi
    rcases (by omega : i = 0 ∨ i = 1 ∨ i = 2 ∨ i = 3) with rfl | rfl | rfl | rfl <;> rfl)
set_option maxHeartbeats 2000000 in
theorem robjC {w : World} {p : Nat} {l : List Nat} {bad : Bool} (h : Rd w p l bad) :
    Calls Try.prog 42 #[.pointer (some ⟨p, 0, none⟩)] w (Red ObjV okObj objE w p l bad) := by
  have hp := h.lt
  have hb0 : Below w.heap.size w (w.alloc (.cells #[.string ⟨#[]⟩, .int .i64 0, .int .i64 0, .slice none 0 0] 44)) := (Below.refl _ _).alloc (Nat.le_refl _) _
  have H := Lib.hid (h.below hb0)
  have HB0 := Lib.hid (show Turned (fun b => b = p) w (w.alloc (.cells #[.string ⟨#[]⟩, .int .i64 0, .int .i64 0, .slice none 0 0] 44)) from Turned.of_below _ hb0)
  have HG := Lib.hid (obj_row w 44)
  have HZ := Lib.hid (show w.heap.size < (w.alloc (.cells #[.string ⟨#[]⟩, .int .i64 0, .int .i64 0, .slice none 0 0] 44)).heap.size by simp)
  have hne : w.heap.size ≠ p := by omega
  clear h hb0
  go_enter Try.func42, Try.ntmps42
  go_wp2_with fail
  refine (rkeyC H.out).mono ?_
  rintro _ w0 ⟨V0, x0, l0, b0, rfl, hs0, ht0, hr0, hd0⟩
  obtain ⟨rfl, ks⟩ := hs0.here
  have HR0 := Lib.hid hr0
  have HD0 := Lib.hid hd0
  have HKS := Lib.hid ks
  have HT0 := Lib.hid (HB0.out.trans ht0 (Grown.refl _ _))
  have HG0 := Lib.hid (kept_row HG.out HZ.out hne ht0)
  have HZ0 := Lib.hid (Nat.lt_of_lt_of_le HZ.out ht0.size)
  clear hs0 ht0 hr0 hd0 ks
  go_wp2_with fail
  refine (rnumC HR0.out).mono ?_
  rintro _ w1 ⟨V1, x1, l1, b1, rfl, hs1, ht1, hr1, hd1⟩
  obtain ⟨rfl, y0, y1⟩ := hs1.here
  have HR1 := Lib.hid hr1
  have HD1 := Lib.hid hd1
  have HT1 := Lib.hid (HT0.out.trans ht1 (Grown.refl _ _))
  have HG1 := Lib.hid (kept_row HG0.out HZ0.out hne ht1)
  have HZ1 := Lib.hid (Nat.lt_of_lt_of_le HZ0.out ht1.size)
  clear hs1 ht1 hr1 hd1
  go_wp2_with fail
  refine (rnumC HR1.out).mono ?_
  rintro _ w2 ⟨V2, x2, l2, b2, rfl, hs2, ht2, hr2, hd2⟩
  obtain ⟨rfl, y2, y3⟩ := hs2.here
  have HR2 := Lib.hid hr2
  have HD2 := Lib.hid hd2
  have HT2 := Lib.hid (HT1.out.trans ht2 (Grown.refl _ _))
  have HG2 := Lib.hid (kept_row HG1.out HZ1.out hne ht2)
  have HZ2 := Lib.hid (Nat.lt_of_lt_of_le HZ1.out ht2.size)
  clear hs2 ht2 hr2 hd2
  go_wp2_with fail
  refine (rstpsC HR2.out).mono ?_
  rintro _ w3 ⟨V3, x3, l3, b3, rfl, hs3, ht3, hr3, hd3⟩
  obtain ⟨A, C, rfl, -⟩ := hs3.here.1.shape
  have hg3 := kept_row HG2.out HZ2.out hne ht3
  have k0 : w3.cell? ⟨w.heap.size, 0, none⟩ = some (.string ⟨#[]⟩) := hg3.cell (i := 0) (by omega)
  have k1 : w3.cell? ⟨w.heap.size, 1, none⟩ = some (.int .i64 0) := hg3.cell (i := 1) (by omega)
  have k2 : w3.cell? ⟨w.heap.size, 2, none⟩ = some (.int .i64 0) := hg3.cell (i := 2) (by omega)
  have k3 : w3.cell? ⟨w.heap.size, 3, none⟩ = some (.slice none 0 0) := hg3.cell (i := 3) (by omega)
  have f0 : w3.frozen? ⟨w.heap.size, 0, none⟩ = false := hg3.frozen 0
  have f1 : w3.frozen? ⟨w.heap.size, 1, none⟩ = false := hg3.frozen 1
  have f2 : w3.frozen? ⟨w.heap.size, 2, none⟩ = false := hg3.frozen 2
  have f3 : w3.frozen? ⟨w.heap.size, 3, none⟩ = false := hg3.frozen 3
  have hz := (((hg3.set 0 (.string x0)).set 1 (.int .i64 x1)).set 2 (.int .i64 x2)).set 3 (.slice A x3.length C)
  have HW := Lib.hid (show ∃ wz, (((w3.setCell ⟨w.heap.size, 0, none⟩ (.string x0)).setCell ⟨w.heap.size, 1, none⟩ (.int .i64 x1)).setCell ⟨w.heap.size, 2, none⟩ (.int .i64 x2)).setCell ⟨w.heap.size, 3, none⟩ (.slice A x3.length C) = wz ∧
      wz.cell? ⟨w.heap.size, 0, none⟩ = some (.string x0) ∧ wz.cell? ⟨w.heap.size, 1, none⟩ = some (.int .i64 x1) ∧ wz.cell? ⟨w.heap.size, 2, none⟩ = some (.int .i64 x2) ∧ wz.cell? ⟨w.heap.size, 3, none⟩ = some (.slice A x3.length C) ∧ Turned (fun b => b = w.heap.size) w3 wz from
    ⟨_, rfl, hz.cell (i := 0) (by omega), hz.cell (i := 1) (by omega), hz.cell (i := 2) (by omega), hz.cell (i := 3) (by omega), (((((Turned.refl _ _ : Turned (fun b => b = w.heap.size) w3 w3).set1 _ _).set1 _ _).set1 _ _).set1 _ _)⟩)
  have HZ3 := Lib.hid (show w.heap.size ≤ w3.heap.size from Nat.le_trans (Nat.le_of_lt HZ2.out) ht3.size)
  have HS3 := Lib.hid hs3
  have HR3 := Lib.hid hr3
  have HT3 := Lib.hid (HT2.out.trans ht3 (Grown.refl _ _))
  have HD3 := Lib.hid (rds_obj HD0.out HD1.out HD2.out hd3)
  have HI := Lib.hid (show I64 x1 ∧ I64 x2 from ⟨⟨by omega, by omega⟩, ⟨by omega, by omega⟩⟩)
  clear hs3 ht3 hr3 hd3 hg3 hz
  go_wp2
  obtain ⟨wz, hwz, z0, z1, z2, z3, ht4⟩ := HW.out
  rw [hwz]
  refine bodyPost_ret (v := .agg #[.string x0, .int .i64 x1, .int .i64 x2, .slice A x3.length C]) (by simp [results, Try.results42, go_sem, z0, z1, z2, z3]) rfl ?_
  refine ⟨_, ⟨x0, x1, x2, x3⟩, l3, b3, rfl, fun w5 t5 => ?_, Turned.upto HT3.out (ht4.below (fun b hb => by omega) HZ3.out), HR3.out.later (ht4.mono fun b hb => by omega), HD3.out⟩
  have t6 : Turned (fun b => b < w2.heap.size) w3 w5 := (ht4.mono fun b hb => by have := HZ2.out; omega).trans (t5.mono fun b hb => Nat.lt_trans hb HZ2.out) (Grown.refl _ _)
  have h7 := HS3.out w5 t6
  exact ⟨A, C, rfl, h7.1, HI.out.1, HI.out.2, (by have := HKS.out; show x0.size ≤ 140737488351232; omega), h7.2⟩
def ObjsV (w : World) (V : Value) (l : List ObjD) : Prop := Objs w V l ∧ LenOk l.length
theorem infoObj : (Try.prog.info? 44).map (fun i => (i.zero, i.size, i.bytes)) = some (some (.agg #[.string ⟨#[]⟩, .int .i64 0, .int .i64 0, .slice none 0 0]), 4, 56) := by kernel_rfl
theorem obj_sure {X Y : Nat → Prop} {w : World} {s : ObjD} {A : Option Addr} {C : Nat} (h : Sure X w (fun w' => ObjV w' (.agg #[.string s.key, .int .i64 s.id, .int .i64 s.size, .slice A s.stripes.length C]) s)) (hY : ∀ b, Y b → X b) :
    Sure Y w (fun w' => ObjR w' (fun j => #[Value.string s.key, .int .i64 s.id, .int .i64 s.size, .slice A s.stripes.length C].getD j undef) s) := by
  intro w' t
  obtain ⟨A', C', e, h1, h2, h3, h4, h5⟩ := h w' (t.mono hY)
  cases e
  exact ⟨rfl, rfl, rfl, h1, h2, h3, h4, h5⟩
set_option maxHeartbeats 2000000 in
theorem readObjs {w : World} {p : Nat} {l : List Nat} {bad : Bool} (h : Rd w p l bad) :
    Calls Try.prog 41 #[.pointer (some ⟨p, 0, none⟩), .int .i64 65535, .func (.func 42) #[.pointer (some ⟨p, 0, none⟩)] #[]] w (Red ObjsV okObjs objsE w p l bad) := by
  have H := Lib.hid h
  have hp := h.lt
  clear h
  go_enter Try.func41, Try.ntmps41
  go_wp2_with fail
  refine (getC H.out 0 65535 2 (by unfold Most; omega) (by omega) (by omega)).mono ?_
  rintro e w1 ⟨V, x, l1, b1, rfl, hs, ht, hr, hd⟩
  obtain ⟨rfl, x0, x1⟩ := hs.here
  obtain ⟨N, rfl⟩ := Int.eq_ofNat_of_zero_le x0
  have hN : N ≤ 4294967295 := by omega
  have HFIN := Lib.hid (fun (j : Nat) (v : Value) (wr : World) (xs ys : List ObjD) (lj : List Nat) (bj : Bool) (vy : Value) (hm : RMid 4 ObjR okObj objE 44 w p l1 b1 j v wr xs lj bj) (hj : j ≤ N) (hend : bj = true ∨ j = N) (hys : (bj = true ∧ ys = [] ∧ vy = .slice none 0 0) ∨ (ys = xs ∧ vy = v)) =>
    (show Red ObjsV okObjs objsE w p l bad (.returned vy) wr from ⟨vy, ys, lj, bj, rfl, (by
      rcases hys with ⟨_, rfl, rfl⟩ | ⟨rfl, rfl⟩
      · exact fun w' _ => ⟨Cells.nil 4 ObjR w', Nat.zero_le _⟩
      · exact fun w' t' => ⟨hm.1.sure w' t', by rw [hm.2.1]; unfold LenOk; omega⟩), hm.2.2.1, hm.2.2.2.1, rds_list (most := 65535) (by decide) hd hm.2.2.2.2 hm.2.1 hj hend ys (fun hb => by
        rcases hys with ⟨q, _, _⟩ | ⟨rfl, _⟩
        · rw [q] at hb; cases hb
        · rfl)⟩))
  have HST := Lib.hid (show RMid 4 ObjR okObj objE 44 w p l1 b1 0 (.slice none 0 0) w1 [] l1 b1 from ⟨BuiltP.start _ _ _ _ _, rfl, ht, hr, rds_none⟩)
  clear hs ht hr hd x0 x1
  go_wp2
  go_loopw [7, 11] (fun v i wr => ∃ j : Nat, j ≤ N ∧ i = .int .i64 j ∧ ∃ xs lj bj, RMid 4 ObjR okObj objE 44 w p l1 b1 j v wr xs lj bj) (fun _ i _ => N - (intOf i).toNat)
  case atStart => exact ⟨0, Nat.zero_le _, rfl, _, _, _, HST.out⟩
  case round =>
    obtain ⟨j, hj, rfl, xs, lj, bj, hm⟩ := hrel
    have HM := Lib.hid hm
    obtain ⟨A, C, e, -, -, -⟩ := hm.1.len
    subst e
    by_cases hlt : j < N
    · obtain ⟨A2, C2, hrd⟩ := hm.2.2.2.1
      obtain ⟨-, c1⟩ := hrd.cells
      have q1 : (j : Int) < (N : Int) := by omega
      cases bj with
      | true =>
        have HX := Lib.hid (HFIN.out j _ wr xs [] lj true _ HM.out (by omega) (.inl rfl) (.inl ⟨rfl, rfl, rfl⟩))
        clear hm hrd
        go_wp2
        go_ret
        exact HX.out
      | false =>
        have hxl := hm.2.1
        have HXL := Lib.hid hxl
        clear hm hrd hxl
        go_wp2_with fail
        refine (robjC HM.out.2.2.2.1).mono ?_
        rintro _ w2 ⟨V2, x2, l2, b2, rfl, hs2, ht2, hr2, hd2⟩
        obtain ⟨A', C', rfl, -⟩ := hs2.here
        have hown := HM.out.1.own_lt
        have HEL := Lib.hid (obj_sure hs2 (Y := fun b => b < w.heap.size ∨ (Value.slice A xs.length C).ownBlock = some b) (fun b hb => hb.elim (fun q => Nat.lt_of_lt_of_le q HM.out.2.2.1.size) (fun q => (hown b q).2)))
        have HB2 := Lib.hid (HM.out.1.turned (ht2.mono fun b hb => by omega))
        have HR2 := Lib.hid hr2
        have HT2 := Lib.hid (HM.out.2.2.1.trans ht2 (Grown.refl _ _))
        have HD2 := Lib.hid (rds_more code_obj HM.out.2.2.2.2 hd2 HXL.out)
        have HZ := Lib.hid (show w.heap.size ≤ w2.heap.size from HT2.out.size)
        clear c1 hs2 ht2 hr2 hd2 hown
        go_wp2_with (refine wpList_append_builtP w2 rfl (.tmp 17) (.tmp 20) 23 rfl w.heap.size 44 (.agg #[.string ⟨#[]⟩, .int .i64 0, .int .i64 0, .slice none 0 0]) 56 Try.underlying23 infoObj rfl (by decide) _ xs rfl HB2.out #[.string x2.key, .int .i64 x2.id, .int .i64 x2.size, .slice A' x2.stripes.length C'] x2 w2.heap.size rfl rfl rfl (by simp [Value.oneCell']) HEL.out (by rw [HXL.out]; omega) HZ.out ?_; intro v3 w3 hb3 hbl3; have HB3 := Lib.hid hb3; have HBL3 := Lib.hid hbl3; obtain ⟨A3, C3, e3, _⟩ := hb3.len; obtain ⟨L3, hL3⟩ : ∃ L3, (xs ++ [x2]).length = L3 := ⟨_, rfl⟩; rw [hL3] at e3; subst e3; clear hb3 hbl3 hL3)
        have HX := Lib.hid (show RMid 4 ObjR okObj objE 44 w p l1 b1 (j + 1) (.slice A3 L3 C3) w3 (xs ++ [x2]) l2 b2 from ⟨HB3.out, by rw [List.length_append, HXL.out]; rfl, Turned.upto HT2.out HBL3.out, HR2.out.later (Turned.low HBL3.out (fun b hb => by omega)), HD2.out⟩)
        go_wp2
        go_roundw
        case rel => exact ⟨j + 1, by omega, by go_num, _, _, _, HX.out⟩
        case measure => simp [intOf]; omega
    · obtain rfl : j = N := by omega
      have HX := Lib.hid (HFIN.out j _ wr xs xs lj bj _ HM.out (Nat.le_refl _) (.inr rfl) (.inr ⟨rfl, rfl⟩))
      clear hm
      go_wp2
      go_ret
      exact HX.out
end Go.Proofs.Ytjhlcddmpkalfaa.Rec
