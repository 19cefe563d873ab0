/- The program's table: move. The program's table: all. The program's table: apply, Apply. The program's layer 14 is what the laws want. -/
import Derived.Test.YtegbgnjmkohcfaaDoorQTbGd
namespace Tb
open Go Go.Mem Kl
theorem move_at {t : TabD} (hok : t.Ok) {s : StpD} {o : ObjD} {k : Nat} (ho : o ∈ t.objs) (hk : k < o.stripes.length) (e : s.id = 16 * o.id + k) : moveO s t.objs = some (put keyOf (movedO o k s) t.objs) := by
  obtain ⟨i, hi, rfl⟩ := List.getElem_of_mem ho
  have hid : ∀ j (hj : j < t.objs.length) m (hm : m < t.objs[j].stripes.length), t.objs[j].stripes[m].id = s.id → j = i ∧ m = k := fun j hj m hm q => by
    have e1 := numbered_get (hok.all.1 _ (List.getElem_mem hj)).1.2.2.2.2.2.2.2.1 m hm
    have f1 := few_stripes hok.k1 (hok.all.1 _ (List.getElem_mem hj)).1
    have f2 := few_stripes hok.k1 (hok.all.1 _ (List.getElem_mem hi)).1
    have hids : t.objs[j].id = t.objs[i].id := by omega
    refine ⟨?_, by omega⟩
    have hp := hok.all.2.2
    unfold List.Nodup at hp
    rw [List.pairwise_map, List.pairwise_iff_getElem] at hp
    rcases Nat.lt_trichotomy j i with q | q | q
    · exact absurd hids (hp j i hj hi q)
    · exact q
    · exact absurd hids.symm (hp i j hi hj q)
  have e2 := numbered_get (hok.all.1 _ (List.getElem_mem hi)).1.2.2.2.2.2.2.2.1 k hk
  rw [moveO_at (L := t.objs) (i := i) (k := k) hi hk (fun j hj q m hm z => by have := (hid j hj m hm z).1; omega) (fun m hm q z => by have := (hid i hi m hm z).2; omega) (by omega)]
  rw [put_set (key := keyOf) (x := movedO t.objs[i] k s) hi hok.all.2.1 rfl]
theorem move_no {t : TabD} (hok : t.Ok) {s : StpD} (h : ∀ o ∈ t.objs, ∀ k : Nat, k < o.stripes.length → s.id ≠ 16 * o.id + k) : moveO s t.objs = none :=
  moveO_not fun j hj m hm q => by
    have e1 := numbered_get (hok.all.1 _ (List.getElem_mem hj)).1.2.2.2.2.2.2.2.1 m hm
    exact h _ (List.getElem_mem hj) m hm (by omega)
end Tb
namespace Go.Proofs.YtegbgnjmkohcfaaDoor.Tbl
set_option linter.unusedVariables false
open Go.ChangeShapes Go.WideShapes Go.ChangeAt Go.RowKit
open Go.Mem RecM
def moveT (t : Tb.TabD) (s : StpD) : Option Tb.TabD := if Tb.StpOk t.n s then (Tb.moveO s t.objs).map (withO t) else none
/-- a copy of an object, one stripe of it written over: it reads so, whatever becomes of the blocks of X -/
theorem moved_reads {w w3 : World} {o : ObjD} {k : Nat} {s : StpD} {g C : Nat} {f : Nat → Nat → Value} {X : Nat → Prop} {As : Option Addr} {Cs : Nat} (hb : Below w.heap.size w w3) (hg : w.heap.size ≤ g) (hr : SRow w3 g o.stripes.length f) (h1 : o.stripes.length ≤ C) (h2 : C ≤ 9223372036854775807) (hk : k < o.stripes.length)
    (hn : ∀ i (hi : i < o.stripes.length), On (fun b => w.heap.size ≤ b ∧ b < w3.heap.size ∧ b ≠ g) w3 (fun w'' => StpW w'' (f i) o.stripes[i])) (hs : Sure X w (fun w' => StpIs w' (.agg #[.int .i64 s.id, .int .i64 s.ep, .slice As s.locs.length Cs]) s)) (hX : ∀ b, X b → b < w.heap.size) (hoi : I64 o.id ∧ I64 o.size ∧ KeyOk o.key ∧ LenOk o.stripes.length) :
    Sure X (((w3.setCell ⟨g, k * 3, none⟩ (.int .i64 s.id)).setCell ⟨g, k * 3 + 1, none⟩ (.int .i64 s.ep)).setCell ⟨g, k * 3 + 2, none⟩ (.slice As s.locs.length Cs)) (fun w' => ObjIs w' (.agg #[.string o.key, .int .i64 o.id, .int .i64 o.size, .slice (some ⟨g, 0, none⟩) o.stripes.length C]) (Tb.movedO o k s)) := by
  have hglt := hr.lt (by omega)
  have h3 := hr.set3 k (fun j => #[Value.int .i64 s.id, .int .i64 s.ep, .slice As s.locs.length Cs].getD j undef)
  have ht : Turned (fun b => b = g) w3 (((w3.setCell ⟨g, k * 3, none⟩ (.int .i64 s.id)).setCell ⟨g, k * 3 + 1, none⟩ (.int .i64 s.ep)).setCell ⟨g, k * 3 + 2, none⟩ (.slice As s.locs.length Cs)) :=
    ((Turned.set (F := fun b => b = g) (b := g) _ rfl).trans (Turned.set (F := fun b => b = g) (b := g) _ rfl) (Grown.refl _ _)).trans (Turned.set (F := fun b => b = g) (b := g) _ rfl) (Grown.refl _ _)
  obtain ⟨w4, hw4⟩ : ∃ w4, ((w3.setCell ⟨g, k * 3, none⟩ (.int .i64 s.id)).setCell ⟨g, k * 3 + 1, none⟩ (.int .i64 s.ep)).setCell ⟨g, k * 3 + 2, none⟩ (.slice As s.locs.length Cs) = w4 := ⟨_, rfl⟩
  have h3' : SRow w4 g o.stripes.length (updF f k (fun j => #[Value.int .i64 s.id, .int .i64 s.ep, .slice As s.locs.length Cs].getD j undef)) := hw4 ▸ h3
  rw [hw4] at ht ⊢
  clear h3 hw4
  intro w' hx
  have h5 := h3'.keep (hx.block g (Nat.lt_of_lt_of_le hglt ht.size) (fun q => by have := hX g q; omega))
  refine ⟨some ⟨g, 0, none⟩, C, by show _ = Value.agg #[.string o.key, .int .i64 o.id, .int .i64 o.size, .slice (some ⟨g, 0, none⟩) (o.stripes.set k s).length C]; rw [List.length_set], ?_, hoi.1, hoi.2.1, hoi.2.2.1, by show LenOk (o.stripes.set k s).length; rw [List.length_set]; exact hoi.2.2.2⟩
  show Stps w' (.slice (some ⟨g, 0, none⟩) (o.stripes.set k s).length C) (o.stripes.set k s)
  rw [List.length_set]
  refine h5.stps (List.length_set ..) h1 h2 fun i hi => ?_
  have hi' : i < o.stripes.length := by simpa using hi
  by_cases e : i = k
  · subst e
    rw [updF_same, List.getElem_set_self]
    have hww : Turned X w w' := ((Turned.of_below X hb).trans (ht.mono (F' := fun b => X b ∨ b = g) fun b q => .inr q) (fun b q => q.imp id (fun z => by rw [z]; exact hg))).trans hx (Grown.refl _ _)
    obtain ⟨A9, C9, e9, q1, q2⟩ := hs w' hww
    cases e9
    exact ⟨rfl, rfl, q1, q2⟩
  · rw [updF_other _ _ e, List.getElem_set_ne (fun q => e q.symm)]
    have h9 := (hn i hi').turned ht (fun b q z => z.2.2 q)
    exact (h9.turned hx (fun b q z => by have := hX b q; omega)).here.1
set_option maxRecDepth 100000 in
set_option maxHeartbeats 8000000 in
theorem moveC {w : World} {E : Nat → Prop} {p : Nat} {M : Option Nat} {A : Option Addr} {C : Nat} {t : Tb.TabD} (h : TAt w E p M (.slice A t.states.length C) t) (hok : t.Ok) (hfew : t.objs.length ≤ 1000000) (s : StpD) (V : Value) (hV : Sure (fun y => y = p ∨ M = some y) w (fun w' => StpIs w' V s)) :
    Calls Tryd.prog 34 #[.pointer (some ⟨p, 0, none⟩), V] w (Appl w E p M t (moveT t s)) := by
  have HV := Lib.hid hV
  obtain ⟨AV, CV, rfl, hst, o1, o2, o3⟩ := hV.here
  obtain ⟨w1, hw1⟩ : ∃ w1, w.alloc (.cells #[.int .i64 s.id, .int .i64 s.ep, .slice AV s.locs.length CV] TStp) = w1 := ⟨_, rfl⟩
  have hx : Below w.heap.size w w1 := by rw [← hw1]; exact (Below.refl _ _).alloc (Nat.le_refl _) _
  obtain ⟨B, hB⟩ : ∃ B, w.heap.size = B := ⟨_, rfl⟩
  have hrow : w1.rowIs B TStp 3 (fun i => #[Value.int .i64 s.id, .int .i64 s.ep, .slice AV s.locs.length CV].getD i undef) := by rw [← hw1, ← hB]; exact row_of w _ _
  have HT := Lib.hid h
  have HT1 := Lib.hid (h.below hx)
  have HOK := Lib.hid hok
  have HX := Lib.hid hx
  have HFEW := Lib.hid hfew
  have HW1 := Lib.hid hw1
  have HBE := Lib.hid hB
  have HSI := Lib.hid o1
  obtain ⟨N, hN⟩ : ∃ N, s.locs.length = N := ⟨_, rfl⟩
  have HN := Lib.hid hN
  rw [hN] at hrow HW1 ⊢
  have HROW := Lib.hid hrow
  have b0 := HROW.out.cell (i := 0) (by omega)
  clear h hV hst o1 o2 o3 hx hrow hw1 hB hN hfew hok
  go_enter Tryd.func34, Tryd.ntmps34
  go_upto_region 1 with fail
  rw [HW1.out, HBE.out]
  go_wp2_with fail
  refine (findC HT1.out HOK.out s.id HSI.out).mono ?_
  rintro _ w2 ⟨hb2, hfd⟩
  have HB2 := Lib.hid (HX.out.trans (hb2.mono HX.out.size))
  have HR2 := Lib.hid (HROW.out.of_block (hb2.block B HROW.out.lt))
  clear hb2 b0
  rcases hfd with ⟨o, A2, C2, k, ho, hk, hek, rfl, hon⟩ | ⟨hno, rfl⟩
  · obtain ⟨A9, C9, e9, hsts, o1, o2, o3, o4⟩ := hon.here
    cases e9
    have hal : Below w2.heap.size w2 (w2.alloc (.cells #[.string o.key, .int .i64 o.id, .int .i64 o.size, .slice A2 o.stripes.length C2] TObj)) := (Below.refl _ _).alloc (Nat.le_refl _) _
    have hbox := boxed4 w2 (.string o.key) (.int .i64 o.id) (.int .i64 o.size) (.slice A2 o.stripes.length C2)
    have HOB := Lib.hid (And.intro ho (And.intro hk hek))
    have HOI := Lib.hid (And.intro o1 (And.intro o2 (And.intro o3 o4)))
    have HSTS := Lib.hid (hsts.below hal)
    obtain ⟨n, hn⟩ : ∃ n, o.stripes.length = n := ⟨_, rfl⟩
    have HNN := Lib.hid hn
    rw [hn] at hal hbox HSTS ⊢
    obtain ⟨w3, hw3⟩ : ∃ w3, w2.alloc (.cells #[.string o.key, .int .i64 o.id, .int .i64 o.size, .slice A2 n C2] TObj) = w3 := ⟨_, rfl⟩
    rw [hw3] at hal hbox HSTS
    have HW3 := Lib.hid hw3
    obtain ⟨g5, hg5⟩ : ∃ g5, w2.heap.size = g5 := ⟨_, rfl⟩
    have HG5 := Lib.hid hg5
    rw [hg5] at hbox
    have HBOX := Lib.hid hbox
    have HB3 := Lib.hid (HB2.out.trans (hal.mono HB2.out.size))
    have HR3 := Lib.hid (HR2.out.of_block (hal.block B HR2.out.lt))
    have hBg : B < g5 := by rw [← hg5]; exact HR2.out.lt
    have hkn : k < n := by rw [← hn]; exact hk
    clear ho hk hek hon hsts o1 o2 o3 o4 hal hbox hn hw3 hg5
    go_upto_region 2 with fail
    rw [HW3.out, HG5.out]
    have c0 := HR3.out.cell (i := 0) (by omega)
    have c1 := HR3.out.cell (i := 1) (by omega)
    have c2 := HR3.out.cell (i := 2) (by omega)
    go_wp2_with fail
    refine (rightStripeC (HT.out.below HB3.out).code (.agg #[.int .i64 s.id, .int .i64 s.ep, .slice AV N CV]) s (by rw [← HN.out]; exact (Sure.later HV.out (Turned.of_below _ HB3.out)).here)).mono ?_
    rintro _ w4 ⟨rfl, hb4⟩
    have HB4 := Lib.hid (HB3.out.trans (hb4.mono HB3.out.size))
    have HR4 := Lib.hid (HR3.out.of_block (hb4.block B HR3.out.lt))
    have HBOX4 := Lib.hid (HBOX.out.of_block (hb4.block g5 HBOX.out.lt))
    have HSTS4 := Lib.hid (HSTS.out.below hb4)
    clear hb4 c0 c1 c2
    by_cases hrs : Tb.StpOk t.n s
    · rw [decide_eq_true hrs]
      have HP := Lib.hid (show moveT t s = some (withO t (Kl.put Tb.keyOf (Tb.movedO o k s) t.objs)) by unfold moveT; rw [if_pos hrs, Tb.move_at HOK.out HOB.out.1 HOB.out.2.1 HOB.out.2.2]; rfl)
      have HRS := Lib.hid hrs
      have c0 := HBOX4.out.cell (i := 0) (by omega)
      have c1 := HBOX4.out.cell (i := 1) (by omega)
      have c2 := HBOX4.out.cell (i := 2) (by omega)
      have c3 := HBOX4.out.cell (i := 3) (by omega)
      have hbig := bigsOk HOK.out (by have := HT.out.km; omega) HOB.out.1
      have HBIG := Lib.hid hbig
      have HOIS := Lib.hid (show ObjIs w4 (.agg #[.string o.key, .int .i64 o.id, .int .i64 o.size, .slice A2 n C2]) o from ⟨A2, C2, by rw [HNN.out], by rw [HNN.out]; exact HSTS4.out, HOI.out⟩)
      clear hrs hbig
      go_wp2_with fail
      refine (cloneObjectC o _ HOIS.out HBIG.out.1 HBIG.out.2).mono ?_
      rintro _ w5 ⟨A5, C5, rfl, hcs, hb5, -⟩
      obtain ⟨A8, C8, e8, -, g1, g2, -, hq⟩ := hcs
      have hAC : A8 = A5 ∧ C8 = C5 := by
        injection e8 with e8
        injection e8 with q1 q2 q3
        exact ⟨q1.symm, q3.symm⟩
      obtain ⟨rfl, rfl⟩ := hAC
      obtain ⟨g, f, rfl, hg, hsr, hnew⟩ := hq (by have := HOB.out.2.1; omega)
      rw [HNN.out] at hsr g1
      have hgw4 : w4.heap.size ≤ g := hg
      have r5 := HBOX4.out.of_block (hb5.block g5 HBOX4.out.lt)
      have rB5 := HR4.out.of_block (hb5.block B HR4.out.lt)
      have hz := ((((r5.set 0 (.string o.key)).set 1 (.int .i64 o.id)).set 2 (.int .i64 o.size)).set 3 (.slice (some ⟨g, 0, none⟩) n C8))
      have ht6 : Turned (fun y => y = g5) w5 ((((w5.setCell ⟨g5, 0, none⟩ (.string o.key)).setCell ⟨g5, 1, none⟩ (.int .i64 o.id)).setCell ⟨g5, 2, none⟩ (.int .i64 o.size)).setCell ⟨g5, 3, none⟩ (.slice (some ⟨g, 0, none⟩) n C8)) := ((((Turned.set (F := fun y => y = g5) (b := g5) _ rfl).trans (Turned.set (F := fun y => y = g5) (b := g5) _ rfl) (Grown.refl _ _)).trans (Turned.set (F := fun y => y = g5) (b := g5) _ rfl) (Grown.refl _ _)).trans (Turned.set (F := fun y => y = g5) (b := g5) _ rfl) (Grown.refl _ _))
      have hg5w : g5 < w4.heap.size := HBOX4.out.lt
      have y0 := r5.cell (i := 0) (by omega)
      have y1 := r5.cell (i := 1) (by omega)
      have y2 := r5.cell (i := 2) (by omega)
      have y3 := r5.cell (i := 3) (by omega)
      have j0 := r5.frozen 0
      have j1 := r5.frozen 1
      have j2 := r5.frozen 2
      have j3 := r5.frozen 3
      obtain ⟨w6, hw6⟩ : ∃ w6, ((((w5.setCell ⟨g5, 0, none⟩ (.string o.key)).setCell ⟨g5, 1, none⟩ (.int .i64 o.id)).setCell ⟨g5, 2, none⟩ (.int .i64 o.size)).setCell ⟨g5, 3, none⟩ (.slice (some ⟨g, 0, none⟩) n C8)) = w6 := ⟨_, rfl⟩
      have HW6 := Lib.hid hw6
      rw [hw6] at hz ht6
      have hz6 : w6.rowIs g5 TObj 4 (fun i => #[Value.string o.key, .int .i64 o.id, .int .i64 o.size, .slice (some ⟨g, 0, none⟩) n C8].getD i undef) := hz.congr (fun i hi => by rcases (by omega : i = 0 ∨ i = 1 ∨ i = 2 ∨ i = 3) with rfl | rfl | rfl | rfl <;> rfl)
      have hsr6 := hsr.keep (ht6.block g (hsr.lt (by omega)) (fun q => by omega))
      have rB6 := rB5.of_block (ht6.block B rB5.lt (fun q => by omega))
      have hwg5 : w.heap.size ≤ g5 := by have := HBE.out; omega
      have hbw5 : Below w.heap.size w w5 := HB4.out.trans (hb5.mono HB4.out.size)
      have hbw6 : Below w.heap.size w w6 := hbw5.trans (ht6.below (fun y q => by rw [q]; exact hwg5) hbw5.size)
      have hwg : w.heap.size ≤ g := Nat.le_trans HB4.out.size hgw4
      have hpX : ∀ y, (y = p ∨ M = some y) → y < w.heap.size := fun y q => by
        rcases q with q | q
        · rw [q]; exact HT.out.head.lt
        · exact (HT.out.map_lt y q).1
      have hn6 : ∀ i (hi : i < o.stripes.length), On (fun b => w.heap.size ≤ b ∧ b < w6.heap.size ∧ b ≠ g) w6 (fun w'' => StpW w'' (f i) o.stripes[i]) := fun i hi =>
        On.more ((hnew i hi).turned ht6 (fun b q z => by have := z.1; omega)) fun b q => ⟨Nat.le_trans HB4.out.size q.1, Nat.lt_of_lt_of_le q.2.1 ht6.size, q.2.2⟩
      have hmr := moved_reads (k := k) (s := s) (X := fun y => y = p ∨ M = some y) (As := AV) (Cs := CV) hbw6 hwg (by rw [HNN.out]; exact hsr6) (by rw [HNN.out]; exact g1) g2 (by rw [HNN.out]; exact hkn) hn6 HV.out hpX HOI.out
      have ht7 : Turned (fun b => b = g) w6 (((w6.setCell ⟨g, k * 3, none⟩ (.int .i64 s.id)).setCell ⟨g, k * 3 + 1, none⟩ (.int .i64 s.ep)).setCell ⟨g, k * 3 + 2, none⟩ (.slice AV N CV)) :=
        ((Turned.set (F := fun b => b = g) (b := g) _ rfl).trans (Turned.set (F := fun b => b = g) (b := g) _ rfl) (Grown.refl _ _)).trans (Turned.set (F := fun b => b = g) (b := g) _ rfl) (Grown.refl _ _)
      rw [HN.out, HNN.out] at hmr
      obtain ⟨w7, hw7⟩ : ∃ w7, ((w6.setCell ⟨g, k * 3, none⟩ (.int .i64 s.id)).setCell ⟨g, k * 3 + 1, none⟩ (.int .i64 s.ep)).setCell ⟨g, k * 3 + 2, none⟩ (.slice AV N CV) = w7 := ⟨_, rfl⟩
      have HW7 := Lib.hid hw7
      rw [hw7] at hmr ht7
      have hz7 := hz6.of_block (ht7.block g5 hz6.lt (fun q => by omega))
      have HMR := Lib.hid hmr
      have HZ7 := Lib.hid hz7
      have HB7 := Lib.hid (hbw6.trans (ht7.below (fun y q => by rw [q]; exact hwg) hbw6.size))
      have HPX := Lib.hid hpX
      have x0 := hz6.cell (i := 0) (by omega)
      have x3 := hz6.cell (i := 3) (by omega)
      have e0 := rB6.cell (i := 0) (by omega)
      have e1 := rB6.cell (i := 1) (by omega)
      have e2 := rB6.cell (i := 2) (by omega)
      have s0 := hsr6.cell k hkn 0 (by omega)
      have s1 := hsr6.cell k hkn 1 (by omega)
      have s2 := hsr6.cell k hkn 2 (by omega)
      have t0 := hsr6.free k hkn 0 (by omega)
      have t1 := hsr6.free k hkn 1 (by omega)
      have t2 := hsr6.free k hkn 2 (by omega)
      rw [Nat.add_zero] at s0 t0
      have X3 := Lib.hid x3
      have E0 := Lib.hid e0
      have E1 := Lib.hid e1
      have E2 := Lib.hid e2
      have S3 := Lib.hid (And.intro s0 (And.intro s1 (And.intro s2 (And.intro t0 (And.intro t1 t2)))))
      have q1 : (0 : Int) ≤ (k : Int) := by omega
      have q2 : (k : Int) < (n : Int) := by omega
      rw [HNN.out]
      clear hq hsr hnew r5 rB5 hz ht6 hz6 hsr6 rB6 hbw5 hbw6 hn6 hmr ht7 hz7 hw6 hw7 hpX x0 x3 e0 e1 e2 s0 s1 s2 t0 t1 t2 e8 hb5 c0 c1 c2 c3
      go_upto_region 5 with fail
      rw [HW6.out]
      have x3 := X3.out
      have e0 := E0.out
      have e1 := E1.out
      have e2 := E2.out
      obtain ⟨s0, s1, s2, t0, t1, t2⟩ := S3.out
      clear y0 y1 y2 y3 j0 j1 j2 j3
      go_upto_region 6 with fail
      rw [HW7.out]
      clear x3 e0 e1 e2 s0 s1 s2 t0 t1 t2
      have x0 := HZ7.out.cell (i := 0) (by omega)
      have x1 := HZ7.out.cell (i := 1) (by omega)
      have x2 := HZ7.out.cell (i := 2) (by omega)
      have x3 := HZ7.out.cell (i := 3) (by omega)
      go_wp2_with fail
      refine (keepC (HT.out.below HB7.out) HFEW.out (Tb.movedO o k s) _ HMR.out (by show (o.stripes.set k s).length ≤ _; rw [List.length_set]; exact HBIG.out.1) (fun y hy => by
        rcases List.mem_or_eq_of_mem_set hy with q | q
        · exact HBIG.out.2 y q
        · rw [q]
          have h1 := HRS.out.2.2.1
          have h2 := HT.out.km
          omega)).mono ?_
      rintro _ w8 ⟨rfl, E8, M8, ht8, htu8, hE8, hM8⟩
      have HFIN := Lib.hid (show Appl w E p M t (some (withO t (Kl.put Tb.keyOf (Tb.movedO o k s) t.objs))) (.returned (.bool true)) w8 from
        ⟨rfl, E8, M8, A, C, ht8, (Turned.of_below _ HB7.out).trans htu8 (fun y q => .inl q), fun y q => (hE8 y q).imp id (fun z => Nat.le_trans HB7.out.size z), fun y q => (hM8 y q).imp id (fun z => Nat.le_trans HB7.out.size z)⟩)
      clear ht8 htu8 hE8 hM8
      go_wp2
      go_ret
      rw [HP.out]
      exact HFIN.out
    · rw [decide_eq_false hrs]
      have HP := Lib.hid (show moveT t s = none by unfold moveT; rw [if_neg hrs])
      have HQ := Lib.hid (appl_no HT.out HB4.out)
      clear hrs
      go_wp2
      go_ret
      rw [HP.out]
      exact HQ.out
  · have HP := Lib.hid (show moveT t s = none by
      unfold moveT
      rw [Tb.move_no HOK.out hno]
      split <;> rfl)
    have HQ := Lib.hid (appl_no HT.out (HB2.out.trans (((Below.refl w2.heap.size w2).alloc (Nat.le_refl _) (.cells #[.string ⟨#[]⟩, .int .i64 0, .int .i64 0, .slice none 0 0] TObj)).mono HB2.out.size)))
    clear hno
    go_wp2
    go_ret
    rw [HP.out]
    exact HQ.out
end Go.Proofs.YtegbgnjmkohcfaaDoor.Tbl
namespace Kl
variable {α : Type} {key : α → List UInt8}
theorem put_end {x : α} : ∀ {L : List α}, (∀ a ∈ L, lt (key a) (key x) = true) → put key x L = L ++ [x]
  | [], _ => rfl
  | a :: L, h => by
    unfold put
    rw [if_pos (h a (by simp)), put_end fun b hb => h b (by simp [hb])]
    rfl
end Kl
namespace Go.Proofs.YtegbgnjmkohcfaaDoor.Tbl
set_option linter.unusedVariables false
open Go.ChangeShapes Go.WideShapes Go.ChangeAt Go.RowKit
open Go.Mem RecM
def allT (t : Tb.TabD) (r : RecD) : Option Tb.TabD := if 0 ≤ r.id ∧ r.id ≤ 33554432 ∧ 0 ≤ r.size ∧ r.size ≤ 1073741824 ∧ Tb.DrvOk r.drives ∧ Tb.AllOk t.k t.n r.id r.objects then some ⟨t.k, t.n, r.objects, r.drives, r.size, r.id⟩ else none
/-- the map is struck -/
theorem TAt.setNoMap {w : World} {E : Nat → Prop} {p : Nat} {M : Option Nat} {S : Value} {t : Tb.TabD} (h : TAt w E p M S t) : TAt (w.setCell ⟨p, 2, none⟩ (.map none)) E p none S (withO t []) := by
  have hset : Turned (fun y => y = p) w (w.setCell ⟨p, 2, none⟩ (.map none)) := Turned.set _ rfl
  refine ⟨(h.head.set 2 (.map none)).congr fun i hi => ?_, .inl ⟨rfl, rfl⟩, h.sts_set 2 _, fun y q => Nat.lt_of_lt_of_le (h.lt y q) hset.size, h.np, h.km⟩
  rcases (by omega : i = 0 ∨ i = 1 ∨ i = 2 ∨ i = 3 ∨ i = 4 ∨ i = 5) with rfl | rfl | rfl | rfl | rfl | rfl <;> rfl
/-- what reads whatever becomes of X does not stand in X -/
theorem objs_away {X : Nat → Prop} {w : World} {Ao : Option Addr} {n Co : Nat} {L : List ObjD} (h : Sure X w (fun w' => Objs w' (.slice Ao n Co) L)) {i : Nat} (hi : i < L.length) : ∃ b o, Ao = some ⟨b, o, none⟩ ∧ ¬ X b ∧ b < w.heap.size := by
  obtain ⟨b, o, A', C', e, c0, -⟩ := Objs.at h.here hi
  refine ⟨b, o, e, fun hX => ?_, World.block_lt_of_cell? _ _ c0⟩
  have ht : Turned X w (w.setCell ⟨b, o + i * 4, none⟩ (.bool true)) := Turned.set _ hX
  obtain ⟨b2, o2, A2, C2, e2, d0, -⟩ := Objs.at (h _ ht) hi
  rw [e] at e2
  cases e2
  rw [World.cell?_setCell_same w ⟨b, o + i * 4, none⟩ _ c0] at d0
  cases d0
/-- in the midst of all: i objects are there -/
def AlMid (w : World) (E : Nat → Prop) (p : Nat) (S : Value) (t : Tb.TabD) (L : List ObjD) (i : Nat) (wr : World) : Prop := ∃ E' M', TAt wr E' p M' S (withO t (L.take i)) ∧ (∀ y, E' y → E y ∨ w.heap.size ≤ y) ∧ (∀ y, M' = some y → w.heap.size + 1 ≤ y) ∧ Turned (fun y => y = p) w wr
set_option maxRecDepth 100000 in
set_option maxHeartbeats 8000000 in
theorem allGoC {w : World} {E : Nat → Prop} {p : Nat} {M : Option Nat} {A : Option Addr} {C : Nat} {t : Tb.TabD} (h : TAt w E p M (.slice A t.states.length C) t) (r : RecD) (V : Value) (hV : Sure (fun y => y = p ∨ M = some y) w (fun w' => RecV w' V r)) (hlo : r.objects.length ≤ 1000000) (hld : r.drives.length ≤ 1000000) :
    Calls Tryd.prog 36 #[.pointer (some ⟨p, 0, none⟩), V] w (Appl w E p M t (allT t r)) := by
  obtain ⟨As, Ao, Ad, Cs, Co, Cd, rfl, hri⟩ := hV.here
  have hVO : Sure (fun y => y = p ∨ M = some y) w (fun w' => Objs w' (.slice Ao r.objects.length Co) r.objects) := fun w' q => by
    obtain ⟨_, _, _, _, _, _, e9, z⟩ := hV w' q
    cases e9
    exact z.o
  have hVD : Sure (fun y => y = p ∨ M = some y) w (fun w' => Ints w' (.slice Ad r.drives.length Cd) r.drives) := fun w' q => by
    obtain ⟨_, _, _, _, _, _, e9, z⟩ := hV w' q
    cases e9
    exact z.d
  obtain ⟨gA, gB⟩ : r.objects.length ≤ Co ∧ Co ≤ 9223372036854775807 := by
    obtain ⟨A9, C9, e9, g1, g2, -⟩ := hri.o.shape
    cases e9
    exact ⟨g1, g2⟩
  have HI1 := Lib.hid hri.k1
  have HI2 := Lib.hid hri.k2
  have HRI := Lib.hid (And.intro hri.ls (And.intro hri.lo hri.ld))
  have HV := Lib.hid hVO
  have HVD := Lib.hid hVD
  have HT := Lib.hid h
  have HLO := Lib.hid hlo
  have HLD := Lib.hid hld
  unfold recVal
  obtain ⟨N, hN⟩ : ∃ N, r.objects.length = N := ⟨_, rfl⟩
  obtain ⟨nd, hnd⟩ : ∃ nd, r.drives.length = nd := ⟨_, rfl⟩
  obtain ⟨ns, hns⟩ : ∃ ns, r.stripes.length = ns := ⟨_, rfl⟩
  have HN := Lib.hid hN
  have HND := Lib.hid hnd
  rw [hN] at gA HV ⊢
  rw [hnd] at HVD ⊢
  rw [hns]
  obtain ⟨w1, hw1⟩ : ∃ w1, w.alloc (.cells #[.int .i64 r.kind, .int .i64 r.id, .int .i64 r.size, .string r.key, .slice As ns Cs, .slice Ao N Co, .slice Ad nd Cd] TRec) = w1 := ⟨_, rfl⟩
  have hx : Below w.heap.size w w1 := by rw [← hw1]; exact (Below.refl _ _).alloc (Nat.le_refl _) _
  obtain ⟨B, hB⟩ : ∃ B, w.heap.size = B := ⟨_, rfl⟩
  have hrow : w1.rowIs B TRec 7 (fun i => #[Value.int .i64 r.kind, .int .i64 r.id, .int .i64 r.size, .string r.key, .slice As ns Cs, .slice Ao N Co, .slice Ad nd Cd].getD i undef) := by rw [← hw1, ← hB]; exact row_of w _ _
  have HT1 := Lib.hid (h.below hx)
  have HX := Lib.hid hx
  have HW1 := Lib.hid hw1
  have HBE := Lib.hid hB
  have HROW := Lib.hid hrow
  have b1 := HROW.out.cell (i := 1) (by omega)
  have b2 := HROW.out.cell (i := 2) (by omega)
  have b5 := HROW.out.cell (i := 5) (by omega)
  have b6 := HROW.out.cell (i := 6) (by omega)
  have HNO := Lib.hid (appl_no h hx)
  have hpw := h.head.lt
  clear h hri hV hVO hVD hlo hld hN hnd hns hx hrow hw1 hB
  go_enter Tryd.func36, Tryd.ntmps36
  go_upto_region 1 with fail
  rw [HW1.out, HBE.out]
  by_cases h1 : 0 ≤ r.id ∧ r.id ≤ 33554432
  · have H1 := Lib.hid h1
    clear h1
    go_wp2_with fail
    refine (withinY 0 r.id 33554432 _ H1.out.1 H1.out.2).mono ?_
    rintro _ w2 ⟨rfl, rfl⟩
    by_cases h2 : 0 ≤ r.size ∧ r.size ≤ 1073741824
    · have H2 := Lib.hid h2
      clear h2
      go_wp2_with fail
      refine (withinY 0 r.size 1073741824 _ H2.out.1 H2.out.2).mono ?_
      rintro _ w2 ⟨rfl, rfl⟩
      go_wp2_with fail
      refine (rightStatesC _ r.drives _ (Sure.later HVD.out (Turned.of_below _ HX.out)).here).mono ?_
      rintro _ w2 ⟨rfl, rfl⟩
      by_cases h3 : Tb.DrvOk r.drives
      · rw [decide_eq_true h3]
        have H3 := Lib.hid h3
        clear h3
        go_wp2_with fail
        refine (rightObjectsC HT1.out.code r.objects _ (Sure.later HV.out (Turned.of_below _ HX.out)).here HLO.out r.id HI1.out).mono ?_
        rintro _ w2 ⟨rfl, hb2⟩
        have HB2 := Lib.hid (HX.out.trans (hb2.mono HX.out.size))
        have HR2 := Lib.hid (HROW.out.of_block (hb2.block B HROW.out.lt))
        clear hb2 b1 b2 b5 b6
        by_cases h4 : Tb.AllOk t.k t.n r.id r.objects
        · rw [decide_eq_true h4]
          have H4 := Lib.hid h4
          have HP := Lib.hid (show allT t r = some ⟨t.k, t.n, r.objects, r.drives, r.size, r.id⟩ by unfold allT; rw [if_pos ⟨H1.out.1, H1.out.2, H2.out.1, H2.out.2, H3.out, h4⟩])
          have hT2 := HT.out.below HB2.out
          have hT3 := hT2.setNoMap
          have ht3 : Turned (fun y => y = p) w2 (w2.setCell ⟨p, 2, none⟩ (.map none)) := Turned.set _ rfl
          have c2 : w2.cell? ⟨p, 2, none⟩ = some (.map M) := hT2.cell (i := 2) (by omega)
          have f2 : w2.frozen? ⟨p, 2, none⟩ = false := hT2.free 2
          have hr3 := HR2.out.of_block (ht3.block B HR2.out.lt (fun q => by have := HBE.out; omega))
          have HMID := Lib.hid (show AlMid w E p (.slice A t.states.length C) t r.objects 0 (w2.setCell ⟨p, 2, none⟩ (.map none)) from ⟨E, none, hT3, fun y q => .inl q, fun y q => (by cases q), (Turned.of_below _ HB2.out).trans ht3 (Grown.refl _ _)⟩)
          obtain ⟨w3, hw3⟩ : ∃ w3, w2.setCell ⟨p, 2, none⟩ (.map none) = w3 := ⟨_, rfl⟩
          rw [hw3] at hr3 HMID
          have HW3 := Lib.hid hw3
          have HR3 := Lib.hid hr3
          clear h4 hT2 hT3 ht3 hr3 hw3
          go_upto_region 4 with fail
          rw [HW3.out]
          clear c2 f2
          have b5 := HR3.out.cell (i := 5) (by omega)
          go_wp2
          go_loopw [38] (fun c wr => ∃ i : Nat, i ≤ N ∧ c = .int .i64 i ∧ AlMid w E p (.slice A t.states.length C) t r.objects i wr ∧ wr.rowIs B TRec 7 (fun i => #[Value.int .i64 r.kind, .int .i64 r.id, .int .i64 r.size, .string r.key, .slice As ns Cs, .slice Ao N Co, .slice Ad nd Cd].getD i undef)) (fun c _ => N - (intOf c).toNat)
          case atStart => exact ⟨0, Nat.zero_le _, rfl, HMID.out, HR3.out⟩
          case round =>
            obtain ⟨i, hi, rfl, hm, hrB⟩ := hrel
            obtain ⟨E4, M4, ht4, hE4, hM4, htu4⟩ := hm
            have HT4 := Lib.hid ht4
            have HE4 := Lib.hid hE4
            have HM4 := Lib.hid hM4
            have HU4 := Lib.hid htu4
            have HRB := Lib.hid hrB
            by_cases hlt : i < N
            · have hil : i < r.objects.length := by rw [HN.out]; exact hlt
              obtain ⟨bo, oo, rfl, hnX, hblt⟩ := objs_away HV.out hil
              have hTX : Turned (fun y => y = p ∨ M = some y) w wr := htu4.mono fun y q => .inl q
              obtain ⟨b', o', A', C', e', a0, a1, a2, a3, hoi⟩ := Objs.val (HV.out wr hTX) hil
              cases e'
              have hel : ∀ w', Turned (fun y => y = p ∨ M = some y) w w' → ObjIs w' (.agg #[.string r.objects[i].key, .int .i64 r.objects[i].id, .int .i64 r.objects[i].size, .slice A' r.objects[i].stripes.length C']) r.objects[i] := fun w' q => by
                obtain ⟨b2, o2, A2, C2, e2, z0, z1, z2, z3, z4⟩ := Objs.val (HV.out w' q) hil
                cases e2
                have g1 := World.cell?_of_block (w := w) (w' := w') (a := ⟨bo, oo + i * 4 + 3, none⟩) (q.block bo hblt hnX)
                have g2 := World.cell?_of_block (w := w) (w' := wr) (a := ⟨bo, oo + i * 4 + 3, none⟩) (hTX.block bo hblt hnX)
                rw [g1] at z3
                rw [g2, z3] at a3
                cases a3
                exact z4
              have hal : Below wr.heap.size wr (wr.alloc (.cells #[.string r.objects[i].key, .int .i64 r.objects[i].id, .int .i64 r.objects[i].size, .slice A' r.objects[i].stripes.length C'] TObj)) := (Below.refl _ _).alloc (Nat.le_refl _) _
              have hsz5 : (wr.alloc (.cells #[.string r.objects[i].key, .int .i64 r.objects[i].id, .int .i64 r.objects[i].size, .slice A' r.objects[i].stripes.length C'] TObj)).heap.size = wr.heap.size + 1 := by simp
              have hbox := boxed4 wr (.string r.objects[i].key) (.int .i64 r.objects[i].id) (.int .i64 r.objects[i].size) (.slice A' r.objects[i].stripes.length C')
              have hvk : Sure (fun y => y = p ∨ M4 = some y) (wr.alloc (.cells #[.string r.objects[i].key, .int .i64 r.objects[i].id, .int .i64 r.objects[i].size, .slice A' r.objects[i].stripes.length C'] TObj)) (fun w' => ObjIs w' (.agg #[.string r.objects[i].key, .int .i64 r.objects[i].id, .int .i64 r.objects[i].size, .slice A' r.objects[i].stripes.length C']) r.objects[i]) := fun w' q =>
                hel w' ((hTX.trans (Turned.of_below (fun y => y = p ∨ M = some y) hal) (Grown.refl _ _)).trans q (fun y z => z.elim (fun z => .inl (.inl z)) (fun z => .inr (by have := hM4 y z; omega))))
              have hx4 := H4.out.1 _ (List.getElem_mem hil)
              have hput : Kl.put Tb.keyOf r.objects[i] (r.objects.take i) = r.objects.take (i + 1) := by
                rw [List.take_succ_eq_append_getElem hil]
                refine Kl.put_end fun a ha => ?_
                have h9 := H4.out.2.1
                unfold Kl.Rising at h9
                rw [List.pairwise_iff_getElem] at h9
                obtain ⟨j, hj, rfl⟩ := List.getElem_of_mem ha
                have hj' : j < i := by simp at hj; omega
                rw [List.getElem_take]
                exact h9 j i (by omega) hil hj'
              have HPUT := Lib.hid hput
              have HOKX := Lib.hid hx4.1
              obtain ⟨x, hx⟩ : ∃ x, r.objects[i] = x := ⟨_, rfl⟩
              rw [hx] at a0 a1 a2 a3 hal hsz5 hbox hvk HPUT HOKX
              obtain ⟨N2, hN2⟩ : ∃ N2, x.stripes.length = N2 := ⟨_, rfl⟩
              have HN2 := Lib.hid hN2
              rw [hN2] at a3 hal hsz5 hbox hvk
              obtain ⟨w5, hw5⟩ : ∃ w5, wr.alloc (.cells #[.string x.key, .int .i64 x.id, .int .i64 x.size, .slice A' N2 C'] TObj) = w5 := ⟨_, rfl⟩
              rw [hw5] at hal hsz5 hbox hvk
              have HW5 := Lib.hid hw5
              obtain ⟨g, hg⟩ : ∃ g, wr.heap.size = g := ⟨_, rfl⟩
              have HG := Lib.hid hg
              rw [hg] at hbox
              have HBOX := Lib.hid hbox
              have HVK := Lib.hid hvk
              have HAL := Lib.hid hal
              have HSZ5 := Lib.hid hsz5
              have hrb5 := hrB.of_block (hal.block B hrB.lt)
              have HRB5 := Lib.hid hrb5
              have q1 : (0 : Int) ≤ (i : Int) := by omega
              have q2 : (i : Int) < (N : Int) := by omega
              clear ht4 hE4 hM4 htu4 hrB hnX hblt hTX hoi hel hal hsz5 hbox hvk hx4 hput hx hN2 hw5 hg hrb5 hil b5
              go_upto_region 7 with fail
              rw [HW5.out, HG.out]
              have x0 := HBOX.out.cell (i := 0) (by omega)
              have x1 := HBOX.out.cell (i := 1) (by omega)
              have x2 := HBOX.out.cell (i := 2) (by omega)
              have x3 := HBOX.out.cell (i := 3) (by omega)
              go_wp2_with fail
              refine (keepC (t := withO t (r.objects.take i)) (HT4.out.below HAL.out) (by show (r.objects.take i).length ≤ _; rw [List.length_take]; have := HLO.out; omega) x _ HVK.out (by have := Tb.few_stripes (by have := HT.out.km; omega) HOKX.out; omega) (fun y hy => by
                have h8 := (HOKX.out.2.2.2.2.2.2.2.2 y hy).2.2.1
                have h7 := HT.out.km
                omega)).mono ?_
              rintro _ w6 ⟨rfl, E6, M6, ht6, htu6, hE6, hM6⟩
              have hwr : w.heap.size + 1 ≤ wr.heap.size := by have := HRB.out.lt; have := HBE.out; omega
              have HM6 := Lib.hid (show AlMid w E p (.slice A t.states.length C) t r.objects (i + 1) w6 from ⟨E6, M6, by
                have h9 : TAt w6 E6 p M6 (.slice A t.states.length C) (withO t (Kl.put Tb.keyOf x (r.objects.take i))) := ht6
                rw [HPUT.out] at h9
                exact h9, fun y q => (hE6 y q).elim (HE4.out y) (fun z => .inr (by have := HSZ5.out; omega)), fun y q => (hM6 y q).elim (HM4.out y) (fun z => by have := HSZ5.out; omega), (HU4.out.trans (Turned.of_below _ HAL.out) (Grown.refl _ _)).trans htu6 (fun y q => q.elim .inl (fun z => .inr (by have := HM4.out y z; omega)))⟩)
              have HR6 := Lib.hid (HRB5.out.of_block (htu6.block B HRB5.out.lt (fun q => by
                have h1 := HBE.out
                rcases q with q | q
                · omega
                · have := HM4.out B q; omega)))
              clear ht6 htu6 hE6 hM6 x0 x1 x2 x3 a0 a1 a2 a3
              go_wp2
              go_roundw
              case rel => exact ⟨i + 1, by omega, by go_num, HM6.out, HR6.out⟩
              case measure => simp [intOf]; omega
            · obtain rfl : i = N := by omega
              have hall : r.objects.take i = r.objects := List.take_of_length_le (Nat.le_of_eq HN.out)
              rw [hall] at ht4
              have HT5 := Lib.hid ht4
              have hBp : B ≠ p := by have := HBE.out; omega
              have HC := Lib.hid (fun (w' : World) (q : Turned (fun y => y = p) wr w') => (show w'.cell? ⟨B, 1, none⟩ = some (.int .i64 r.id) ∧ w'.cell? ⟨B, 2, none⟩ = some (.int .i64 r.size) ∧ w'.cell? ⟨B, 6, none⟩ = some (.slice Ad nd Cd) from by
                have r9 := HRB.out.of_block (q.block B HRB.out.lt hBp)
                exact ⟨r9.cell (i := 1) (by omega), r9.cell (i := 2) (by omega), r9.cell (i := 6) (by omega)⟩))
              have hdA : Turned (fun y => y = p) wr wr.drew := Turned.drew _ _
              have HCL := Lib.hid (cloneC r.drives (.slice Ad nd Cd) wr.drew (HVD.out _ ((htu4.trans hdA (Grown.refl _ _)).mono fun y q => .inl q)) HLD.out)
              have HWR := Lib.hid (show w.heap.size ≤ wr.heap.size from htu4.size)
              clear hall ht4 hE4 hM4 htu4 hrB b5
              go_wp2_with fail
              go_region_held3 (fun w' => w'.cell? ⟨B, 1, none⟩ = some (.int .i64 r.id) ∧ w'.cell? ⟨B, 2, none⟩ = some (.int .i64 r.size) ∧ w'.cell? ⟨B, 6, none⟩ = some (.slice Ad nd Cd))
                (first | with_reducible exact HC.out _ hdF3 | with_reducible exact HC.out _ hdF2 | with_reducible exact HC.out _ hdF1 | with_reducible exact HC.out _ hdB | with_reducible exact HC.out _ hdA)
                ((go_at_call 18; (with_reducible refine HCL.out.mono ?_); rintro _ w8 ⟨u, rfl, hbu, hb8⟩; have hdB : Turned (fun y => y = p) wr w8 := hdA.trans (Turned.of_below _ hb8) (Grown.refl _ _); obtain ⟨A2, C2, rfl, -⟩ := hbu.len; rw [HND.out] at hbu ⊢; have hT8 := HT5.out.below ((Go.Mem.below_drewN _ wr 1).trans hb8); have d5 : w8.cell? ⟨p, 5, none⟩ = some (.int .i64 t.last) := hT8.cell (i := 5) (by omega); have d4 : w8.cell? ⟨p, 4, none⟩ = some (.int .i64 t.epoch) := hT8.cell (i := 4) (by omega); have d3 : w8.cell? ⟨p, 3, none⟩ = some (.slice A t.states.length C) := hT8.cell (i := 3) (by omega); have f5 : w8.frozen? ⟨p, 5, none⟩ = false := hT8.free 5; have f4 : w8.frozen? ⟨p, 4, none⟩ = false := hT8.free 4; have f3 : w8.frozen? ⟨p, 3, none⟩ = false := hT8.free 3;
                  have hdF1 : Turned (fun y => y = p) wr (w8.setCell ⟨p, 5, none⟩ (.int .i64 r.id)) := hdB.trans (Turned.set (F := fun y => y = p) (b := p) _ rfl) (Grown.refl _ _); have hdF2 : Turned (fun y => y = p) wr ((w8.setCell ⟨p, 5, none⟩ (.int .i64 r.id)).setCell ⟨p, 4, none⟩ (.int .i64 r.size)) := hdF1.trans (Turned.set (F := fun y => y = p) (b := p) _ rfl) (Grown.refl _ _); have hdF3 : Turned (fun y => y = p) wr (((w8.setCell ⟨p, 5, none⟩ (.int .i64 r.id)).setCell ⟨p, 4, none⟩ (.int .i64 r.size)).setCell ⟨p, 3, none⟩ (.slice A2 nd C2)) := hdF2.trans (Turned.set (F := fun y => y = p) (b := p) _ rfl) (Grown.refl _ _);
                  have HT8 := Lib.hid hT8; have HBU := Lib.hid hbu; have HDF := Lib.hid hdF3; clear hT8 hbu hb8))
              all_goals
                clear hdA hdB hdF1 hdF2 hdF3 d5 d4 d3 f5 f4 f3
                go_wp2
                go_ret
                rw [HP.out]
                have hown := HBU.out.own_lt
                have hwr0 : wr.drew.heap.size = wr.heap.size := rfl
                have hpr := HT5.out.head.lt
                have hT9 := HT8.out.more (E' := fun y => E4 y ∨ (Value.slice A2 nd C2).ownBlock = some y) (fun y q => .inl q) (fun y q => q.elim (HT8.out.lt y) (fun z => (hown y z).2)) (fun q => q.elim HT8.out.np (fun z => by have := (hown p z).1; omega)) (fun b q z => z.elim (HT8.out.map_lt b q).2.1 (fun y => by have := (hown b y).1; have := (HT5.out.map_lt b q).1; omega))
                have hne : ∀ y, y = p → ¬ (Value.slice A2 nd C2).ownBlock = some y := fun y q z => by have := (hown y z).1; omega
                have hon : On (fun y => (Value.slice A2 nd C2).ownBlock = some y) (((w8.setCell ⟨p, 5, none⟩ (.int .i64 r.id)).setCell ⟨p, 4, none⟩ (.int .i64 r.size)).setCell ⟨p, 3, none⟩ (.slice A2 nd C2)) (fun w' => Ints w' (.slice A2 nd C2) r.drives) :=
                  On.turned (On.turned (On.turned (ints_own HBU.out) (Turned.set (F := fun y => y = p) (b := p) _ rfl) hne) (Turned.set (F := fun y => y = p) (b := p) _ rfl) hne) (Turned.set (F := fun y => y = p) (b := p) _ rfl) hne
                have hT10 := ((hT9.setLast r.id).setEpoch r.size).setStates (S' := .slice A2 nd C2) r.drives (On.more hon fun y q => .inr q)
                refine ⟨rfl, (fun y => E4 y ∨ (Value.slice A2 nd C2).ownBlock = some y), M4, A2, C2, by show TAt _ _ _ _ (.slice A2 r.drives.length C2) _; rw [HND.out]; exact hT10, (HU4.out.trans HDF.out (Grown.refl _ _)).mono fun y q => .inl q, fun y q => q.elim (HE4.out y) (fun z => .inr (by have := (hown y z).1; have := HWR.out; omega)), fun y q => .inr (by have := HM4.out y q; omega)⟩
        · rw [decide_eq_false h4]
          have HP := Lib.hid (show allT t r = none by unfold allT; rw [if_neg (fun q => h4 q.2.2.2.2.2)])
          have HQ := Lib.hid (appl_no HT.out HB2.out)
          clear h4
          go_wp2
          go_ret
          rw [HP.out]
          exact HQ.out
      · rw [decide_eq_false h3]
        have HP := Lib.hid (show allT t r = none by unfold allT; rw [if_neg (fun q => h3 q.2.2.2.2.1)])
        clear h3
        go_wp2
        go_ret
        rw [HP.out]
        exact HNO.out
    · have H2 := Lib.hid h2
      have HP := Lib.hid (show allT t r = none by unfold allT; rw [if_neg (fun q => h2 ⟨q.2.2.1, q.2.2.2.1⟩)])
      clear h2
      go_wp2_with fail
      refine (withinN 0 r.size 1073741824 _ H2.out).mono ?_
      rintro _ w2 ⟨rfl, rfl⟩
      go_wp2
      go_ret
      rw [HP.out]
      exact HNO.out
  · have H1 := Lib.hid h1
    have HP := Lib.hid (show allT t r = none by unfold allT; rw [if_neg (fun q => h1 ⟨q.1, q.2.1⟩)])
    clear h1
    go_wp2_with fail
    refine (withinN 0 r.id 33554432 _ H1.out).mono ?_
    rintro _ w2 ⟨rfl, rfl⟩
    go_wp2
    go_ret
    rw [HP.out]
    exact HNO.out
end Go.Proofs.YtegbgnjmkohcfaaDoor.Tbl
namespace Go.Proofs.YtegbgnjmkohcfaaDoor.Tbl
set_option linter.unusedVariables false
open Go.ChangeShapes Go.WideShapes Go.ChangeAt Go.RowKit
open Go.Mem RecM
theorem Appl.lift {w w1 w' : World} {E : Nat → Prop} {p : Nat} {M : Option Nat} {t : Tb.TabD} {r : Option Tb.TabD} {e : Ending} (h : Appl w1 E p M t r e w') (hb : Below w.heap.size w w1) : Appl w E p M t r e w' := by
  obtain ⟨h1, E', M', A', C', h2, h3, h4, h5⟩ := h
  exact ⟨h1, E', M', A', C', h2, (Turned.of_below _ hb).trans h3 (Grown.refl _ _), fun y q => (h4 y q).imp id (Nat.le_trans hb.size), fun y q => (h5 y q).imp id (Nat.le_trans hb.size)⟩
/-- what reads whatever becomes of X: its first stripe by itself -/
theorem stps_first {X : Nat → Prop} {w w1 : World} {As : Option Addr} {n Cs : Nat} {L : List StpD} (h : Sure X w (fun w' => Stps w' (.slice As n Cs) L)) (ht : Turned X w w1) {i : Nat} (hi : i < L.length) : ∃ b o A' C', As = some ⟨b, o, none⟩ ∧ w1.cell? ⟨b, o + i * 3, none⟩ = some (.int .i64 L[i].id) ∧ w1.cell? ⟨b, o + i * 3 + 1, none⟩ = some (.int .i64 L[i].ep) ∧ w1.cell? ⟨b, o + i * 3 + 2, none⟩ = some (.slice A' L[i].locs.length C') ∧
    Sure X w1 (fun w' => StpIs w' (.agg #[.int .i64 L[i].id, .int .i64 L[i].ep, .slice A' L[i].locs.length C']) L[i]) := by
  obtain ⟨b, o, A', C', e, c0, c1, c2, c3, c4⟩ := Stps.at (h w1 ht) hi
  have hblt : b < w.heap.size := by
    obtain ⟨b0, o0, A0, C0, e0, d0, -⟩ := Stps.at h.here hi
    rw [e] at e0
    cases e0
    exact World.block_lt_of_cell? _ _ d0
  have hnX : ¬ X b := fun hX => by
    have ht2 : Turned X w1 (w1.setCell ⟨b, o + i * 3, none⟩ (.bool true)) := Turned.set _ hX
    obtain ⟨b2, o2, A2, C2, e2, d0, -⟩ := Stps.at (h _ (ht.trans ht2 (Grown.refl _ _))) hi
    rw [e] at e2
    cases e2
    rw [World.cell?_setCell_same w1 ⟨b, o + i * 3, none⟩ _ c0] at d0
    cases d0
  refine ⟨b, o, A', C', e, c0, c1, c2, fun w' q => ?_⟩
  obtain ⟨b2, o2, A2, C2, e2, d0, d1, d2, d3, d4⟩ := Stps.at (h w' (ht.trans q (Grown.refl _ _))) hi
  rw [e] at e2
  cases e2
  have g1 := World.cell?_of_block (w := w1) (w' := w') (a := ⟨b, o + i * 3 + 2, none⟩) (q.block b (Nat.lt_of_lt_of_le hblt ht.size) hnX)
  rw [g1, c2] at d2
  cases d2
  exact ⟨A', C', rfl, d3, d4⟩
set_option maxRecDepth 100000 in
set_option maxHeartbeats 8000000 in
theorem applyC {w : World} {E : Nat → Prop} {p : Nat} {M : Option Nat} {A : Option Addr} {C : Nat} {t : Tb.TabD} (h : TAt w E p M (.slice A t.states.length C) t) (hok : t.Ok) (hfew : t.objs.length ≤ 1000000) (r : RecD) (V : Value) (hV : Sure (fun y => y = p ∨ M = some y) w (fun w' => RecV w' V r)) (hlo : r.objects.length ≤ 1000000) (hld : r.drives.length ≤ 1000000) :
    Calls Tryd.prog 23 #[.pointer (some ⟨p, 0, none⟩), V] w (Appl w E p M t (Tb.apply t r)) := by
  obtain ⟨As, Ao, Ad, Cs, Co, Cd, rfl, hri⟩ := hV.here
  have hVS : Sure (fun y => y = p ∨ M = some y) w (fun w' => Stps w' (.slice As r.stripes.length Cs) r.stripes) := fun w' q => by
    obtain ⟨_, _, _, _, _, _, e9, z⟩ := hV w' q
    cases e9
    exact z.s
  have hVD : Ints w (.slice Ad r.drives.length Cd) r.drives := hri.d
  obtain ⟨w1, hw1⟩ : ∃ w1, w.alloc (.cells #[.int .i64 r.kind, .int .i64 r.id, .int .i64 r.size, .string r.key, .slice As r.stripes.length Cs, .slice Ao r.objects.length Co, .slice Ad r.drives.length Cd] TRec) = w1 := ⟨_, rfl⟩
  have hx : Below w.heap.size w w1 := by rw [← hw1]; exact (Below.refl _ _).alloc (Nat.le_refl _) _
  obtain ⟨B, hB⟩ : ∃ B, w.heap.size = B := ⟨_, rfl⟩
  have hrow : w1.rowIs B TRec 7 (fun i => #[Value.int .i64 r.kind, .int .i64 r.id, .int .i64 r.size, .string r.key, .slice As r.stripes.length Cs, .slice Ao r.objects.length Co, .slice Ad r.drives.length Cd].getD i undef) := by rw [← hw1, ← hB]; exact row_of w _ _
  have HPUT := Lib.hid (putC (h.below hx) hfew (Tb.putObj r) (.agg #[.string r.key, .int .i64 r.id, .int .i64 r.size, .slice As r.stripes.length Cs]) (fun w' q => ⟨As, Cs, rfl, hVS w' ((Turned.of_below _ hx).trans q (Grown.refl _ _)), hri.k1, hri.k2, hri.k3, hri.ls⟩))
  have HDEL := Lib.hid (delC (h.below hx) hok r.key hri.k3 r.id hri.k1)
  have HPOOL := Lib.hid (poolC (h.below hx) hok r.id hri.k1 (.slice Ad r.drives.length Cd) r.drives (hVD.below hx) hld)
  have HALL := Lib.hid (allGoC (h.below hx) r _ (Sure.later hV (Turned.of_below _ hx)) hlo hld)
  have HMOV := Lib.hid (fun (s : StpD) (V : Value) hv => moveC (h.below hx) hok hfew s V hv)
  have HSTP := Lib.hid (fun (i : Nat) (hi : i < r.stripes.length) => stps_first hVS (Turned.of_below _ hx) hi)
  have HNO := Lib.hid (appl_no h hx)
  have hls := hri.ls
  unfold LenOk at hls
  have gS : r.stripes.length ≤ Cs := by
    obtain ⟨A9, C9, e9, g1, g2, -⟩ := hri.s.shape
    cases e9
    exact g1
  unfold recVal at HALL ⊢
  have HX := Lib.hid hx
  have HW1 := Lib.hid hw1
  have HBE := Lib.hid hB
  have HROW := Lib.hid hrow
  obtain ⟨N, hN⟩ : ∃ N, r.stripes.length = N := ⟨_, rfl⟩
  have HN := Lib.hid hN
  obtain ⟨no, hno⟩ : ∃ no, r.objects.length = no := ⟨_, rfl⟩
  obtain ⟨nd, hnd⟩ : ∃ nd, r.drives.length = nd := ⟨_, rfl⟩
  rw [hN] at HPUT HALL HW1 HROW hls gS
  rw [hno] at HALL HW1 HROW
  rw [hnd] at HPOOL HALL HW1 HROW
  rw [hN, hno, hnd]
  have b0 := HROW.out.cell (i := 0) (by omega)
  have b1 := HROW.out.cell (i := 1) (by omega)
  have b2 := HROW.out.cell (i := 2) (by omega)
  have b3 := HROW.out.cell (i := 3) (by omega)
  have b4 := HROW.out.cell (i := 4) (by omega)
  have b5 := HROW.out.cell (i := 5) (by omega)
  have b6 := HROW.out.cell (i := 6) (by omega)
  clear h hok hfew hV hri hVS hVD hlo hld hx hrow hw1 hB hN hno hnd
  by_cases k1 : r.kind = 1
  · have HP := Lib.hid (show Tb.apply t r = putT t (Tb.putObj r) by unfold Tb.apply putT; rw [if_pos k1]; rfl)
    have e1 : (r.kind == 1) = true := by rw [k1]; rfl
    clear k1
    go_enter Tryd.func23, Tryd.ntmps23
    go_upto_region 1 with fail
    rw [HW1.out, HBE.out]
    go_wp2_with fail
    refine HPUT.out.mono ?_
    rintro _ w2 ha
    have ha2 := Lib.hid (ha.lift HX.out)
    obtain ⟨rfl, -⟩ := ha
    obtain ⟨z, hz⟩ : ∃ z, (putT t (Tb.putObj r)).isSome = z := ⟨_, rfl⟩
    rw [hz] at ha2 ⊢
    clear hz
    go_wp2
    go_ret
    rw [HP.out]
    exact ha2.out
  have e1 : (r.kind == 1) = false := by simpa using k1
  by_cases k2 : r.kind = 2
  · have HP := Lib.hid (show Tb.apply t r = delT t r.key r.id by unfold Tb.apply delT; rw [if_neg k1, if_pos k2])
    have e2 : (r.kind == 2) = true := by rw [k2]; rfl
    clear k1 k2
    go_enter Tryd.func23, Tryd.ntmps23
    go_upto_region 1 with fail
    rw [HW1.out, HBE.out]
    go_wp2_with fail
    refine HDEL.out.mono ?_
    rintro _ w2 ha
    have ha2 := Lib.hid (ha.lift HX.out)
    obtain ⟨rfl, -⟩ := ha
    obtain ⟨z, hz⟩ : ∃ z, (delT t r.key r.id).isSome = z := ⟨_, rfl⟩
    rw [hz] at ha2 ⊢
    clear hz
    go_wp2
    go_ret
    rw [HP.out]
    exact ha2.out
  have e2 : (r.kind == 2) = false := by simpa using k2
  by_cases k3 : r.kind = 3
  · have e3 : (r.kind == 3) = true := by rw [k3]; rfl
    by_cases hn1 : N = 1
    · have hl1 : r.stripes.length = 1 := by rw [HN.out]; exact hn1
      obtain ⟨b, o, A', C', rfl, c0, c1, c2, hs⟩ := HSTP.out 0 (by omega)
      have HP := Lib.hid (show Tb.apply t r = moveT t (r.stripes[0]'(by omega)) by
        have h9 : r.stripes = [r.stripes[0]'(by omega)] := by
          refine List.ext_getElem (by simpa using hl1) fun i q1 q2 => ?_
          have : i = 0 := by omega
          subst this
          rfl
        generalize r.stripes[0]'(by omega) = s at h9
        unfold Tb.apply moveT
        rw [if_neg k1, if_neg k2, if_pos k3, h9]
        rfl)
      have HM := Lib.hid (HMOV.out _ _ hs)
      obtain ⟨x, hx⟩ : ∃ x, r.stripes[0]'(by omega) = x := ⟨_, rfl⟩
      rw [hx] at c0 c1 c2 HP HM
      obtain ⟨m, hm⟩ : ∃ m, x.locs.length = m := ⟨_, rfl⟩
      rw [hm] at c2 HM
      rw [Nat.zero_mul, Nat.add_zero] at c0 c1 c2
      have e9 : ((N : Int) == 1) = true := by rw [hn1]; rfl
      have hN0 : (0 : Int) < (N : Int) := by omega
      clear k1 k2 k3 hn1 hl1 hs hx hm
      go_enter Tryd.func23, Tryd.ntmps23
      go_upto_region 1 with fail
      rw [HW1.out, HBE.out]
      go_wp2_with fail
      refine HM.out.mono ?_
      rintro _ w2 ha
      have ha2 := Lib.hid (ha.lift HX.out)
      obtain ⟨rfl, -⟩ := ha
      obtain ⟨z, hz⟩ : ∃ z, (moveT t x).isSome = z := ⟨_, rfl⟩
      rw [hz] at ha2 ⊢
      clear hz
      go_wp2
      go_ret
      rw [HP.out]
      exact ha2.out
    · have HP := Lib.hid (show Tb.apply t r = none by
        have h9 := HN.out
        unfold Tb.apply
        rw [if_neg k1, if_neg k2, if_pos k3]
        split
        · rename_i hs
          rw [hs] at h9
          exact absurd h9.symm hn1
        · rfl)
      have e9 : ((N : Int) == 1) = false := by simp; omega
      clear k1 k2 k3 hn1
      go_enter Tryd.func23, Tryd.ntmps23
      go_upto_region 1 with fail
      rw [HW1.out, HBE.out]
      go_wp2
      go_ret
      rw [HP.out]
      exact HNO.out
  have e3 : (r.kind == 3) = false := by simpa using k3
  by_cases k4 : r.kind = 4
  · have HP := Lib.hid (show Tb.apply t r = poolT t r.id r.drives by unfold Tb.apply poolT; rw [if_neg k1, if_neg k2, if_neg k3, if_pos k4])
    have e4 : (r.kind == 4) = true := by rw [k4]; rfl
    clear k1 k2 k3 k4
    go_enter Tryd.func23, Tryd.ntmps23
    go_upto_region 1 with fail
    rw [HW1.out, HBE.out]
    go_wp2_with fail
    refine HPOOL.out.mono ?_
    rintro _ w2 ha
    have ha2 := Lib.hid (ha.lift HX.out)
    obtain ⟨rfl, -⟩ := ha
    obtain ⟨z, hz⟩ : ∃ z, (poolT t r.id r.drives).isSome = z := ⟨_, rfl⟩
    rw [hz] at ha2 ⊢
    clear hz
    go_wp2
    go_ret
    rw [HP.out]
    exact ha2.out
  have e4 : (r.kind == 4) = false := by simpa using k4
  by_cases k5 : r.kind = 5
  · have HP := Lib.hid (show Tb.apply t r = allT t r by unfold Tb.apply allT; rw [if_neg k1, if_neg k2, if_neg k3, if_neg k4, if_pos k5])
    have e5 : (r.kind == 5) = true := by rw [k5]; rfl
    clear k1 k2 k3 k4 k5
    go_enter Tryd.func23, Tryd.ntmps23
    go_upto_region 1 with fail
    rw [HW1.out, HBE.out]
    go_wp2_with fail
    refine HALL.out.mono ?_
    rintro _ w2 ha
    have ha2 := Lib.hid (ha.lift HX.out)
    obtain ⟨rfl, -⟩ := ha
    obtain ⟨z, hz⟩ : ∃ z, (allT t r).isSome = z := ⟨_, rfl⟩
    rw [hz] at ha2 ⊢
    clear hz
    go_wp2
    go_ret
    rw [HP.out]
    exact ha2.out
  have e5 : (r.kind == 5) = false := by simpa using k5
  have HP := Lib.hid (show Tb.apply t r = none by unfold Tb.apply; rw [if_neg k1, if_neg k2, if_neg k3, if_neg k4, if_neg k5])
  clear k1 k2 k3 k4 k5
  go_enter Tryd.func23, Tryd.ntmps23
  go_upto_region 1 with fail
  rw [HW1.out, HBE.out]
  go_wp2
  go_ret
  rw [HP.out]
  exact HNO.out
end Go.Proofs.YtegbgnjmkohcfaaDoor.Tbl
namespace Go.Proofs.YtegbgnjmkohcfaaDoor.Tbl
set_option linter.unusedVariables false
open Go.ChangeShapes Go.WideShapes Go.ChangeAt Go.RowKit
open Go.Mem RecM
def errI (b : Bool) : Int := if b = true then 0 else 2
def ApplE (w : World) (E : Nat → Prop) (p : Nat) (M : Option Nat) (t : Tb.TabD) (r : Option Tb.TabD) (e : Ending) (w' : World) : Prop := e = .returned (.int .i64 (errI r.isSome)) ∧
  ∃ E' M' A' C', TAt w' E' p M' (.slice A' (r.getD t).states.length C') (r.getD t) ∧ Turned (fun y => y = p ∨ M = some y) w w' ∧ (∀ y, E' y → E y ∨ w.heap.size ≤ y) ∧ (∀ y, M' = some y → M = some y ∨ w.heap.size ≤ y)
set_option maxRecDepth 100000 in
set_option maxHeartbeats 8000000 in
theorem applyEC {w : World} {E : Nat → Prop} {p : Nat} {M : Option Nat} {A : Option Addr} {C : Nat} {t : Tb.TabD} (h : TAt w E p M (.slice A t.states.length C) t) (hok : t.Ok) (hfew : t.objs.length ≤ 1000000) (r : RecD) (V : Value) (hV : Sure (fun y => y = p ∨ M = some y) w (fun w' => RecV w' V r)) (hlo : r.objects.length ≤ 1000000) (hld : r.drives.length ≤ 1000000) :
    Calls Tryd.prog 13 #[.pointer (some ⟨p, 0, none⟩), V] w (ApplE w E p M t (Tb.apply t r)) := by
  obtain ⟨As, Ao, Ad, Cs, Co, Cd, rfl, hri⟩ := hV.here
  unfold recVal
  obtain ⟨w1, hw1⟩ : ∃ w1, w.alloc (.cells #[.int .i64 r.kind, .int .i64 r.id, .int .i64 r.size, .string r.key, .slice As r.stripes.length Cs, .slice Ao r.objects.length Co, .slice Ad r.drives.length Cd] TRec) = w1 := ⟨_, rfl⟩
  have hx : Below w.heap.size w w1 := by rw [← hw1]; exact (Below.refl _ _).alloc (Nat.le_refl _) _
  obtain ⟨B, hB⟩ : ∃ B, w.heap.size = B := ⟨_, rfl⟩
  have hrow : w1.rowIs B TRec 7 (fun i => #[Value.int .i64 r.kind, .int .i64 r.id, .int .i64 r.size, .string r.key, .slice As r.stripes.length Cs, .slice Ao r.objects.length Co, .slice Ad r.drives.length Cd].getD i undef) := by rw [← hw1, ← hB]; exact row_of w _ _
  have HAP := Lib.hid (applyC (h.below hx) hok hfew r _ (Sure.later hV (Turned.of_below _ hx)) hlo hld)
  unfold recVal at HAP
  have HX := Lib.hid hx
  have HW1 := Lib.hid hw1
  have HBE := Lib.hid hB
  have HROW := Lib.hid hrow
  obtain ⟨N, hN⟩ : ∃ N, r.stripes.length = N := ⟨_, rfl⟩
  obtain ⟨no, hno⟩ : ∃ no, r.objects.length = no := ⟨_, rfl⟩
  obtain ⟨nd, hnd⟩ : ∃ nd, r.drives.length = nd := ⟨_, rfl⟩
  rw [hN, hno, hnd] at HAP HW1 HROW
  rw [hN, hno, hnd]
  have b0 := HROW.out.cell (i := 0) (by omega)
  have b1 := HROW.out.cell (i := 1) (by omega)
  have b2 := HROW.out.cell (i := 2) (by omega)
  have b3 := HROW.out.cell (i := 3) (by omega)
  have b4 := HROW.out.cell (i := 4) (by omega)
  have b5 := HROW.out.cell (i := 5) (by omega)
  have b6 := HROW.out.cell (i := 6) (by omega)
  clear h hok hfew hV hri hlo hld hx hrow hw1 hB hN hno hnd
  go_enter Tryd.func13, Tryd.ntmps13
  go_upto_region 1 with fail
  rw [HW1.out, HBE.out]
  go_wp2_with fail
  refine HAP.out.mono ?_
  rintro _ w2 ha
  have HA := Lib.hid (ha.lift HX.out)
  obtain ⟨rfl, -⟩ := ha
  have HE := Lib.hid (show ApplE w E p M t (Tb.apply t r) (.returned (.int .i64 (errI (Tb.apply t r).isSome))) w2 from ⟨rfl, HA.out.2⟩)
  obtain ⟨z, hz⟩ : ∃ z, (Tb.apply t r).isSome = z := ⟨_, rfl⟩
  rw [hz] at HE ⊢
  clear hz HA
  cases z
  · go_wp2
    go_ret
    exact HE.out
  · go_wp2
    go_ret
    exact HE.out
set_option maxHeartbeats 2000000 in
theorem applyNo (w : World) (a b c : Int) (s : ByteArray) (As Ao Ad : Option Addr) (ns no nd Cs Co Cd : Nat) : Calls Tryd.prog 13 #[.pointer none, .agg #[.int .i64 a, .int .i64 b, .int .i64 c, .string s, .slice As ns Cs, .slice Ao no Co, .slice Ad nd Cd]] w fun e w' => e = .returned (.int .i64 2) ∧ Below w.heap.size w w' := by
  go_enter Tryd.func13, Tryd.ntmps13
  go_wp2
  go_ret
  exact ⟨rfl, (Below.refl _ _).alloc (Nat.le_refl _) _⟩
set_option maxHeartbeats 2000000 in
theorem newC (w : World) (k m : Int) (hk : I64 k) (hm : I64 m) : Calls Tryd.prog 14 #[.int .i64 k, .int .i64 m] w fun e w' => e = .returned (.pointer (some ⟨w.heap.size, 0, none⟩)) ∧ w' = w.alloc (.cells #[.int .i64 k, .int .i64 m, .map none, .slice none 0 0, .int .i64 0, .int .i64 0] TTb) := by
  go_enter Tryd.func14, Tryd.ntmps14
  go_wp2
  go_ret
  exact ⟨rfl, rfl⟩
/-- the program's table, for the laws -/
def PDt : Thing := fun w F p t => t.Ok ∧ ∃ E M A C, TAt w E p M (.slice A t.states.length C) t ∧ ∀ b, F b ↔ (E b ∨ b = p ∨ M = some b)
theorem new_at (w : World) (k n : Int) (hkm : (k = 3 ∧ n = 5) ∨ (k = 1 ∧ n = 1) ∨ (k = 2 ∧ n = 3)) : TAt (w.alloc (.cells #[.int .i64 k, .int .i64 (n - k), .map none, .slice none 0 0, .int .i64 0, .int .i64 0] TTb)) (fun _ => False) w.heap.size none (.slice none 0 0) (Tb.empty k n) := by
  refine ⟨(row_of w #[Value.int .i64 k, .int .i64 (n - k), .map none, .slice none 0 0, .int .i64 0, .int .i64 0] TTb).congr fun i hi => ?_, .inl ⟨rfl, rfl⟩, fun w' _ => Ints.nil w', fun y q => q.elim, fun q => q, hkm⟩
  have hi' : i < 6 := hi
  rcases (by omega : i = 0 ∨ i = 1 ∨ i = 2 ∨ i = 3 ∨ i = 4 ∨ i = 5) with rfl | rfl | rfl | rfl | rfl | rfl <;> rfl
theorem cells_stps {K : Nat → Prop} {w : World} {V : Value} {L : List StpD} (h : Cells 3 (StpO K) w V L) : Stps w V L := Cells.mono h (fun _ _ q => q) (fun _ _ q => q.here.1)
end Go.Proofs.YtegbgnjmkohcfaaDoor.Tbl
