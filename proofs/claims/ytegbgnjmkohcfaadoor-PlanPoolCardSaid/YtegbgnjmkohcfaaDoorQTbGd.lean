/- The program's table: which objects are right. The program's table: which rows of objects are right. The program's table: keep. The program's table: put, del. The program's table: pool, move. -/
import Derived.Test.YtegbgnjmkohcfaaDoorQTbGc
import Derived.WalkSpells
import Derived.StillTailTactics
import Derived.Test.YtegbgnjmkohcfaaDoorQTbL
namespace Go.Proofs.YtegbgnjmkohcfaaDoor.Tbl
set_option linter.unusedVariables false
open Go.ChangeShapes Go.WideShapes Go.ChangeAt Go.RowKit
open Go.Mem RecM
theorem boxed3 (w : World) (c0 c1 c2 : Value) : (w.alloc (.cells #[c0, c1, c2] TStp)).rowIs w.heap.size TStp 3 (fun j => #[c0, c1, c2].getD j undef) := row_of w _ _
set_option maxRecDepth 100000 in
set_option maxHeartbeats 8000000 in
theorem rightObjectC {w : World} {p : Nat} {k n : Int} (h : KM w p k n) (o : ObjD) (V : Value) (hV : ObjIs w V o) :
    Calls Tryd.prog 47 #[.pointer (some ⟨p, 0, none⟩), V] w fun e w' => e = .returned (.bool (decide (Tb.ObjOk k n o))) ∧ Below w.heap.size w w' := by
  obtain ⟨A, C, rfl, hi, i0, i1, i2, i3⟩ := hV
  obtain ⟨key, id, size, l⟩ := o
  dsimp only at hi i0 i1 i2 i3 ⊢
  obtain ⟨w1, hw1⟩ : ∃ w1, w.alloc (.cells #[.string key, .int .i64 id, .int .i64 size, .slice A l.length C] TObj) = w1 := ⟨_, rfl⟩
  have hx : Below w.heap.size w w1 := by rw [← hw1]; exact (Below.refl _ _).alloc (Nat.le_refl _) _
  obtain ⟨B, hB⟩ : ∃ B, w.heap.size = B := ⟨_, rfl⟩
  have hrow : w1.rowIs B TObj 4 (fun i => #[Value.string key, .int .i64 id, .int .i64 size, .slice A l.length C].getD i undef) := by rw [← hw1, ← hB]; exact row_of w _ _
  obtain ⟨gA, gB⟩ : l.length ≤ C ∧ C ≤ 9223372036854775807 := by
    obtain ⟨A9, C9, e9, g1, g2, -⟩ := hi.shape
    cases e9
    exact ⟨g1, g2⟩
  have HK := Lib.hid (h.below hx)
  have HI := Lib.hid (hi.below hx)
  have HX := Lib.hid hx
  have HW1 := Lib.hid hw1
  have HBE := Lib.hid hB
  have HNUM := Lib.hid (fun i hil q => Tb.obj_num (k := k) (N := n) (o := ⟨key, id, size, l⟩) (i := i) hil q)
  have HSTP := Lib.hid (fun i hil q => Tb.obj_stp (k := k) (N := n) (o := ⟨key, id, size, l⟩) (i := i) hil q)
  have HLEN := Lib.hid (fun q => Tb.obj_len (k := k) (N := n) (o := ⟨key, id, size, l⟩) q)
  have HALL := Lib.hid (fun q1 q2 q3 q4 q5 q6 q7 q8 => Tb.goodTo_all (k := k) (N := n) (o := ⟨key, id, size, l⟩) q1 q2 q3 q4 q5 q6 q7 q8)
  have HKEY := Lib.hid (show ¬ (1 ≤ (key.size : Int) ∧ (key.size : Int) ≤ 16) → decide (Tb.ObjOk k n ⟨key, id, size, l⟩) = false from fun q => decide_eq_false fun z => q ⟨by have z1 : 1 ≤ key.size := z.1; omega, by have z1 : key.size ≤ 16 := z.2.1; omega⟩)
  have HID := Lib.hid (show ¬ (1 ≤ id ∧ id ≤ 33554432) → decide (Tb.ObjOk k n ⟨key, id, size, l⟩) = false from fun q => decide_eq_false fun z => q ⟨z.2.2.1, z.2.2.2.1⟩)
  have HSIZ := Lib.hid (show ¬ (0 ≤ size ∧ size ≤ 96) → decide (Tb.ObjOk k n ⟨key, id, size, l⟩) = false from fun q => decide_eq_false fun z => q ⟨z.2.2.2.2.1, z.2.2.2.2.2.1⟩)
  obtain ⟨R, hR⟩ : ∃ R, decide (Tb.ObjOk k n ⟨key, id, size, l⟩) = R := ⟨_, rfl⟩
  rw [hR] at HNUM HSTP HLEN HALL HKEY HID HSIZ ⊢
  obtain ⟨N, hN⟩ : ∃ N, l.length = N := ⟨_, rfl⟩
  have HN := Lib.hid hN
  rw [hN] at HI hrow HW1 gA ⊢
  have HROW := Lib.hid hrow
  have b0 := HROW.out.cell (i := 0) (by omega)
  have b1 := HROW.out.cell (i := 1) (by omega)
  have b2 := HROW.out.cell (i := 2) (by omega)
  have b3 := HROW.out.cell (i := 3) (by omega)
  have hks : key.size ≤ 140737488351232 := i2
  have hn47 : N ≤ 140737488351232 := by have : LenOk l.length := i3; unfold LenOk at this; omega
  clear h hi hx hrow hw1 hB hR hN i0 i1 i2 i3
  go_enter Tryd.func47, Tryd.ntmps47
  go_upto_region 1 with fail
  rw [HW1.out, HBE.out]
  by_cases h1 : 1 ≤ (key.size : Int) ∧ (key.size : Int) ≤ 16
  · have H1 := Lib.hid h1
    clear h1
    go_wp2_with fail
    refine (withinY 1 key.size 16 _ H1.out.1 H1.out.2).mono ?_
    rintro _ w2 ⟨rfl, rfl⟩
    by_cases h2 : 1 ≤ id ∧ id ≤ 33554432
    · have H2 := Lib.hid h2
      obtain ⟨g2, g3⟩ := h2
      go_wp2_with fail
      refine (withinY 1 id 33554432 _ H2.out.1 H2.out.2).mono ?_
      rintro _ w2 ⟨rfl, rfl⟩
      by_cases h3 : 0 ≤ size ∧ size ≤ 96
      · have H3 := Lib.hid h3
        clear h3
        go_wp2_with fail
        refine (withinY 0 size 96 _ H3.out.1 H3.out.2).mono ?_
        rintro _ w2 ⟨rfl, rfl⟩
        go_wp2
        go_loopw [27] (fun c wr => ∃ i : Nat, i ≤ N ∧ c = .int .i64 i ∧ Tb.GoodTo n (16 * id) l i ∧ Below w1.heap.size w1 wr) (fun c _ => N - (intOf c).toNat)
        case atStart => exact ⟨0, Nat.zero_le _, rfl, Tb.goodTo_zero _ _ _, Below.refl _ _⟩
        case round =>
          obtain ⟨i, hi, rfl, hs, hb⟩ := hrel
          have HS := Lib.hid hs
          have HB := Lib.hid hb
          have hr := HROW.out.of_block (hb.block B HROW.out.lt)
          by_cases hlt : i < N
          · have hil : i < l.length := by rw [HN.out]; exact hlt
            obtain ⟨b, ob, A', C', rfl, a0, a1, a2, a3, a4⟩ := (HI.out.below hb).at hil
            have HNX := Lib.hid (fun q0 q1 => Tb.goodTo_succ hil hs q0 q1)
            have HN1 := Lib.hid (HNUM.out i hil)
            have HN2 := Lib.hid (HSTP.out i hil)
            have hal : Below wr.heap.size wr (wr.alloc (.cells #[.int .i64 l[i].id, .int .i64 l[i].ep, .slice A' l[i].locs.length C'] TStp)) := (Below.refl _ _).alloc (Nat.le_refl _) _
            have hbox := boxed3 wr (.int .i64 l[i].id) (.int .i64 l[i].ep) (.slice A' l[i].locs.length C')
            have HST := Lib.hid (show StpIs (wr.alloc (.cells #[.int .i64 l[i].id, .int .i64 l[i].ep, .slice A' l[i].locs.length C'] TStp)) (.agg #[.int .i64 l[i].id, .int .i64 l[i].ep, .slice A' l[i].locs.length C']) l[i] from ⟨A', C', rfl, a3.below hal, a4⟩)
            have r5 := hr.of_block (hal.block B hr.lt)
            obtain ⟨x, hx⟩ : ∃ x, l[i] = x := ⟨_, rfl⟩
            rw [hx] at a0 a1 a2 HST HNX HN1 HN2 hal hbox r5
            obtain ⟨M, hM⟩ : ∃ M, x.locs.length = M := ⟨_, rfl⟩
            rw [hM] at a2 HST hal hbox r5
            have HKW := Lib.hid ((HK.out.below hb).below hal)
            have HB5 := Lib.hid (hb.trans (hal.mono hb.size))
            obtain ⟨w5, hw5⟩ : ∃ w5, wr.alloc (.cells #[.int .i64 x.id, .int .i64 x.ep, .slice A' M C'] TStp) = w5 := ⟨_, rfl⟩
            rw [hw5] at HST hbox r5 HKW HB5
            have HW5 := Lib.hid hw5
            obtain ⟨g, hg⟩ : ∃ g, wr.heap.size = g := ⟨_, rfl⟩
            have HG := Lib.hid hg
            rw [hg] at hbox
            have x0 := hbox.cell (i := 0) (by omega)
            have x1 := hbox.cell (i := 1) (by omega)
            have x2 := hbox.cell (i := 2) (by omega)
            have y1 := r5.cell (i := 1) (by omega)
            have X0 := Lib.hid x0
            have X1 := Lib.hid x1
            have X2 := Lib.hid x2
            have Y1 := Lib.hid y1
            have q1 : (0 : Int) ≤ (i : Int) := by omega
            have q2 : (i : Int) < (N : Int) := by omega
            clear hx hM hs hb hr hil a3 a4 hal hbox r5 hw5 hg x0 x1 x2 y1
            have c3 := b3
            go_upto_region 6 with fail
            rw [HW5.out, HG.out]
            have x0 := X0.out
            have x1 := X1.out
            have x2 := X2.out
            have y1 := Y1.out
            by_cases hid : x.id = 16 * id + i
            · have e8 : (x.id != 16 * id + (i : Int)) = false := by rw [hid]; simp
              have HID2 := Lib.hid hid
              clear hid
              go_wp2_with fail
              refine (rightStripeC HKW.out _ x HST.out).mono ?_
              rintro _ w6 ⟨rfl, hb6⟩
              have HB6 := Lib.hid (HB5.out.trans (hb6.mono HB5.out.size))
              by_cases hok : Tb.StpOk n x
              · rw [decide_eq_true hok]
                have HE := Lib.hid (HNX.out HID2.out hok)
                clear hb6 hok a0 a1 a2 x0 x1 x2 y1 e8
                go_wp2
                go_roundw
                case rel => exact ⟨i + 1, by omega, by go_num, HE.out, HB6.out⟩
                case measure => simp [intOf]; omega
              · rw [decide_eq_false hok]
                have HE := Lib.hid (HN2.out hok)
                clear hb6 hok a0 a1 a2 x0 x1 x2 y1 e8
                go_wp2
                go_ret
                exact ⟨ret_bool HE.out.symm, by rw [HBE.out]; exact (HBE.out ▸ HX.out : Below B w w1).trans (HB6.out.mono (by rw [← HBE.out]; exact HX.out.size))⟩
            · have e8 : (x.id != 16 * id + (i : Int)) = true := by rw [bne_iff_ne]; exact hid
              have HE := Lib.hid (HN1.out hid)
              clear hid
              go_wp2
              go_ret
              exact ⟨ret_bool HE.out.symm, by rw [HBE.out]; exact (HBE.out ▸ HX.out : Below B w w1).trans (HB5.out.mono (by rw [← HBE.out]; exact HX.out.size))⟩
          · obtain rfl : i = N := by omega
            have q1 : ¬ (i : Int) < (i : Int) := by omega
            have c2 := hr.cell (i := 2) (by omega)
            have c3 := hr.cell (i := 3) (by omega)
            have HKW := Lib.hid (HK.out.below hb)
            clear hb hr hs b0 b1 b2 b3
            go_wp2_with fail
            go_quiet ((go_at_call 70; exact Calls.quiet_of (countC (HKW.out.below (below_drewN _ _ _)) size H3.out.1 H3.out.2)))
            by_cases hc : (i : Int) = Tb.nStp k size
            · have HE := Lib.hid (HALL.out (show 1 ≤ key.size by have := H1.out; omega) (show key.size ≤ 16 by have := H1.out; omega) H2.out.1 H2.out.2 H3.out.1 H3.out.2 (by rw [HN.out]; exact hc) (by rw [HN.out]; exact HS.out))
              have E7 := Lib.hid (show ((i : Int) == Tb.nStp k size) = true by rw [hc]; simp)
              have HBW := Lib.hid (HX.out.trans (HB.out.mono HX.out.size))
              clear hc
              go_wp2
              go_ret
              exact ⟨ret_bool (E7.out.trans HE.out.symm), HBW.out.trans (below_drewN _ _ _)⟩
            · have HE := Lib.hid (HLEN.out (by rw [HN.out]; exact hc))
              have E7 := Lib.hid (show ((i : Int) == Tb.nStp k size) = false by simpa using hc)
              have HBW := Lib.hid (HX.out.trans (HB.out.mono HX.out.size))
              clear hc
              go_wp2
              go_ret
              exact ⟨ret_bool (E7.out.trans HE.out.symm), HBW.out.trans (below_drewN _ _ _)⟩
      · have H3 := Lib.hid h3
        clear h3
        go_wp2_with fail
        refine (withinN 0 size 96 _ H3.out).mono ?_
        rintro _ w2 ⟨rfl, rfl⟩
        go_wp2
        go_ret
        exact ⟨ret_bool (HSIZ.out H3.out).symm, HX.out⟩
    · have H2 := Lib.hid h2
      clear h2
      go_wp2_with fail
      refine (withinN 1 id 33554432 _ H2.out).mono ?_
      rintro _ w2 ⟨rfl, rfl⟩
      go_wp2
      go_ret
      exact ⟨ret_bool (HID.out H2.out).symm, HX.out⟩
  · have H1 := Lib.hid h1
    clear h1
    go_wp2_with fail
    refine (withinN 1 key.size 16 _ H1.out).mono ?_
    rintro _ w2 ⟨rfl, rfl⟩
    go_wp2
    go_ret
    exact ⟨ret_bool (HKEY.out H1.out).symm, HX.out⟩
end Go.Proofs.YtegbgnjmkohcfaaDoor.Tbl
namespace Tb
open Go Go.Mem Kl
theorem rising_next {L : List ObjD} {i : Nat} (hi : i < L.length) (h : Rising keyOf (L.take i)) (hl : i = 0 ∨ ∃ hj : i - 1 < L.length, lt (keyOf L[i - 1]) (keyOf L[i]) = true) : Rising keyOf (L.take (i + 1)) := by
  unfold Rising at h ⊢
  rw [List.pairwise_iff_getElem] at h ⊢
  intro a b ha hb hab
  have hb' : b < i + 1 := by simp at hb; omega
  have ha' : a < L.length := by simp at ha; omega
  have hbl : b < L.length := by omega
  rw [List.getElem_take, List.getElem_take]
  by_cases e : b = i
  · subst e
    rcases hl with q | ⟨hj, q⟩
    · omega
    · by_cases e2 : a = b - 1
      · subst e2; exact q
      · have h9 := h a (b - 1) (by simp; omega) (by simp; omega) (by omega)
        rw [List.getElem_take, List.getElem_take] at h9
        exact trans h9 q
  · have h9 := h a b (by simp; omega) (by simp; omega) hab
    rw [List.getElem_take, List.getElem_take] at h9
    exact h9
/-- the first i objects are right -/
structure SeenTo (k n x : Int) (L : List ObjD) (i : Nat) : Prop where
  ok : ∀ o ∈ L.take i, ObjOk k n o ∧ o.id ≤ x
  ris : Rising keyOf (L.take i)
theorem seen_zero (k n x : Int) (L : List ObjD) : SeenTo k n x L 0 := ⟨fun o ho => by simp at ho, by unfold Rising; simp⟩
theorem seen_next {k n x : Int} {L : List ObjD} {i : Nat} (hi : i < L.length) (h : SeenTo k n x L i) (h1 : ObjOk k n L[i]) (h2 : L[i].id ≤ x) (hl : i = 0 ∨ ∃ hj : i - 1 < L.length, lt (keyOf L[i - 1]) (keyOf L[i]) = true) : SeenTo k n x L (i + 1) :=
  ⟨fun o ho => by
    rw [List.take_succ_eq_append_getElem hi] at ho
    rcases List.mem_append.1 ho with q | q
    · exact h.ok o q
    · rw [List.mem_singleton.1 q]; exact ⟨h1, h2⟩, rising_next hi h.ris hl⟩
theorem all_objG {k n x : Int} {L : List ObjD} {i : Nat} (hi : i < L.length) (h : ¬ (ObjOk k n L[i] ∧ L[i].id ≤ x)) : decide (AllOk k n x L) = false := decide_eq_false fun q => h (q.1 _ (List.getElem_mem hi))
theorem all_rise {k n x : Int} {L : List ObjD} {i : Nat} (hi : i < L.length) (h0 : 0 < i) (hj : i - 1 < L.length) (h : lt (keyOf L[i - 1]) (keyOf L[i]) = false) : decide (AllOk k n x L) = false := decide_eq_false fun q => by
  have := q.2.1
  unfold Rising at this
  rw [List.pairwise_iff_getElem] at this
  have h9 := this (i - 1) i hj hi (by omega)
  rw [h] at h9
  cases h9
theorem all_seen {k n x : Int} {L : List ObjD} (h : SeenTo k n x L L.length) : decide (AllOk k n x L) = decide ((L.map ObjD.id).Nodup) := by
  obtain ⟨h1, h2⟩ := h
  rw [List.take_length] at h1 h2
  exact decide_eq_decide.2 ⟨fun q => q.2.2, fun q => ⟨h1, h2, q⟩⟩
end Tb
namespace Go.Proofs.YtegbgnjmkohcfaaDoor.Tbl
set_option linter.unusedVariables false
open Go.ChangeShapes Go.WideShapes Go.ChangeAt Go.RowKit
open Go.Mem RecM
abbrev TSet : Nat := 111
abbrev TInt : Nat := 3
theorem lawI : Maps.Keyed Tryd.prog TInt := Maps.int_keyed Tryd.underlying3
abbrev ki (z : Int) : Lit := .int .i64 z
theorem ki_inj {a b : Int} (h : ki a = ki b) : a = b := by
  have e := congrArg (fun l : Lit => match l with | .int _ x => x | _ => 0) h
  exact e
/-- the numbers that came, in a map -/
def HadTo (w : World) (b : Nat) (ids : List Int) (D : DataW Value) : Prop := w.ownsMap Tryd.prog TInt unitElem b ids.length D ∧ (∀ z, Maps.has D (ki z) = decide (z ∈ ids)) ∧ Maps.size D ≤ ids.length ∧ (Maps.size D = ids.length ↔ ids.Nodup)
theorem had_zero (w : World) : HadTo (w.alloc (.map #[] 0)) w.heap.size [] (.map []) := ⟨World.ownsMap_made _ _ _ _, fun z => rfl, Nat.le_refl _, by simp [Maps.size]⟩
theorem had_next {w w' : World} {b : Nat} {ids : List Int} {D : DataW Value} (h : HadTo w b ids D) (z : Int) (h' : w'.ownsMap Tryd.prog TInt unitElem b (ids.length + 1) (D.put (ki z) (.agg []))) : HadTo w' b (ids ++ [z]) (D.put (ki z) (.agg [])) := by
  obtain ⟨h1, h2, h3, h4⟩ := h
  have hT := h1.tidy lawI
  have hk : WideAt.IsKeyLit (ki z) := trivial
  have hs := Maps.size_put (k := ki z) hT (.agg [])
  rw [h2] at hs
  refine ⟨by rw [List.length_append]; exact h', fun y => ?_, ?_, ?_⟩
  · by_cases e : y = z
    · subst e
      rw [Maps.has_put_same hT.isMap hk]
      simp
    · rw [Maps.has_put_other (fun q => e (ki_inj q)), h2]
      simp [e]
  · rw [hs, List.length_append, List.length_singleton]
    split <;> omega
  · rw [hs, List.length_append, List.length_singleton, List.nodup_append]
    by_cases e : z ∈ ids
    · rw [if_pos (by simpa using e)]
      refine ⟨fun q => by omega, fun q => absurd rfl (q.2.2 z e z (by simp))⟩
    · rw [if_neg (by simpa using e)]
      refine ⟨fun q => ⟨h4.1 (by omega), by simp, fun a ha b hb q => e (by rw [List.mem_singleton.1 hb] at q; exact q ▸ ha)⟩, fun q => by have := h4.2 q.1; omega⟩
theorem had_keep {w w' : World} {b : Nat} {ids : List Int} {D : DataW Value} (h : HadTo w b ids D) (hb : Below w.heap.size w w') : HadTo w' b ids D := ⟨own_keep h.1 (hb.block b h.1.lt), h.2⟩
def RoMid (k n x : Int) (w : World) (L : List ObjD) (i : Nat) (wr : World) : Prop := Tb.SeenTo k n x L i ∧ (∃ D, HadTo wr w.heap.size ((L.take i).map ObjD.id) D) ∧ Below w.heap.size w wr
set_option maxRecDepth 100000 in
set_option maxHeartbeats 8000000 in
theorem rightObjectsC {w : World} {p : Nat} {k n : Int} (h : KM w p k n) (L : List ObjD) (V : Value) (hV : Objs w V L) (hlen : L.length ≤ 1000000) (last : Int) (hlast : I64 last) :
    Calls Tryd.prog 53 #[.pointer (some ⟨p, 0, none⟩), V, .int .i64 last] w fun e w' => e = .returned (.bool (decide (Tb.AllOk k n last L))) ∧ Below w.heap.size w w' := by
  obtain ⟨A, C, rfl, gA, gB, -⟩ := hV.shape
  obtain ⟨l1, l2⟩ := hlast
  have hm := had_zero w
  have hx : Below w.heap.size w (w.alloc (.map #[] 0)) := (Below.refl _ _).alloc (Nat.le_refl _) _
  obtain ⟨w1, hw1⟩ : ∃ w1, w.alloc (.map #[] 0) = w1 := ⟨_, rfl⟩
  rw [hw1] at hm hx
  obtain ⟨B, hB⟩ : ∃ B, w.heap.size = B := ⟨_, rfl⟩
  have HM0 := Lib.hid (show RoMid k n last w L 0 w1 from ⟨Tb.seen_zero _ _ _ _, ⟨_, hm⟩, hx⟩)
  have HK := Lib.hid h
  have HI := Lib.hid hV
  have HW1 := Lib.hid hw1
  have HBE := Lib.hid hB
  have HOB := Lib.hid (fun i hi q => Tb.all_objG (k := k) (n := n) (x := last) (L := L) (i := i) hi q)
  have HRI := Lib.hid (fun i hi h0 hj q => Tb.all_rise (k := k) (n := n) (x := last) (L := L) (i := i) hi h0 hj q)
  have HSE := Lib.hid (fun q => Tb.all_seen (k := k) (n := n) (x := last) (L := L) q)
  obtain ⟨R, hR⟩ : ∃ R, decide (Tb.AllOk k n last L) = R := ⟨_, rfl⟩
  rw [hR] at HOB HRI HSE ⊢
  obtain ⟨N, hN⟩ : ∃ N, L.length = N := ⟨_, rfl⟩
  have HN := Lib.hid hN
  rw [hN] at HI gA hlen ⊢
  have hmm := @run_makeMap Tryd.prog
  clear h hV hm hx hw1 hB hR hN
  go_enter Tryd.func53, Tryd.ntmps53
  go_wp2
  rw [HW1.out, HBE.out]
  go_loopw [14] (fun c wr => ∃ i : Nat, i ≤ N ∧ c = .int .i64 i ∧ RoMid k n last w L i wr) (fun c _ => N - (intOf c).toNat)
  case atStart => exact ⟨0, Nat.zero_le _, rfl, HM0.out⟩
  case round =>
    clear hmm
    obtain ⟨i, hi, rfl, hs, ⟨D, hD⟩, hb⟩ := hrel
    have HS := Lib.hid hs
    have HD := Lib.hid hD
    have HB := Lib.hid hb
    by_cases hlt : i < N
    · have hil : i < L.length := by rw [HN.out]; exact hlt
      obtain ⟨b, ob, A', C', rfl, a0, a1, a2, a3, hoi⟩ := Objs.val (HI.out.below hb) hil
      have hal : Below wr.heap.size wr (wr.alloc (.cells #[.string L[i].key, .int .i64 L[i].id, .int .i64 L[i].size, .slice A' L[i].stripes.length C'] TObj)) := (Below.refl _ _).alloc (Nat.le_refl _) _
      have hbox := boxed4 wr (.string L[i].key) (.int .i64 L[i].id) (.int .i64 L[i].size) (.slice A' L[i].stripes.length C')
      obtain ⟨A9, C9, e9, hst, o1, o2, o3, o4⟩ := hoi
      cases e9
      have HST := Lib.hid (hst.below hal)
      have HOI := Lib.hid (And.intro o1 (And.intro o2 (And.intro o3 o4)))
      have HO1 := Lib.hid (HOB.out i hil)
      have HR1 := Lib.hid (HRI.out i hil)
      have HNX := Lib.hid (fun q1 q2 q3 => Tb.seen_next (k := k) (n := n) (x := last) hil hs q1 q2 q3)
      have HTK := Lib.hid (show (L.take (i + 1)).map ObjD.id = (L.take i).map ObjD.id ++ [L[i].id] by rw [List.take_succ_eq_append_getElem hil, List.map_append]; rfl)
      have hpr : 0 < i → ∃ j1 pk, j1 + 1 = i ∧ wr.cell? ⟨b, ob + j1 * 4, none⟩ = some (.string pk) ∧ ∃ hj : i - 1 < L.length, Kl.lt pk.toList L[i].key.toList = Kl.lt (Tb.keyOf L[i - 1]) (Tb.keyOf L[i]) := fun h0 => by
        have hj : i - 1 < L.length := by omega
        obtain ⟨b', ob', A8, C8, e8, z0, -⟩ := Objs.val (HI.out.below hb) hj
        cases e8
        exact ⟨i - 1, L[i - 1].key, by omega, z0, hj, rfl⟩
      have HPR := Lib.hid hpr
      obtain ⟨x, hx⟩ : ∃ x, L[i] = x := ⟨_, rfl⟩
      rw [hx] at a0 a1 a2 a3 hal hbox HST HOI HO1 HR1 HNX HTK HPR
      obtain ⟨N2, hN2⟩ : ∃ N2, x.stripes.length = N2 := ⟨_, rfl⟩
      have HN2 := Lib.hid hN2
      rw [hN2] at a3 hal hbox HST
      obtain ⟨w5, hw5⟩ : ∃ w5, wr.alloc (.cells #[.string x.key, .int .i64 x.id, .int .i64 x.size, .slice A' N2 C'] TObj) = w5 := ⟨_, rfl⟩
      rw [hw5] at hal hbox HST
      have HW5 := Lib.hid hw5
      have HB5 := Lib.hid (hb.trans (hal.mono hb.size))
      have HD5 := Lib.hid (had_keep hD hal)
      have HAL := Lib.hid hal
      obtain ⟨g, hg⟩ : ∃ g, wr.heap.size = g := ⟨_, rfl⟩
      have HG := Lib.hid hg
      rw [hg] at hbox
      have HBOX := Lib.hid hbox
      have q1 : (0 : Int) ≤ (i : Int) := by omega
      have q2 : (i : Int) < (N : Int) := by omega
      clear hx hN2 hw5 hg hal hbox hst o1 o2 o3 o4 hpr hil hs hD hb
      go_upto_region 5 with fail
      rw [HW5.out, HG.out]
      have b0 := HBOX.out.cell (i := 0) (by omega)
      have hstep : ∀ (w6 : World) (j : Nat), w6 = w5.drewN j → HadTo w6 w.heap.size ((L.take i).map ObjD.id) D ∧ w6.rowIs g TObj 4 (fun j => #[Value.string x.key, .int .i64 x.id, .int .i64 x.size, .slice A' N2 C'].getD j undef) ∧ ObjIs w6 (.agg #[.string x.key, .int .i64 x.id, .int .i64 x.size, .slice A' N2 C']) x ∧ Below w.heap.size w w6 ∧ KM w6 p k n := fun w6 j e => by
        subst e
        exact ⟨had_keep HD5.out (below_drewN _ _ _), HBOX.out, ⟨A', C', by rw [HN2.out], by rw [HN2.out]; exact HST.out.drewN j, HOI.out⟩, HB5.out.trans (below_drewN _ _ _), HK.out.below (HB5.out.trans (below_drewN _ _ _))⟩
      have HSTEP := Lib.hid hstep
      clear hstep
      have hcase : (i = 0) ∨ (0 < i) := by omega
      have hrest : (i = 0 ∨ ∃ hj : i - 1 < L.length, Kl.lt (Tb.keyOf L[i - 1]) (Tb.keyOf x) = true) ∨ (0 < i ∧ ∃ hj : i - 1 < L.length, Kl.lt (Tb.keyOf L[i - 1]) (Tb.keyOf x) = false) := by
        rcases hcase with q | q
        · exact .inl (.inl q)
        · obtain ⟨_, _, _, _, hj, _⟩ := HPR.out q
          cases hl : Kl.lt (Tb.keyOf L[i - 1]) (Tb.keyOf x)
          · exact .inr ⟨q, hj, hl⟩
          · exact .inl (.inr ⟨hj, hl⟩)
      clear hcase
      have b1 := HBOX.out.cell (i := 1) (by omega)
      have b2 := HBOX.out.cell (i := 2) (by omega)
      have b3 := HBOX.out.cell (i := 3) (by omega)
      rcases hrest with hlow | ⟨h0, hj, hl⟩
      · have HLOW := Lib.hid hlow
        clear hlow
        by_cases h0 : i = 0
        case' pos =>
          have e0 : ((i : Int) == 0) = true := by rw [h0]; rfl
          clear h0
          go_wp2_with fail
          go_quiet (fail)
          clear e0
        case' neg =>
          obtain ⟨j1, pk, ej, cj, hj, hl⟩ := HPR.out (by omega)
          have hl2 : Kl.lt pk.toList x.key.toList = true := by
            rw [hl]
            rcases HLOW.out with q | ⟨_, q⟩
            · omega
            · exact q
          have cj5 := below_cell HAL.out _ _ cj
          have e0 : ((i : Int) == 0) = false := by simp; omega
          have q3 : IntKind.i64.wrap ((i : Int) - 1) = (j1 : Int) := by rw [IntWalk.i64_in _ (by omega)]; omega
          have q4 : (0 : Int) ≤ (j1 : Int) := by omega
          have q5 : (j1 : Int) < (N : Int) := by omega
          have HE0 := Lib.hid ej
          clear hl hj cj h0 ej
          go_wp2_with fail
          go_quiet (fail)
          clear e0 q3 q4 q5 hl2 cj5
        all_goals
          by_cases hgt : last < x.id
          · have d1 : decide (last < x.id) = true := by simpa using hgt
            have HF := Lib.hid (HO1.out (fun q => by have := q.2; omega))
            clear hgt
            go_wp2
            go_ret
            exact ⟨ret_bool HF.out.symm, HB5.out.trans (below_drewN _ _ _)⟩
          · have d1 : decide (last < x.id) = false := by simpa using hgt
            have HLE := Lib.hid (show x.id ≤ last by omega)
            clear hgt
            go_wp2_with fail
            refine (rightObjectC (HSTEP.out (w5.drewN _) _ rfl).2.2.2.2 x _ (HSTEP.out (w5.drewN _) _ rfl).2.2.1).mono ?_
            rintro _ w7 ⟨rfl, hb7⟩
            have HB7 := Lib.hid (HB5.out.trans ((Below.trans (below_drewN _ _ _) hb7).mono HB5.out.size))
            have HD7 := Lib.hid (had_keep (HSTEP.out (w5.drewN _) _ rfl).1 hb7)
            by_cases hok : Tb.ObjOk k n x
            · rw [decide_eq_true hok]
              have HSN := Lib.hid (HNX.out hok HLE.out HLOW.out)
              have hcell1 : w7.cell? ⟨g, 1, none⟩ = some (.int .i64 x.id) := below_cell hb7 _ _ b1
              have hown : w7.ownsMap Tryd.prog TInt unitElem B ((L.take i).map ObjD.id).length D := by rw [← HBE.out]; exact HD7.out.1
              have hil : ((L.take i).map ObjD.id).length = i := by rw [List.length_map, List.length_take, HN.out]; omega
              have HOWN := Lib.hid hown
              have HIL := Lib.hid hil
              have hid9 := HOI.out.1
              have HWF := Lib.hid (show keyOf Tryd.prog TInt (.int .i64 x.id) = some (ki x.id) from Maps.keyOf_int_mk Tryd.underlying3 (by unfold I64 at hid9; exact WalkArith.wf_i64 (by omega)))
              have HML := Lib.hid (show ((L.take i).map ObjD.id).length < maxLen by rw [hil]; unfold maxLen; omega)
              clear hb7 hok hown hil hid9 b0 b1 b2 b3 a0 a1 a2 a3 d1
              go_wp2_with (at_mapUpdate; refine wpList_mapUpdate_own _ rfl _ _ _ TSet rfl TInt 112 lawI Tryd.underlying111 unitElem B ((L.take i).map ObjD.id).length D rfl HOWN.out HML.out _ _ _ rfl rfl HWF.out _ [] unitElem_mk ?_; intro w8 hown8 hg8)
              have HM8 := Lib.hid (show RoMid k n last w L (i + 1) w8 from ⟨HSN.out, ⟨_, by rw [HTK.out]; exact had_next HD7.out x.id (by rw [HBE.out]; exact hown8)⟩, HB7.out.trans ((Turned.grown (F := fun y => y = B) hg8 (fun k q => (Option.some.inj q).symm)).below (fun y q => by rw [q, HBE.out]; exact Nat.le_refl _) HB7.out.size)⟩)
              clear hown8 hg8
              go_wp2
              go_roundw
              case rel => exact ⟨i + 1, by omega, by go_num, HM8.out⟩
              case measure => simp [intOf]; omega
            · rw [decide_eq_false hok]
              have HF := Lib.hid (HO1.out (fun q => hok q.1))
              clear hb7 hok
              go_wp2
              go_ret
              exact ⟨ret_bool HF.out.symm, HB7.out⟩
      · obtain ⟨j1, pk, ej, cj, hj2, hl3⟩ := HPR.out h0
        have hl2 : Kl.lt pk.toList x.key.toList = false := by rw [hl3]; exact hl
        have HF := Lib.hid (HR1.out h0 hj hl)
        have cj5 := below_cell HAL.out _ _ cj
        have e0 : ((i : Int) == 0) = false := by simp; omega
        have q3 : IntKind.i64.wrap ((i : Int) - 1) = (j1 : Int) := by rw [IntWalk.i64_in _ (by omega)]; omega
        have q4 : (0 : Int) ≤ (j1 : Int) := by omega
        have q5 : (j1 : Int) < (N : Int) := by omega
        have HE0 := Lib.hid ej
        clear hl hj hj2 hl3 cj h0 ej
        go_wp2_with fail
        go_quiet (fail)
        clear e0 q3 q4 q5 hl2 cj5
        go_wp2
        go_ret
        exact ⟨ret_bool HF.out.symm, HB5.out.trans (below_drewN _ _ _)⟩
    · obtain rfl : i = N := by omega
      have q1 : ¬ (i : Int) < (i : Int) := by omega
      have hown : wr.ownsMap Tryd.prog TInt unitElem B ((L.take i).map ObjD.id).length D := by rw [← HBE.out]; exact hD.1
      have HOWN := Lib.hid hown
      have htk : L.take i = L := List.take_of_length_le (Nat.le_of_eq HN.out)
      have HSZ := Lib.hid (show Maps.size D = i ↔ (L.map ObjD.id).Nodup by
        have h9 := hD.2.2.2
        rw [htk, List.length_map, HN.out] at h9
        exact h9)
      have HF := Lib.hid (HSE.out (by rw [HN.out]; exact hs))
      clear hown hD hs hb htk
      go_wp2_with (at_len; refine wpList_len_own _ rfl _ TSet rfl TInt 112 Tryd.underlying111 unitElem B ((L.take i).map ObjD.id).length D rfl HOWN.out ?_)
      obtain ⟨Z, hZ⟩ : ∃ Z, Maps.size D = Z := ⟨_, rfl⟩
      rw [hZ] at HSZ ⊢
      clear hZ
      by_cases hz : Z = i
      · have E7 := Lib.hid (show ((Z : Int) == (i : Int)) = true by rw [hz]; simp)
        have HND := Lib.hid (HSZ.out.1 hz)
        clear hz
        go_wp2
        go_ret
        exact ⟨ret_bool (E7.out.trans (HF.out.trans (decide_eq_true HND.out)).symm), HB.out⟩
      · have E7 := Lib.hid (show ((Z : Int) == (i : Int)) = false by simp; omega)
        have HND := Lib.hid (show ¬ (L.map ObjD.id).Nodup from fun q => hz (HSZ.out.2 q))
        clear hz
        go_wp2
        go_ret
        exact ⟨ret_bool (E7.out.trans (HF.out.trans (decide_eq_false HND.out)).symm), HB.out⟩
end Go.Proofs.YtegbgnjmkohcfaaDoor.Tbl
namespace Go.Proofs.YtegbgnjmkohcfaaDoor.Tbl
set_option linter.unusedVariables false
open Go.ChangeShapes Go.WideShapes Go.ChangeAt Go.RowKit
open Go.Mem RecM
/-- a table with these objects -/
def withO (t : Tb.TabD) (L : List ObjD) : Tb.TabD := ⟨t.k, t.n, L, t.states, t.epoch, t.last⟩
/-- what keep leaves -/
def Kept (w : World) (E : Nat → Prop) (p : Nat) (M : Option Nat) (S : Value) (t : Tb.TabD) (e : Ending) (w' : World) : Prop := e = .returned (.tuple #[]) ∧ ∃ E' M', TAt w' E' p M' S t ∧ Turned (fun y => y = p ∨ M = some y) w w' ∧ (∀ y, E' y → E y ∨ w.heap.size ≤ y) ∧ (∀ y, M' = some y → M = some y ∨ w.heap.size ≤ y)
section
variable {w : World} {E : Nat → Prop} {p : Nat} {A : Option Addr} {C : Nat} {t : Tb.TabD}
set_option maxRecDepth 100000 in
set_option maxHeartbeats 8000000 in
theorem keepC1 {b : Nat} (h : TAt w E p (some b) (.slice A t.states.length C) t) (hfew : t.objs.length ≤ 1000000) (o : ObjD) (V : Value) (hV : Sure (fun y => y = p ∨ some b = some y) w (fun w' => ObjIs w' V o)) (hl1 : o.stripes.length ≤ 1000000) (hl2 : ∀ s ∈ o.stripes, s.locs.length ≤ 1000000) :
    Calls Tryd.prog 48 #[.pointer (some ⟨p, 0, none⟩), V] w (Kept w E p (some b) (.slice A t.states.length C) (withO t (Kl.put Tb.keyOf o t.objs))) := by
  have HVS := Lib.hid hV
  obtain ⟨AV, CV, rfl, hst, o1, o2, o3, o4⟩ := hV.here
  clear hV
  obtain ⟨w1, hw1⟩ : ∃ w1, w.alloc (.cells #[.string o.key, .int .i64 o.id, .int .i64 o.size, .slice AV o.stripes.length CV] TObj) = w1 := ⟨_, rfl⟩
  have hx : Below w.heap.size w w1 := by rw [← hw1]; exact (Below.refl _ _).alloc (Nat.le_refl _) _
  obtain ⟨B, hB⟩ : ∃ B, w.heap.size = B := ⟨_, rfl⟩
  have hrow : w1.rowIs B TObj 4 (fun i => #[Value.string o.key, .int .i64 o.id, .int .i64 o.size, .slice AV o.stripes.length CV].getD i undef) := by rw [← hw1, ← hB]; exact row_of w _ _
  have hsz : w1.heap.size = B + 1 := by rw [← hw1, ← hB]; simp
  have hbb := h.map_lt
  have hpp := h.head.lt
  have hT1 := h.below hx
  have HKO := Lib.hid o3
  have HOI := Lib.hid (And.intro o1 (And.intro o2 (And.intro o3 o4)))
  have HST1 := Lib.hid (hst.below hx)
  have HX := Lib.hid hx
  have HW1 := Lib.hid hw1
  have HBE := Lib.hid hB
  have HSZ := Lib.hid hsz
  have HL1 := Lib.hid hl1
  have HL2 := Lib.hid hl2
  have HFEW := Lib.hid hfew
  obtain ⟨N, hN⟩ : ∃ N, o.stripes.length = N := ⟨_, rfl⟩
  have HN := Lib.hid hN
  rw [hN] at HST1 hrow HW1 ⊢
  have HROW := Lib.hid hrow
  obtain ⟨hbp, D, hmap⟩ := h.someMap
  have hbB : b ≠ B := by have := (hbb b rfl).1; omega
  obtain ⟨w3, hw3⟩ : ∃ w3, w1 = w3 := ⟨_, rfl⟩
  rw [hw3] at HST1 HX HSZ HROW HW1 hT1
  have HROWB := HROW
  have HTAB := Lib.hid hT1
  have HMAP := Lib.hid ((hmap.below (by rw [hw3] at hx; exact hx)))
  have HOV := Lib.hid (show ObjIs w3 (.agg #[.string o.key, .int .i64 o.id, .int .i64 o.size, .slice AV N CV]) o from ⟨AV, CV, by rw [HN.out], by rw [HN.out]; exact HST1.out, HOI.out⟩)
  have HT03 := Lib.hid (Turned.of_below (fun y => y = p ∨ some b = some y) HX.out)
  have c2 : w3.cell? ⟨p, 2, none⟩ = some (.map (some b)) := hT1.cell (i := 2) (by omega)
  have hne : ∀ w' : World, (binOp .eql TMap (.map (some b)) (.map none)).run Tryd.prog w' = .ok (.bool false) w' := fun w' => run_eql_map_nil w' TMap TStr TObj (some b) Tryd.underlying54
  clear h hx hrow hsz hw1 hB hN hst o1 o2 o3 o4 hl1 hl2 hfew hT1 hmap hw3
  go_enter Tryd.func48, Tryd.ntmps48
  go_upto_region 1 with fail
  rw [HW1.out, HBE.out]
  go_wp2_with fail
  have HC := Lib.hid (fun (w' : World) (q : Turned (fun y => y = b) w3 w') => (show (fun w' => w'.cell? ⟨p, 2, none⟩ = some (.map (some b)) ∧ w'.cell? ⟨B, 0, none⟩ = some (.string o.key) ∧ w'.cell? ⟨B, 1, none⟩ = some (.int .i64 o.id) ∧ w'.cell? ⟨B, 2, none⟩ = some (.int .i64 o.size) ∧ w'.cell? ⟨B, 3, none⟩ = some (.slice AV N CV)) w' from by
    have r := HROWB.out.of_block (q.block B HROWB.out.lt (fun z => hbB z.symm))
    have h2 : w'.cell? ⟨p, 2, none⟩ = some (.map (some b)) := (HTAB.out.head.of_block (q.block p HTAB.out.head.lt (fun z => hbp z.symm))).cell (i := 2) (by omega)
    exact ⟨h2, r.cell (i := 0) (by omega), r.cell (i := 1) (by omega), r.cell (i := 2) (by omega), r.cell (i := 3) (by omega)⟩))
  have hdA : Turned (fun y => y = b) w3 w3.drew := Turned.drew _ _
  have HCO := Lib.hid (cloneObjectC (w := w3.drew) o (.agg #[.string o.key, .int .i64 o.id, .int .i64 o.size, .slice AV N CV]) (by
    obtain ⟨A9, C9, e9, z1, z2⟩ := HOV.out
    exact ⟨A9, C9, e9, z1.below (below_drewN _ w3 1), z2⟩) HL1.out HL2.out)
  have HSTORE := Lib.hid (fun (w6 : World) (A6 : Option Addr) (C6 : Nat) (hb6 : Below w3.heap.size w3 w6) (hon6 : On (fun y => w3.heap.size ≤ y ∧ y < w6.heap.size) w6 (fun w'' => ObjIs w'' (.agg #[.string o.key, .int .i64 o.id, .int .i64 o.size, .slice A6 N C6]) o)) =>
    MapOf.store (E' := fun y => E y ∨ (w3.heap.size ≤ y ∧ y < w6.heap.size)) (HMAP.out.below hb6) HFEW.out o (.agg #[.string o.key, .int .i64 o.id, .int .i64 o.size, .slice A6 N C6]) HKO.out (fun x q => .inl q) (fun q => q.elim HMAP.out.nE (fun z => by have := HMAP.out.own.lt; omega)) (On.more hon6 fun y q => .inr q))
  go_region_held3 (fun w' => w'.cell? ⟨p, 2, none⟩ = some (.map (some b)) ∧ w'.cell? ⟨B, 0, none⟩ = some (.string o.key) ∧ w'.cell? ⟨B, 1, none⟩ = some (.int .i64 o.id) ∧ w'.cell? ⟨B, 2, none⟩ = some (.int .i64 o.size) ∧ w'.cell? ⟨B, 3, none⟩ = some (.slice AV N CV))
    (first | with_reducible exact HC.out _ hdC | with_reducible exact HC.out _ hdB | with_reducible exact HC.out _ hdA)
    ((go_at_call 51; (with_reducible refine HCO.out.mono ?_); rintro _ w6 ⟨A6, C6, rfl, -, hb6, hon6⟩; rw [HN.out] at hon6 ⊢; have hbw6 : Below w3.heap.size w3 w6 := (below_drewN _ w3 1).trans hb6; obtain ⟨w7, D7, hr7, hm7, ht7, hs7⟩ := HSTORE.out w6 A6 C6 hbw6 hon6; have hdB : Turned (fun y => y = b) w3 w6 := Turned.of_below _ hbw6; have hdC : Turned (fun y => y = b) w3 w7 := hdB.trans ht7 (Grown.refl _ _); have HM7 := Lib.hid hm7; have HD7 := Lib.hid hdC; have HS7 := Lib.hid (show w6.heap.size = w7.heap.size from hs7.symm); have HS36 := Lib.hid hbw6.size; clear hb6 hon6 hbw6 hm7 ht7 hs7))
  all_goals
    clear hdA hdB hdC
    go_wp2
    go_end0
    have hE7 : ∀ y, (E y ∨ (w3.heap.size ≤ y ∧ y < w6.heap.size)) → E y ∨ w3.heap.size ≤ y := fun y q => q.imp id (fun z => z.1)
    refine ⟨rfl, fun y => E y ∨ (w3.heap.size ≤ y ∧ y < w6.heap.size), some b, ⟨HTAB.out.head.of_block (HD7.out.block p HTAB.out.head.lt (fun z => hbp z.symm)), .inr ⟨b, D7, rfl, hbp, HM7.out⟩, On.more (HTAB.out.sts.turned HD7.out (fun y q z => by subst q; exact HMAP.out.nE z)) (fun y q => .inl q), fun y q => ?_, fun q => ?_, HTAB.out.km⟩, ?_, fun y q => ?_, fun y q => ?_⟩
    · rcases q with q | q
      · exact Nat.lt_of_lt_of_le (HTAB.out.lt y q) HD7.out.size
      · rw [← HS7.out]; exact q.2
    · rcases q with q | q
      · exact HTAB.out.np q
      · have := HTAB.out.head.lt; omega
    · exact HT03.out.trans HD7.out (fun y q => by subst q; exact .inl (.inr rfl))
    · rcases hE7 y q with z | z
      · exact .inl z
      · exact .inr (by have := HT03.out.size; omega)
    · cases q
      exact .inl rfl
set_option maxRecDepth 100000 in
set_option maxHeartbeats 8000000 in
theorem keepC0 (h : TAt w E p none (.slice A t.states.length C) t) (hfew : t.objs.length ≤ 1000000) (o : ObjD) (V : Value) (hV : Sure (fun y => y = p ∨ none = some y) w (fun w' => ObjIs w' V o)) (hl1 : o.stripes.length ≤ 1000000) (hl2 : ∀ s ∈ o.stripes, s.locs.length ≤ 1000000) :
    Calls Tryd.prog 48 #[.pointer (some ⟨p, 0, none⟩), V] w (Kept w E p none (.slice A t.states.length C) (withO t (Kl.put Tb.keyOf o t.objs))) := by
  have HVS := Lib.hid hV
  obtain ⟨AV, CV, rfl, hst, o1, o2, o3, o4⟩ := hV.here
  clear hV
  obtain ⟨w1, hw1⟩ : ∃ w1, w.alloc (.cells #[.string o.key, .int .i64 o.id, .int .i64 o.size, .slice AV o.stripes.length CV] TObj) = w1 := ⟨_, rfl⟩
  have hx : Below w.heap.size w w1 := by rw [← hw1]; exact (Below.refl _ _).alloc (Nat.le_refl _) _
  obtain ⟨B, hB⟩ : ∃ B, w.heap.size = B := ⟨_, rfl⟩
  have hrow : w1.rowIs B TObj 4 (fun i => #[Value.string o.key, .int .i64 o.id, .int .i64 o.size, .slice AV o.stripes.length CV].getD i undef) := by rw [← hw1, ← hB]; exact row_of w _ _
  have hsz : w1.heap.size = B + 1 := by rw [← hw1, ← hB]; simp
  have hbb := h.map_lt
  have hpp := h.head.lt
  have hT1 := h.below hx
  have HKO := Lib.hid o3
  have HOI := Lib.hid (And.intro o1 (And.intro o2 (And.intro o3 o4)))
  have HST1 := Lib.hid (hst.below hx)
  have HX := Lib.hid hx
  have HW1 := Lib.hid hw1
  have HBE := Lib.hid hB
  have HSZ := Lib.hid hsz
  have HL1 := Lib.hid hl1
  have HL2 := Lib.hid hl2
  have HFEW := Lib.hid hfew
  obtain ⟨N, hN⟩ : ∃ N, o.stripes.length = N := ⟨_, rfl⟩
  have HN := Lib.hid hN
  rw [hN] at HST1 hrow HW1 ⊢
  have HROW := Lib.hid hrow
  obtain ⟨b, hb⟩ : ∃ b, w1.heap.size = b := ⟨_, rfl⟩
  have hpB : p < B := by omega
  have hbp : b ≠ p := by omega
  have hbB : b ≠ B := by omega
  obtain ⟨w2, hw2⟩ : ∃ w2, w1.alloc (.map #[] 0) = w2 := ⟨_, rfl⟩
  have hx2 : Below w1.heap.size w1 w2 := by rw [← hw2]; exact (Below.refl _ _).alloc (Nat.le_refl _) _
  obtain ⟨w3, hw3⟩ : ∃ w3, w2.setCell ⟨p, 2, none⟩ (.map (some b)) = w3 := ⟨_, rfl⟩
  have hset : Turned (fun y => y = p) w2 w3 := by rw [← hw3]; exact Turned.set _ rfl
  have hT2 := hT1.below hx2
  have hmade : MapOf E w2 b (.map []) t.objs := by
    rw [h.noMap, ← hw2, ← hb]
    exact MapOf.made E w1 hT1.lt
  have HMAP := Lib.hid (hmade.turned hset (fun x q => ⟨fun z => hT1.np (q ▸ z), fun z => hbp (z.symm.trans q)⟩))
  have hhead : w3.rowIs p TTb 6 (tc t (some b) (.slice A t.states.length C)) := by
    rw [← hw3]
    refine (hT2.head.set 2 (.map (some b))).congr fun j hj => ?_
    rcases (by omega : j = 0 ∨ j = 1 ∨ j = 2 ∨ j = 3 ∨ j = 4 ∨ j = 5) with rfl | rfl | rfl | rfl | rfl | rfl <;> rfl
  have HTAB := Lib.hid (show TAt w3 E p (some b) (.slice A t.states.length C) t from ⟨hhead, .inr ⟨b, _, rfl, hbp, HMAP.out⟩, hT2.sts.turned hset (fun y q z => hT1.np (q ▸ z)), fun y q => Nat.lt_of_lt_of_le (hT2.lt y q) hset.size, hT1.np, hT1.km⟩)
  have HROWB := Lib.hid ((hrow.of_block (hx2.block B (by omega))).of_block (hset.block B (by have := hx2.size; omega) (fun q => by omega)))
  have HT03 := Lib.hid (show Turned (fun y => y = p ∨ (none : Option Nat) = some y) w w3 from ((Turned.of_below (fun y => y = p ∨ (none : Option Nat) = some y) HX.out).trans (Turned.of_below (fun y => y = p ∨ (none : Option Nat) = some y) hx2) (Grown.refl _ _)).trans (hset.mono fun y q => .inl q) (Grown.refl _ _))
  have HST3 := Lib.hid (show Stps w3 (.slice AV N CV) o.stripes from by
    obtain ⟨A8, C8, e8, z8, -⟩ := HVS.out w3 HT03.out
    cases e8
    rw [HN.out] at z8
    exact z8)
  have HOV := Lib.hid (show ObjIs w3 (.agg #[.string o.key, .int .i64 o.id, .int .i64 o.size, .slice AV N CV]) o from ⟨AV, CV, by rw [HN.out], by rw [HN.out]; exact HST3.out, HOI.out⟩)
  have HBW := Lib.hid (show w.heap.size ≤ b by omega)
  have c2 : w1.cell? ⟨p, 2, none⟩ = some (.map none) := hT1.cell (i := 2) (by omega)
  have d2 : (w1.alloc (.map #[] 0)).cell? ⟨p, 2, none⟩ = some (.map none) := by rw [hw2]; exact hT2.cell (i := 2) (by omega)
  have f2 : (w1.alloc (.map #[] 0)).frozen? ⟨p, 2, none⟩ = false := by rw [hw2]; exact hT2.free 2
  have hne : ∀ w' : World, (binOp .eql TMap (.map none) (.map none)).run Tryd.prog w' = .ok (.bool true) w' := fun w' => run_eql_map_nil w' TMap TStr TObj none Tryd.underlying54
  have hmm := @run_makeMap Tryd.prog
  have HW2 := Lib.hid hw2
  have HW3 := Lib.hid hw3
  have HBB := Lib.hid hb
  clear h hx hrow hsz hw1 hB hN hst o1 o2 o3 o4 hl1 hl2 hfew hT1 hT2 hw3 hw2 hx2 hset hmade hhead hb
  go_enter Tryd.func48, Tryd.ntmps48
  go_upto_region 1 with fail
  rw [HW1.out, HBE.out]
  go_upto_region 3 with fail
  rw [HW2.out, HBB.out, HW3.out]
  clear c2 d2 f2 hne hmm
  go_wp2_with fail
  have HC := Lib.hid (fun (w' : World) (q : Turned (fun y => y = b) w3 w') => (show (fun w' => w'.cell? ⟨p, 2, none⟩ = some (.map (some b)) ∧ w'.cell? ⟨B, 0, none⟩ = some (.string o.key) ∧ w'.cell? ⟨B, 1, none⟩ = some (.int .i64 o.id) ∧ w'.cell? ⟨B, 2, none⟩ = some (.int .i64 o.size) ∧ w'.cell? ⟨B, 3, none⟩ = some (.slice AV N CV)) w' from by
    have r := HROWB.out.of_block (q.block B HROWB.out.lt (fun z => hbB z.symm))
    have h2 : w'.cell? ⟨p, 2, none⟩ = some (.map (some b)) := (HTAB.out.head.of_block (q.block p HTAB.out.head.lt (fun z => hbp z.symm))).cell (i := 2) (by omega)
    exact ⟨h2, r.cell (i := 0) (by omega), r.cell (i := 1) (by omega), r.cell (i := 2) (by omega), r.cell (i := 3) (by omega)⟩))
  have hdA : Turned (fun y => y = b) w3 w3.drew := Turned.drew _ _
  have HCO := Lib.hid (cloneObjectC (w := w3.drew) o (.agg #[.string o.key, .int .i64 o.id, .int .i64 o.size, .slice AV N CV]) (by
    obtain ⟨A9, C9, e9, z1, z2⟩ := HOV.out
    exact ⟨A9, C9, e9, z1.below (below_drewN _ w3 1), z2⟩) HL1.out HL2.out)
  have HSTORE := Lib.hid (fun (w6 : World) (A6 : Option Addr) (C6 : Nat) (hb6 : Below w3.heap.size w3 w6) (hon6 : On (fun y => w3.heap.size ≤ y ∧ y < w6.heap.size) w6 (fun w'' => ObjIs w'' (.agg #[.string o.key, .int .i64 o.id, .int .i64 o.size, .slice A6 N C6]) o)) =>
    MapOf.store (E' := fun y => E y ∨ (w3.heap.size ≤ y ∧ y < w6.heap.size)) (HMAP.out.below hb6) HFEW.out o (.agg #[.string o.key, .int .i64 o.id, .int .i64 o.size, .slice A6 N C6]) HKO.out (fun x q => .inl q) (fun q => q.elim HMAP.out.nE (fun z => by have := HMAP.out.own.lt; omega)) (On.more hon6 fun y q => .inr q))
  go_region_held3 (fun w' => w'.cell? ⟨p, 2, none⟩ = some (.map (some b)) ∧ w'.cell? ⟨B, 0, none⟩ = some (.string o.key) ∧ w'.cell? ⟨B, 1, none⟩ = some (.int .i64 o.id) ∧ w'.cell? ⟨B, 2, none⟩ = some (.int .i64 o.size) ∧ w'.cell? ⟨B, 3, none⟩ = some (.slice AV N CV))
    (first | with_reducible exact HC.out _ hdC | with_reducible exact HC.out _ hdB | with_reducible exact HC.out _ hdA)
    ((go_at_call 51; (with_reducible refine HCO.out.mono ?_); rintro _ w6 ⟨A6, C6, rfl, -, hb6, hon6⟩; rw [HN.out] at hon6 ⊢; have hbw6 : Below w3.heap.size w3 w6 := (below_drewN _ w3 1).trans hb6; obtain ⟨w7, D7, hr7, hm7, ht7, hs7⟩ := HSTORE.out w6 A6 C6 hbw6 hon6; have hdB : Turned (fun y => y = b) w3 w6 := Turned.of_below _ hbw6; have hdC : Turned (fun y => y = b) w3 w7 := hdB.trans ht7 (Grown.refl _ _); have HM7 := Lib.hid hm7; have HD7 := Lib.hid hdC; have HS7 := Lib.hid (show w6.heap.size = w7.heap.size from hs7.symm); have HS36 := Lib.hid hbw6.size; clear hb6 hon6 hbw6 hm7 ht7 hs7))
  all_goals
    clear hdA hdB hdC
    go_wp2
    go_end0
    have hE7 : ∀ y, (E y ∨ (w3.heap.size ≤ y ∧ y < w6.heap.size)) → E y ∨ w3.heap.size ≤ y := fun y q => q.imp id (fun z => z.1)
    refine ⟨rfl, fun y => E y ∨ (w3.heap.size ≤ y ∧ y < w6.heap.size), some b, ⟨HTAB.out.head.of_block (HD7.out.block p HTAB.out.head.lt (fun z => hbp z.symm)), .inr ⟨b, D7, rfl, hbp, HM7.out⟩, On.more (HTAB.out.sts.turned HD7.out (fun y q z => by subst q; exact HMAP.out.nE z)) (fun y q => .inl q), fun y q => ?_, fun q => ?_, HTAB.out.km⟩, ?_, fun y q => ?_, fun y q => ?_⟩
    · rcases q with q | q
      · exact Nat.lt_of_lt_of_le (HTAB.out.lt y q) HD7.out.size
      · rw [← HS7.out]; exact q.2
    · rcases q with q | q
      · exact HTAB.out.np q
      · have := HTAB.out.head.lt; omega
    · exact HT03.out.trans HD7.out (fun y q => by subst q; exact .inr HBW.out)
    · rcases hE7 y q with z | z
      · exact .inl z
      · exact .inr (by have := HT03.out.size; omega)
    · cases q
      exact .inr HBW.out
theorem keepC {M : Option Nat} (h : TAt w E p M (.slice A t.states.length C) t) (hfew : t.objs.length ≤ 1000000) (o : ObjD) (V : Value) (hV : Sure (fun y => y = p ∨ M = some y) w (fun w' => ObjIs w' V o)) (hl1 : o.stripes.length ≤ 1000000) (hl2 : ∀ s ∈ o.stripes, s.locs.length ≤ 1000000) :
    Calls Tryd.prog 48 #[.pointer (some ⟨p, 0, none⟩), V] w (Kept w E p M (.slice A t.states.length C) (withO t (Kl.put Tb.keyOf o t.objs))) := by
  cases M with
  | none => exact keepC0 h hfew o V hV hl1 hl2
  | some b => exact keepC1 h hfew o V hV hl1 hl2
end
end Go.Proofs.YtegbgnjmkohcfaaDoor.Tbl
namespace Go.Proofs.YtegbgnjmkohcfaaDoor.Tbl
set_option linter.unusedVariables false
open Go.ChangeShapes Go.WideShapes Go.ChangeAt Go.RowKit
open Go.Mem RecM
/-- what a change of the table leaves -/
def Appl (w : World) (E : Nat → Prop) (p : Nat) (M : Option Nat) (t : Tb.TabD) (r : Option Tb.TabD) (e : Ending) (w' : World) : Prop := e = .returned (.bool r.isSome) ∧
  ∃ E' M' A' C', TAt w' E' p M' (.slice A' (r.getD t).states.length C') (r.getD t) ∧ Turned (fun y => y = p ∨ M = some y) w w' ∧ (∀ y, E' y → E y ∨ w.heap.size ≤ y) ∧ (∀ y, M' = some y → M = some y ∨ w.heap.size ≤ y)
theorem appl_no {w w' : World} {E : Nat → Prop} {p : Nat} {M : Option Nat} {t : Tb.TabD} {A : Option Addr} {C : Nat} (h : TAt w E p M (.slice A t.states.length C) t) (hb : Below w.heap.size w w') : Appl w E p M t none (.returned (.bool false)) w' :=
  ⟨rfl, E, M, A, C, h.below hb, Turned.of_below _ hb, fun y q => .inl q, fun y q => .inl q⟩
/-- a cell of the table is written -/
theorem TAt.store {w : World} {E : Nat → Prop} {p : Nat} {M : Option Nat} {S S' : Value} {t t' : Tb.TabD} (h : TAt w E p M S t) (j : Nat) (v : Value) (hc : ∀ i, i < 6 → (if i = j then v else tc t M S i) = tc t' M S' i) (ho : t'.objs = t.objs) (hs : On E (w.setCell ⟨p, j, none⟩ v) (fun w' => Ints w' S' t'.states)) (hkm : (t'.k = 3 ∧ t'.n = 5) ∨ (t'.k = 1 ∧ t'.n = 1) ∨ (t'.k = 2 ∧ t'.n = 3)) : TAt (w.setCell ⟨p, j, none⟩ v) E p M S' t' := by
  have hset : Turned (fun y => y = p) w (w.setCell ⟨p, j, none⟩ v) := Turned.set _ rfl
  refine ⟨(h.head.set j v).congr hc, ?_, hs, fun y q => Nat.lt_of_lt_of_le (h.lt y q) hset.size, h.np, hkm⟩
  rw [ho]
  refine h.objs.imp id fun ⟨b, D, h1, h2, h3⟩ => ⟨b, D, h1, h2, h3.turned hset fun x q => ⟨fun z => h.np (q ▸ z), fun z => h2 (z.symm.trans q)⟩⟩
theorem TAt.sts_set {w : World} {E : Nat → Prop} {p : Nat} {M : Option Nat} {S : Value} {t : Tb.TabD} (h : TAt w E p M S t) (j : Nat) (v : Value) : On E (w.setCell ⟨p, j, none⟩ v) (fun w' => Ints w' S t.states) :=
  h.sts.turned (Turned.set (F := fun y => y = p) (b := p) v rfl) fun y q z => h.np (q ▸ z)
/-- the last number is set -/
theorem TAt.setLast {w : World} {E : Nat → Prop} {p : Nat} {M : Option Nat} {S : Value} {t : Tb.TabD} (h : TAt w E p M S t) (z : Int) : TAt (w.setCell ⟨p, 5, none⟩ (.int .i64 z)) E p M S ⟨t.k, t.n, t.objs, t.states, t.epoch, z⟩ := by
  refine h.store 5 _ (fun i hi => ?_) rfl (h.sts_set 5 _) h.km
  rcases (by omega : i = 0 ∨ i = 1 ∨ i = 2 ∨ i = 3 ∨ i = 4 ∨ i = 5) with rfl | rfl | rfl | rfl | rfl | rfl <;> rfl
theorem TAt.setEpoch {w : World} {E : Nat → Prop} {p : Nat} {M : Option Nat} {S : Value} {t : Tb.TabD} (h : TAt w E p M S t) (z : Int) : TAt (w.setCell ⟨p, 4, none⟩ (.int .i64 z)) E p M S ⟨t.k, t.n, t.objs, t.states, z, t.last⟩ := by
  refine h.store 4 _ (fun i hi => ?_) rfl (h.sts_set 4 _) h.km
  rcases (by omega : i = 0 ∨ i = 1 ∨ i = 2 ∨ i = 3 ∨ i = 4 ∨ i = 5) with rfl | rfl | rfl | rfl | rfl | rfl <;> rfl
theorem maxZ_eq (a b : Int) : Tb.maxZ a b = max a b := by unfold Tb.maxZ; omega
def putT (t : Tb.TabD) (o : ObjD) : Option Tb.TabD := if Tb.ObjOk t.k t.n o ∧ ∀ x ∈ t.objs, x.id ≠ o.id then some ⟨t.k, t.n, Kl.put Tb.keyOf o t.objs, t.states, t.epoch, Tb.maxZ t.last o.id⟩ else none
section
variable {w : World} {E : Nat → Prop} {p : Nat} {M : Option Nat} {A : Option Addr} {C : Nat} {t : Tb.TabD}
set_option maxRecDepth 100000 in
set_option maxHeartbeats 8000000 in
theorem putC (h : TAt w E p M (.slice A t.states.length C) t) (hfew : t.objs.length ≤ 1000000) (o : ObjD) (V : Value) (hV : Sure (fun y => y = p ∨ M = some y) w (fun w' => ObjIs w' V o)) :
    Calls Tryd.prog 32 #[.pointer (some ⟨p, 0, none⟩), V] w (Appl w E p M t (putT t o)) := by
  have HV := Lib.hid hV
  obtain ⟨AV, CV, rfl, hst, o1, o2, o3, o4⟩ := hV.here
  obtain ⟨w1, hw1⟩ : ∃ w1, w.alloc (.cells #[.string o.key, .int .i64 o.id, .int .i64 o.size, .slice AV o.stripes.length CV] TObj) = w1 := ⟨_, rfl⟩
  have hx : Below w.heap.size w w1 := by rw [← hw1]; exact (Below.refl _ _).alloc (Nat.le_refl _) _
  obtain ⟨B, hB⟩ : ∃ B, w.heap.size = B := ⟨_, rfl⟩
  have hrow : w1.rowIs B TObj 4 (fun i => #[Value.string o.key, .int .i64 o.id, .int .i64 o.size, .slice AV o.stripes.length CV].getD i undef) := by rw [← hw1, ← hB]; exact row_of w _ _
  have HT := Lib.hid h
  have HT1 := Lib.hid (h.below hx)
  have HX := Lib.hid hx
  have HFEW := Lib.hid hfew
  have HW1 := Lib.hid hw1
  have HBE := Lib.hid hB
  obtain ⟨N, hN⟩ : ∃ N, o.stripes.length = N := ⟨_, rfl⟩
  have HN := Lib.hid hN
  rw [hN] at hrow HW1 HV ⊢
  have HROW := Lib.hid hrow
  have b1 := HROW.out.cell (i := 1) (by omega)
  clear h hV hst o1 o2 o3 o4 hx hrow hw1 hB hN hfew
  go_enter Tryd.func32, Tryd.ntmps32
  go_upto_region 1 with fail
  rw [HW1.out, HBE.out]
  go_wp2_with fail
  refine (byIDC HT1.out o.id).mono ?_
  rintro _ w2 ⟨hb2, hfd⟩
  have HB2 := Lib.hid (HX.out.trans (hb2.mono HX.out.size))
  have HR2 := Lib.hid (HROW.out.of_block (hb2.block B HROW.out.lt))
  clear hb2 b1
  rcases hfd with ⟨x, A2, C2, hxm, hxi, rfl, -⟩ | ⟨hno, rfl⟩
  · have HP := Lib.hid (show putT t o = none by unfold putT; rw [if_neg (fun q => q.2 x hxm hxi)])
    have HQ := Lib.hid (appl_no HT.out (HB2.out.trans (((Below.refl w2.heap.size w2).alloc (Nat.le_refl _) (.cells #[.string x.key, .int .i64 x.id, .int .i64 x.size, .slice A2 x.stripes.length C2] TObj)).mono HB2.out.size)))
    clear hxm hxi
    go_wp2
    go_ret
    rw [HP.out]
    exact HQ.out
  · have HNO := Lib.hid hno
    have hal : Below w2.heap.size w2 (w2.alloc (.cells #[.string ⟨#[]⟩, .int .i64 0, .int .i64 0, .slice none 0 0] TObj)) := (Below.refl _ _).alloc (Nat.le_refl _) _
    obtain ⟨w3, hw3⟩ : ∃ w3, w2.alloc (.cells #[.string ⟨#[]⟩, .int .i64 0, .int .i64 0, .slice none 0 0] TObj) = w3 := ⟨_, rfl⟩
    rw [hw3] at hal
    have HW3 := Lib.hid hw3
    have HB3 := Lib.hid (HB2.out.trans (hal.mono HB2.out.size))
    have HR3 := Lib.hid (HR2.out.of_block (hal.block B HR2.out.lt))
    have HV3 := Lib.hid (Sure.later HV.out (Turned.of_below _ HB3.out))
    have HT3 := Lib.hid (HT.out.below HB3.out)
    clear hno hal hw3
    go_upto_region 2 with fail
    rw [HW3.out]
    have c0 := HR3.out.cell (i := 0) (by omega)
    have c1 := HR3.out.cell (i := 1) (by omega)
    have c2 := HR3.out.cell (i := 2) (by omega)
    have c3 := HR3.out.cell (i := 3) (by omega)
    go_wp2_with fail
    refine (rightObjectC HT3.out.code o _ HV3.out.here).mono ?_
    rintro _ w4 ⟨rfl, hb4⟩
    have HB4 := Lib.hid (HB3.out.trans (hb4.mono HB3.out.size))
    have HR4 := Lib.hid (HR3.out.of_block (hb4.block B HR3.out.lt))
    have HV4 := Lib.hid (Sure.later HV.out (Turned.of_below _ HB4.out))
    have HT4 := Lib.hid (HT.out.below HB4.out)
    clear hb4 c0 c1 c2 c3
    by_cases hok : Tb.ObjOk t.k t.n o
    · rw [decide_eq_true hok]
      have hbig : o.stripes.length ≤ 1000000 ∧ ∀ s ∈ o.stripes, s.locs.length ≤ 1000000 := by
        have hkm := HT.out.km
        have h1 := Tb.few_stripes (by omega) hok
        refine ⟨by omega, fun s hs => ?_⟩
        have h2 := (hok.2.2.2.2.2.2.2.2 s hs).2.2.1
        omega
      have HBIG := Lib.hid hbig
      have HP := Lib.hid (show putT t o = some ⟨t.k, t.n, Kl.put Tb.keyOf o t.objs, t.states, t.epoch, Tb.maxZ t.last o.id⟩ by unfold putT; rw [if_pos ⟨hok, HNO.out⟩])
      have c0 := HR4.out.cell (i := 0) (by omega)
      have c1 := HR4.out.cell (i := 1) (by omega)
      have c2 := HR4.out.cell (i := 2) (by omega)
      have c3 := HR4.out.cell (i := 3) (by omega)
      clear hok hbig
      go_wp2_with fail
      refine (keepC HT4.out HFEW.out o _ HV4.out HBIG.out.1 HBIG.out.2).mono ?_
      rintro _ w5 ⟨rfl, E5, M5, ht5, htu5, hE5, hM5⟩
      have hpw : p < w.heap.size := HT.out.head.lt
      have hr5 := HR4.out.of_block (htu5.block B HR4.out.lt (fun q => by
        have h1 := HBE.out
        rcases q with q | q
        · omega
        · have := (HT.out.map_lt B q).1; omega))
      have d1 : w5.cell? ⟨B, 1, none⟩ = some (.int .i64 o.id) := hr5.cell (i := 1) (by omega)
      have d5 : w5.cell? ⟨p, 5, none⟩ = some (.int .i64 t.last) := ht5.cell (i := 5) (by omega)
      have f5 : w5.frozen? ⟨p, 5, none⟩ = false := ht5.free 5
      have HFIN := Lib.hid (show Appl w E p M t (some ⟨t.k, t.n, Kl.put Tb.keyOf o t.objs, t.states, t.epoch, Tb.maxZ t.last o.id⟩) (.returned (.bool true)) ((w5.setCell ⟨p, 5, none⟩ (.int .i64 (Tb.maxZ t.last o.id))).drew) from
        ⟨rfl, E5, M5, A, C, (ht5.setLast (Tb.maxZ t.last o.id)).below (below_drewN _ _ 1), (((Turned.of_below _ HB4.out).trans htu5 (fun y q => .inl q)).trans (Turned.set (F := fun y => y = p ∨ M = some y) (b := p) _ (.inl rfl)) (Grown.refl _ _)).trans (Turned.drew _ _) (Grown.refl _ _), fun y q => (hE5 y q).imp id (fun z => Nat.le_trans HB4.out.size z), fun y q => (hM5 y q).imp id (fun z => Nat.le_trans HB4.out.size z)⟩)
      clear ht5 htu5 hE5 hM5 hr5 c0 c1 c2 c3
      rw [maxZ_eq] at HP HFIN
      go_wp2_with fail
      go_still_tail 10, (by kernel_rfl)
      go_wp2
      go_ret
      rw [HP.out]
      exact HFIN.out
    · rw [decide_eq_false hok]
      have HP := Lib.hid (show putT t o = none by unfold putT; rw [if_neg (fun q => hok q.1)])
      have HQ := Lib.hid (appl_no HT.out HB4.out)
      clear hok
      go_wp2
      go_ret
      rw [HP.out]
      exact HQ.out
def delT (t : Tb.TabD) (key : ByteArray) (id : Int) : Option Tb.TabD := if (∃ x ∈ t.objs, Tb.keyOf x = key.toList) ∧ 1 ≤ id ∧ id ≤ 33554432 then some ⟨t.k, t.n, Kl.del Tb.keyOf key.toList t.objs, t.states, t.epoch, Tb.maxZ t.last id⟩ else none
theorem find_iff {L : List ObjD} {k : List UInt8} : (Kl.find Tb.keyOf k L).isSome = true ↔ ∃ x ∈ L, Tb.keyOf x = k := by
  constructor
  · intro h
    obtain ⟨x, hx⟩ := Option.isSome_iff_exists.1 h
    exact ⟨x, Kl.find_of hx⟩
  · rintro ⟨x, h1, h2⟩
    cases hf : Kl.find Tb.keyOf k L with
    | none => exact absurd h2 (Kl.find_none hf x h1)
    | some y => rfl
theorem wpList_delete_obj {E : Nat → Prop} (w : World) {ops : Array Oper} {rest : List Oper} {o : Oper} {a : Act} {Q : Exit → Act → World → Prop} (hg : o.guard = none) (m x : Operand) (hop : o.op = Op.call { callee := Callee.builtin Builtin.delete, args := #[m, x], argTypes := #[TMap, TStr] }) (b : Nat) (D : DataW Value) (objs : List ObjD) (hm : a.eval m = .map (some b)) (h : MapOf E w b D objs) (s : ByteArray) (hx : a.eval x = .string s) (hk : KeyOk s)
    (hK : ∀ w' D', MapOf E w' b D' (Kl.del Tb.keyOf s.toList objs) → Turned (fun x => x = b) w w' → wpList Tryd.prog ops Q rest (a.put o.dst (.tuple #[])) w') :
    wpList Tryd.prog ops Q (o :: rest) a w := by
  refine wpList_plain hg fun K' hK' => ?_
  obtain ⟨w', D', hrun, r1, r2, r3⟩ := h.drop s hk o.type
  unfold Oper.wp
  simp [execOp, hop, resolve, invoke, builtin, hm, hx, hrun, Result.andThen]
  exact hK' _ _ (hK w' D' r1 r2)
set_option maxRecDepth 100000 in
set_option maxHeartbeats 8000000 in
theorem delC (h : TAt w E p M (.slice A t.states.length C) t) (hok : t.Ok) (key : ByteArray) (hk : KeyOk key) (id : Int) (hid : I64 id) :
    Calls Tryd.prog 33 #[.pointer (some ⟨p, 0, none⟩), .string key, .int .i64 id] w (Appl w E p M t (delT t key id)) := by
  obtain ⟨i1, i2⟩ := hid
  have HT := Lib.hid h
  obtain ⟨o, AV, CV, hlk, hoi, -, -, -⟩ := h.looks hok key
  have c2 : w.cell? ⟨p, 2, none⟩ = some (.map M) := h.cell (i := 2) (by omega)
  have hal : Below w.heap.size w (w.alloc (.cells #[.string o.key, .int .i64 o.id, .int .i64 o.size, .slice AV o.stripes.length CV] TObj)) := (Below.refl _ _).alloc (Nat.le_refl _) _
  obtain ⟨N, hN⟩ : ∃ N, o.stripes.length = N := ⟨_, rfl⟩
  rw [hN] at hlk hal
  obtain ⟨w1, hw1⟩ : ∃ w1, w.alloc (.cells #[.string o.key, .int .i64 o.id, .int .i64 o.size, .slice AV N CV] TObj) = w1 := ⟨_, rfl⟩
  rw [hw1] at hal
  have HW1 := Lib.hid hw1
  have HB1 := Lib.hid hal
  have HT1 := Lib.hid (h.below hal)
  have HKEY := Lib.hid hk
  have hff := find_iff (L := t.objs) (k := key.toList)
  have HFF := Lib.hid hff
  obtain ⟨f, hf⟩ : ∃ f, (Kl.find Tb.keyOf key.toList t.objs).isSome = f := ⟨_, rfl⟩
  rw [hf] at HFF hlk
  clear h hok hk hoi hN hw1 hal hff hf
  cases f with
  | false =>
    have HP := Lib.hid (show delT t key id = none by unfold delT; rw [if_neg (fun q => by have := HFF.out.2 q.1; cases this)])
    have HQ := Lib.hid (appl_no HT.out HB1.out)
    go_enter Tryd.func33, Tryd.ntmps33
    go_upto_region 2 with fail
    rw [HW1.out]
    go_wp2
    go_ret
    rw [HP.out]
    exact HQ.out
  | true =>
    by_cases hid : 1 ≤ id ∧ id ≤ 33554432
    · have HID := Lib.hid hid
      have HP := Lib.hid (show delT t key id = some ⟨t.k, t.n, Kl.del Tb.keyOf key.toList t.objs, t.states, t.epoch, Tb.maxZ t.last id⟩ by unfold delT; rw [if_pos ⟨HFF.out.1 rfl, hid⟩])
      clear hid
      cases M with
      | none =>
        exfalso
        obtain ⟨x, hx, -⟩ := HFF.out.1 rfl
        rw [HT.out.noMap] at hx
        cases hx
      | some b =>
        obtain ⟨hbp, D, hmap⟩ := HT1.out.someMap
        have HMAP := Lib.hid hmap
        have HBP := Lib.hid hbp
        clear hmap hbp
        go_enter Tryd.func33, Tryd.ntmps33
        go_upto_region 2 with fail
        rw [HW1.out]
        clear c2 hlk
        have c2 : w1.cell? ⟨p, 2, none⟩ = some (.map (some b)) := HT1.out.cell (i := 2) (by omega)
        go_wp2_with fail
        refine (withinY 1 id 33554432 _ HID.out.1 HID.out.2).mono ?_
        rintro _ w2 ⟨rfl, rfl⟩
        go_upto_region 5 with (at_delete; refine wpList_delete_obj _ rfl _ _ rfl b D t.objs rfl HMAP.out key rfl HKEY.out ?_; intro w3 D3 hm3 ht3)
        have hT3 : TAt w3 E p (some b) (.slice A t.states.length C) (withO t (Kl.del Tb.keyOf key.toList t.objs)) :=
          ⟨HT1.out.head.of_block (ht3.block p HT1.out.head.lt (fun q => HBP.out q.symm)), .inr ⟨b, D3, rfl, HBP.out, hm3⟩, HT1.out.sts.turned ht3 (fun y q z => by subst q; exact HMAP.out.nE z), fun y q => Nat.lt_of_lt_of_le (HT1.out.lt y q) ht3.size, HT1.out.np, HT1.out.km⟩
        have d5 : w3.cell? ⟨p, 5, none⟩ = some (.int .i64 t.last) := hT3.cell (i := 5) (by omega)
        have f5 : w3.frozen? ⟨p, 5, none⟩ = false := hT3.free 5
        have HFIN := Lib.hid (show Appl w E p (some b) t (some ⟨t.k, t.n, Kl.del Tb.keyOf key.toList t.objs, t.states, t.epoch, Tb.maxZ t.last id⟩) (.returned (.bool true)) (w3.setCell ⟨p, 5, none⟩ (.int .i64 (Tb.maxZ t.last id))) from
          ⟨rfl, E, some b, A, C, hT3.setLast (Tb.maxZ t.last id), ((Turned.of_below _ HB1.out).trans (ht3.mono fun y q => .inr (by rw [q])) (Grown.refl _ _)).trans (Turned.set (F := fun y => y = p ∨ some b = some y) (b := p) _ (.inl rfl)) (Grown.refl _ _), fun y q => .inl q, fun y q => .inl q⟩)
        clear hm3 ht3 hT3 c2
        rw [maxZ_eq] at HP HFIN
        go_wp2
        go_ret
        rw [HP.out]
        exact HFIN.out
    · have HID := Lib.hid hid
      have HP := Lib.hid (show delT t key id = none by unfold delT; rw [if_neg (fun q => hid q.2)])
      have HQ := Lib.hid (appl_no HT.out HB1.out)
      clear hid
      go_enter Tryd.func33, Tryd.ntmps33
      go_upto_region 2 with fail
      rw [HW1.out]
      go_wp2_with fail
      refine (withinN 1 id 33554432 _ HID.out).mono ?_
      rintro _ w2 ⟨rfl, rfl⟩
      go_wp2
      go_ret
      rw [HP.out]
      exact HQ.out
end
end Go.Proofs.YtegbgnjmkohcfaaDoor.Tbl
namespace Go.Proofs.YtegbgnjmkohcfaaDoor.Tbl
set_option linter.unusedVariables false
open Go.ChangeShapes Go.WideShapes Go.ChangeAt Go.RowKit
open Go.Mem RecM
theorem TAt.more {w : World} {E E' : Nat → Prop} {p : Nat} {M : Option Nat} {S : Value} {t : Tb.TabD} (h : TAt w E p M S t) (hE : ∀ y, E y → E' y) (hlt : ∀ y, E' y → y < w.heap.size) (hp : ¬ E' p) (hm : ∀ b, M = some b → ¬ E' b) : TAt w E' p M S t :=
  ⟨h.head, h.objs.imp id (fun ⟨b, D, h1, h2, h3⟩ => ⟨b, D, h1, h2, ⟨h3.own, hm b h1, h3.ris, h3.has, h3.siz, fun o ho => by
    obtain ⟨v, q1, q2⟩ := h3.val o ho
    exact ⟨v, q1, On.more q2 hE⟩⟩⟩), On.more h.sts hE, hlt, hp, h.km⟩
/-- the states are set -/
theorem TAt.setStates {w : World} {E : Nat → Prop} {p : Nat} {M : Option Nat} {S S' : Value} {t : Tb.TabD} (h : TAt w E p M S t) (l : List Int) (hs : On E (w.setCell ⟨p, 3, none⟩ S') (fun w' => Ints w' S' l)) : TAt (w.setCell ⟨p, 3, none⟩ S') E p M S' ⟨t.k, t.n, t.objs, l, t.epoch, t.last⟩ := by
  refine h.store 3 _ (fun i hi => ?_) rfl hs h.km
  rcases (by omega : i = 0 ∨ i = 1 ∨ i = 2 ∨ i = 3 ∨ i = 4 ∨ i = 5) with rfl | rfl | rfl | rfl | rfl | rfl <;> rfl
def poolT (t : Tb.TabD) (epoch : Int) (l : List Int) : Option Tb.TabD := if epoch = t.epoch + 1 ∧ epoch ≤ 1073741824 ∧ Tb.DrvOk l ∧ t.states.length ≤ l.length then some ⟨t.k, t.n, t.objs, l, epoch, t.last⟩ else none
section
variable {w : World} {E : Nat → Prop} {p : Nat} {M : Option Nat} {A : Option Addr} {C : Nat} {t : Tb.TabD}
set_option maxRecDepth 100000 in
set_option maxHeartbeats 8000000 in
theorem poolC (h : TAt w E p M (.slice A t.states.length C) t) (hok : t.Ok) (epoch : Int) (hep : I64 epoch) (V : Value) (l : List Int) (hV : Ints w V l) (hl : l.length ≤ 1000000) :
    Calls Tryd.prog 35 #[.pointer (some ⟨p, 0, none⟩), .int .i64 epoch, V] w (Appl w E p M t (poolT t epoch l)) := by
  obtain ⟨AV, CV, rfl, gA, gB, -⟩ := hV.shape
  obtain ⟨i1, i2⟩ := hep
  have HT := Lib.hid h
  have HV := Lib.hid hV
  have HLL := Lib.hid hl
  have HNO := Lib.hid (appl_no h (Below.refl _ _))
  have e0 := hok.ep0
  have e1 := hok.ep1
  have hsl := hok.drv.2
  have c4 : w.cell? ⟨p, 4, none⟩ = some (.int .i64 t.epoch) := h.cell (i := 4) (by omega)
  have c3 : w.cell? ⟨p, 3, none⟩ = some (.slice A t.states.length C) := h.cell (i := 3) (by omega)
  obtain ⟨n, hn⟩ : ∃ n, t.states.length = n := ⟨_, rfl⟩
  obtain ⟨m, hm⟩ : ∃ m, l.length = m := ⟨_, rfl⟩
  have HN := Lib.hid hn
  have HM := Lib.hid hm
  rw [hn] at c3 hsl
  rw [hm] at HV gA hl ⊢
  clear h hok hV hn hm
  have hcase : (poolT t epoch l = none ∧ ¬ (epoch = t.epoch + 1)) ∨ (poolT t epoch l = none ∧ epoch = t.epoch + 1 ∧ 1073741824 < epoch) ∨ (poolT t epoch l = none ∧ epoch = t.epoch + 1 ∧ ¬ 1073741824 < epoch ∧ m < n) ∨ (poolT t epoch l = none ∧ epoch = t.epoch + 1 ∧ ¬ 1073741824 < epoch ∧ ¬ m < n ∧ ¬ Tb.DrvOk l) ∨ (poolT t epoch l = some ⟨t.k, t.n, t.objs, l, epoch, t.last⟩ ∧ epoch = t.epoch + 1 ∧ ¬ 1073741824 < epoch ∧ ¬ m < n ∧ Tb.DrvOk l) := by
    unfold poolT
    have h1 := HN.out
    have h2 := HM.out
    by_cases q1 : epoch = t.epoch + 1
    · by_cases q2 : 1073741824 < epoch
      · exact .inr (.inl ⟨if_neg (fun z => by omega), q1, q2⟩)
      · by_cases q3 : m < n
        · exact .inr (.inr (.inl ⟨if_neg (fun z => by omega), q1, q2, q3⟩))
        · by_cases q4 : Tb.DrvOk l
          · exact .inr (.inr (.inr (.inr ⟨if_pos ⟨q1, by omega, q4, by omega⟩, q1, q2, q3, q4⟩)))
          · exact .inr (.inr (.inr (.inl ⟨if_neg (fun z => q4 z.2.2.1), q1, q2, q3, q4⟩)))
    · exact .inl ⟨if_neg (fun z => q1 z.1), q1⟩
  rcases hcase with ⟨hp, q1⟩ | ⟨hp, q1, q2⟩ | ⟨hp, q1, q2, q3⟩ | ⟨hp, q1, q2, q3, q4⟩ | ⟨hp, q1, q2, q3, q4⟩
  · have HP := Lib.hid hp
    have d1 : (epoch != t.epoch + 1) = true := by rw [bne_iff_ne]; exact q1
    clear hp q1
    go_enter Tryd.func35, Tryd.ntmps35
    go_wp2
    go_ret
    rw [HP.out]
    exact HNO.out
  · have HP := Lib.hid hp
    have d1 : (epoch != t.epoch + 1) = false := by rw [q1]; simp
    have d2 : decide (1073741824 < epoch) = true := by simpa using q2
    clear hp q1 q2
    go_enter Tryd.func35, Tryd.ntmps35
    go_wp2
    go_ret
    rw [HP.out]
    exact HNO.out
  · have HP := Lib.hid hp
    have d1 : (epoch != t.epoch + 1) = false := by rw [q1]; simp
    have d2 : decide (1073741824 < epoch) = false := by simpa using q2
    have d3 : decide (m < n) = true := by simpa using q3
    have d4 : decide ((m : Int) < (n : Int)) = true := by simp; omega
    clear hp q1 q2 q3
    go_enter Tryd.func35, Tryd.ntmps35
    go_wp2
    go_ret
    rw [HP.out]
    exact HNO.out
  · have HP := Lib.hid hp
    have d1 : (epoch != t.epoch + 1) = false := by rw [q1]; simp
    have d2 : decide (1073741824 < epoch) = false := by simpa using q2
    have d3 : decide (m < n) = false := by simpa using q3
    have d4 : decide ((m : Int) < (n : Int)) = false := by simp; omega
    have HRS := Lib.hid (rightStatesC _ l w HV.out)
    rw [decide_eq_false q4] at HRS
    clear hp q1 q2 q3 q4
    go_enter Tryd.func35, Tryd.ntmps35
    go_wp2_with fail
    refine HRS.out.mono ?_
    rintro _ w1 ⟨rfl, rfl⟩
    go_wp2
    go_ret
    rw [HP.out]
    exact HNO.out
  · have HP := Lib.hid hp
    have d1 : (epoch != t.epoch + 1) = false := by rw [q1]; simp
    have d2 : decide (1073741824 < epoch) = false := by simpa using q2
    have d3 : decide (m < n) = false := by simpa using q3
    have d4 : decide ((m : Int) < (n : Int)) = false := by simp; omega
    have HRS := Lib.hid (rightStatesC _ l w HV.out)
    rw [decide_eq_true q4] at HRS
    clear hp q1 q2 q3 q4
    go_enter Tryd.func35, Tryd.ntmps35
    go_wp2_with fail
    refine HRS.out.mono ?_
    rintro _ w1 ⟨rfl, rfl⟩
    go_wp2_with fail
    refine (cloneC l _ _ HV.out HLL.out).mono ?_
    rintro _ w2 ⟨u, rfl, hbu, hb2⟩
    have hT2 := HT.out.below hb2
    have hown := hbu.own_lt
    obtain ⟨A2, C2, rfl, -⟩ := hbu.len
    have hpw := HT.out.head.lt
    have hT2' : TAt w2 (fun y => E y ∨ (Value.slice A2 l.length C2).ownBlock = some y) p M (.slice A t.states.length C) t := hT2.more (fun y q => .inl q) (fun y q => q.elim (hT2.lt y) (fun z => (hown y z).2)) (fun q => q.elim hT2.np (fun z => by have := (hown p z).1; omega)) (fun b q z => z.elim (HT.out.map_lt b q).2.1 (fun y => by have := (hown b y).1; have := (HT.out.map_lt b q).1; omega))
    have hT3 := hT2'.setEpoch epoch
    have hon : On (fun y => (Value.slice A2 l.length C2).ownBlock = some y) ((w2.setCell ⟨p, 4, none⟩ (.int .i64 epoch)).setCell ⟨p, 3, none⟩ (.slice A2 l.length C2)) (fun w' => Ints w' (.slice A2 l.length C2) l) := by
      have hne : ∀ y, y = p → ¬ (Value.slice A2 l.length C2).ownBlock = some y := fun y q z => by have := (hown y z).1; omega
      exact (On.turned (On.turned (ints_own hbu) (Turned.set (F := fun y => y = p) (b := p) _ rfl) hne) (Turned.set (F := fun y => y = p) (b := p) _ rfl) hne)
    have hT4 := hT3.setStates (S' := .slice A2 l.length C2) l (On.more hon fun y q => .inr q)
    have d4' : w2.cell? ⟨p, 4, none⟩ = some (.int .i64 t.epoch) := hT2.cell (i := 4) (by omega)
    have d3' : w2.cell? ⟨p, 3, none⟩ = some (.slice A t.states.length C) := hT2.cell (i := 3) (by omega)
    have f4 : w2.frozen? ⟨p, 4, none⟩ = false := hT2.free 4
    have f3 : w2.frozen? ⟨p, 3, none⟩ = false := hT2.free 3
    have HFIN := Lib.hid (show Appl w E p M t (some ⟨t.k, t.n, t.objs, l, epoch, t.last⟩) (.returned (.bool true)) ((w2.setCell ⟨p, 4, none⟩ (.int .i64 epoch)).setCell ⟨p, 3, none⟩ (.slice A2 l.length C2)) from
      ⟨rfl, _, M, A2, C2, hT4, ((Turned.of_below _ hb2).trans (Turned.set (F := fun y => y = p ∨ M = some y) (b := p) _ (.inl rfl)) (Grown.refl _ _)).trans (Turned.set (F := fun y => y = p ∨ M = some y) (b := p) _ (.inl rfl)) (Grown.refl _ _), fun y q => q.imp id (fun z => (hown y z).1), fun y q => .inl q⟩)
    rw [HM.out] at HFIN ⊢
    rw [HN.out] at d3'
    clear hbu hb2 hT2 hT2' hT3 hT4 hon hown c3 c4
    go_wp2
    go_ret
    rw [HP.out]
    exact HFIN.out
end
end Go.Proofs.YtegbgnjmkohcfaaDoor.Tbl
