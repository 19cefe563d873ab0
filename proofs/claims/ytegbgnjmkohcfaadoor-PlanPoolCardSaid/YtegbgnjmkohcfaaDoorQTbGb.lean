/- The program's table: copies of objects. The program's table: what it tells, one by one. The program's table: Object, Stripe. The program's table: Stripe; a table that is none. -/
import Derived.Test.YtegbgnjmkohcfaaDoorQTbGa
import Derived.Test.YtegbgnjmkohcfaaDoorQTbL
namespace Go.Proofs.YtegbgnjmkohcfaaDoor.Tbl
set_option linter.unusedVariables false
open Go.ChangeShapes Go.WideShapes Go.ChangeAt Go.RowKit
open Go.Mem RecM
/-- a copy stays one while blocks turn that were made ahead of it -/
theorem CopyS.later {w w2 w3 w4 : World} {l : List StpD} {V : Value} {F : Nat → Prop} (h : CopyS w2 l (.returned V) w3) (hx : Below w.heap.size w w2) (ht : Turned F w3 w4) (hF : ∀ b, F b → w.heap.size ≤ b ∧ b < w2.heap.size) : CopyS w l (.returned V) w4 := by
  obtain ⟨A, C, e, hb, g1, g2, g3, hq⟩ := h
  have hs := hx.size
  refine ⟨A, C, e, (hx.trans (hb.mono hs)).trans (ht.below (fun b q => (hF b q).1) (Nat.le_trans hs hb.size)), g1, g2, g3, fun h0 => ?_⟩
  obtain ⟨g, f, q1, q2, q3, q4⟩ := hq h0
  refine ⟨g, f, q1, Nat.le_trans hs q2, q3.keep (ht.block g (q3.lt h0) (fun q => by have := (hF g q).2; omega)), fun k hk => ?_⟩
  exact On.more ((q4 k hk).turned ht (fun b q z => by have := (hF b q).2; omega)) fun b q => ⟨by omega, Nat.lt_of_lt_of_le q.2.1 ht.size, q.2.2⟩
theorem stps_nil {w : World} {A : Option Addr} {C : Nat} {l : List StpD} (h0 : l.length = 0) (g2 : C ≤ 9223372036854775807) (g3 : A = none → C = 0) : Stps w (.slice A l.length C) l :=
  ⟨A, l.length, C, rfl, rfl, by omega, by unfold maxLen; exact g2, g3, fun i hi => absurd hi (by omega)⟩
theorem CopyS.on {w w' : World} {l : List StpD} {V : Value} (h : CopyS w l (.returned V) w') : On (fun b => w.heap.size ≤ b ∧ b < w'.heap.size) w' (fun w'' => Stps w'' V l) := by
  obtain ⟨A, C, e, hb, g1, g2, g3, hq⟩ := h
  cases e
  by_cases h0 : 0 < l.length
  · obtain ⟨g, f, rfl, q2, q3, q4⟩ := hq h0
    intro w'' ht
    have hk := q3.keep (ht.block g (q3.lt h0) (fun q => q ⟨q2, q3.lt h0⟩))
    exact hk.stps rfl g1 g2 fun i hi => (On.more (q4 i hi) (fun b q => (⟨q.1, q.2.1⟩ : w.heap.size ≤ b ∧ b < w'.heap.size)) w'' ht).1
  · exact fun w'' _ => stps_nil (by omega) g2 g3
/-- a copy of an object, in new blocks -/
def CopyO (w : World) (o : ObjD) (e : Ending) (w' : World) : Prop := ∃ A C, e = .returned (.agg #[.string o.key, .int .i64 o.id, .int .i64 o.size, .slice A o.stripes.length C]) ∧ CopyS w o.stripes (.returned (.slice A o.stripes.length C)) w' ∧
  Below w.heap.size w w' ∧ On (fun b => w.heap.size ≤ b ∧ b < w'.heap.size) w' (fun w'' => ObjIs w'' (.agg #[.string o.key, .int .i64 o.id, .int .i64 o.size, .slice A o.stripes.length C]) o)
set_option maxRecDepth 100000 in
set_option maxHeartbeats 4000000 in
theorem cloneObjectC {w : World} (o : ObjD) (V : Value) (hV : ObjIs w V o) (hl : o.stripes.length ≤ 1000000) (hlocs : ∀ s ∈ o.stripes, s.locs.length ≤ 1000000) :
    Calls Tryd.prog 51 #[V] w (CopyO w o) := by
  obtain ⟨A, C, rfl, hi, i0, i1, i2, i3⟩ := hV
  obtain ⟨w2, hw2⟩ : ∃ w2, (w.alloc (.cells #[.string o.key, .int .i64 o.id, .int .i64 o.size, .slice A o.stripes.length C] TObj)).alloc (.cells #[.string ⟨#[]⟩, .int .i64 0, .int .i64 0, .slice none 0 0] TObj) = w2 := ⟨_, rfl⟩
  have hx1 : Below w.heap.size w (w.alloc (.cells #[.string o.key, .int .i64 o.id, .int .i64 o.size, .slice A o.stripes.length C] TObj)) := (Below.refl _ _).alloc (Nat.le_refl _) _
  have hx : Below w.heap.size w w2 := by rw [← hw2]; exact hx1.alloc hx1.size _
  obtain ⟨B, hB⟩ : ∃ B, w.heap.size = B := ⟨_, rfl⟩
  have hsz : w2.heap.size = B + 2 := by rw [← hw2, ← hB]; simp
  have hsec : Below (w.alloc (.cells #[.string o.key, .int .i64 o.id, .int .i64 o.size, .slice A o.stripes.length C] TObj)).heap.size (w.alloc (.cells #[.string o.key, .int .i64 o.id, .int .i64 o.size, .slice A o.stripes.length C] TObj)) w2 := by rw [← hw2]; exact (Below.refl _ _).alloc (Nat.le_refl _) _
  have hr0 : w2.rowIs B TObj 4 (fun j => #[Value.string o.key, .int .i64 o.id, .int .i64 o.size, .slice A o.stripes.length C].getD j undef) := by
    rw [← hB]; exact (row_of w #[Value.string o.key, .int .i64 o.id, .int .i64 o.size, .slice A o.stripes.length C] TObj).of_block (hsec.block _ (by simp))
  have hr1 : w2.rowIs (B + 1) TObj 4 (fun j => #[Value.string ⟨#[]⟩, .int .i64 0, .int .i64 0, .slice none 0 0].getD j undef) := by
    have := row_of (w.alloc (.cells #[.string o.key, .int .i64 o.id, .int .i64 o.size, .slice A o.stripes.length C] TObj)) #[Value.string ⟨#[]⟩, .int .i64 0, .int .i64 0, .slice none 0 0] TObj
    rw [hw2, show (w.alloc (.cells #[.string o.key, .int .i64 o.id, .int .i64 o.size, .slice A o.stripes.length C] TObj)).heap.size = B + 1 by simp [hB]] at this
    exact this
  have HI := Lib.hid (hi.below hx)
  have HX := Lib.hid hx
  have HR0 := Lib.hid hr0
  have HR1 := Lib.hid hr1
  have HSZ := Lib.hid hsz
  have HBE := Lib.hid hB
  have HW2 := Lib.hid hw2
  have HLL := Lib.hid hl
  have HLOC := Lib.hid hlocs
  have HI3 := Lib.hid (And.intro i0 (And.intro i1 (And.intro i2 i3)))
  obtain ⟨L, hL⟩ : ∃ L, o.stripes.length = L := ⟨_, rfl⟩
  have HL := Lib.hid hL
  rw [hL] at HI HR0 HW2 ⊢
  have c3 := HR0.out.cell (i := 3) (by omega)
  clear hi hx hx1 hsec hr0 hr1 hsz hB hw2 hl hL i0 i1 i2 i3 hlocs
  go_enter Tryd.func51, Tryd.ntmps51
  go_wp2_with fail
  rw [HW2.out, HBE.out]
  refine (cloneStripesC o.stripes _ _ HI.out HLL.out HLOC.out).mono ?_
  rintro _ w3 hcp
  have hcp' := hcp
  obtain ⟨A3, C3, rfl, hb3, -⟩ := hcp'
  have HCP := Lib.hid hcp
  have HB3 := Lib.hid hb3
  have r0 := HR0.out.of_block (hb3.block _ (by rw [HSZ.out]; omega))
  have r1 := HR1.out.of_block (hb3.block _ (by rw [HSZ.out]; omega))
  rw [HL.out] at HCP ⊢
  have HRR := Lib.hid (r1.of_block (Below.heap_setCell w3 ⟨B, 3, none⟩ (.slice A3 L C3) (B + 1) (by simp)))
  have hrs := r0.set 3 (.slice A3 L C3)
  have y3 := r0.cell (i := 3) (by omega)
  have j3 := r0.frozen 3
  obtain ⟨w4, hw4⟩ : ∃ w4, w3.setCell ⟨B, 3, none⟩ (.slice A3 L C3) = w4 := ⟨_, rfl⟩
  rw [hw4] at hrs HRR
  have t4 : Turned (fun b => b = B ∨ b = B + 1) w3 w4 := by rw [← hw4]; exact Turned.set _ (.inl rfl)
  have e0 : w4.cell? ⟨B, 0, none⟩ = some (.string o.key) := hrs.cell (i := 0) (by omega)
  have e1 : w4.cell? ⟨B, 1, none⟩ = some (.int .i64 o.id) := hrs.cell (i := 1) (by omega)
  have e2 : w4.cell? ⟨B, 2, none⟩ = some (.int .i64 o.size) := hrs.cell (i := 2) (by omega)
  have e3 : w4.cell? ⟨B, 3, none⟩ = some (.slice A3 L C3) := hrs.cell (i := 3) (by omega)
  have E0 := Lib.hid e0
  have E1 := Lib.hid e1
  have E2 := Lib.hid e2
  have E3 := Lib.hid e3
  have T4 := Lib.hid t4
  have HW4 := Lib.hid hw4
  clear hrs hw4 e0 e1 e2 e3 t4 c3 r0 r1 hcp hb3
  go_upto_region 2 with fail
  rw [HW4.out]
  have e0 := E0.out
  have e1 := E1.out
  have e2 := E2.out
  have e3 := E3.out
  have y0 := HRR.out.cell (i := 0) (by omega)
  have y1 := HRR.out.cell (i := 1) (by omega)
  have y2 := HRR.out.cell (i := 2) (by omega)
  have y4 := HRR.out.cell (i := 3) (by omega)
  have j0 := HRR.out.frozen 0
  have j1 := HRR.out.frozen 1
  have j2 := HRR.out.frozen 2
  have j4 := HRR.out.frozen 3
  have hz := (((HRR.out.set 0 (.string o.key)).set 1 (.int .i64 o.id)).set 2 (.int .i64 o.size)).set 3 (.slice A3 L C3)
  have t5 := (((T4.out.trans (Turned.set (F := fun b => b = B ∨ b = B + 1) (b := B + 1) (o := 0) (.string o.key) (.inr rfl)) (Grown.refl _ _)).trans (Turned.set (F := fun b => b = B ∨ b = B + 1) (b := B + 1) (o := 1) (.int .i64 o.id) (.inr rfl)) (Grown.refl _ _)).trans (Turned.set (F := fun b => b = B ∨ b = B + 1) (b := B + 1) (o := 2) (.int .i64 o.size) (.inr rfl)) (Grown.refl _ _)).trans (Turned.set (F := fun b => b = B ∨ b = B + 1) (b := B + 1) (o := 3) (.slice A3 L C3) (.inr rfl)) (Grown.refl _ _)
  have HW := Lib.hid (show ∃ wz, (((w4.setCell ⟨B + 1, 0, none⟩ (.string o.key)).setCell ⟨B + 1, 1, none⟩ (.int .i64 o.id)).setCell ⟨B + 1, 2, none⟩ (.int .i64 o.size)).setCell ⟨B + 1, 3, none⟩ (.slice A3 L C3) = wz ∧ wz.cell? ⟨B + 1, 0, none⟩ = some (.string o.key) ∧ wz.cell? ⟨B + 1, 1, none⟩ = some (.int .i64 o.id) ∧ wz.cell? ⟨B + 1, 2, none⟩ = some (.int .i64 o.size) ∧ wz.cell? ⟨B + 1, 3, none⟩ = some (.slice A3 L C3) ∧ Turned (fun b => b = B ∨ b = B + 1) w3 wz from
    ⟨_, rfl, hz.cell (i := 0) (by omega), hz.cell (i := 1) (by omega), hz.cell (i := 2) (by omega), hz.cell (i := 3) (by omega), t5⟩)
  clear hz t5 y3 j3
  go_wp2
  obtain ⟨wz, hwz, z0, z1, z2, z3, t5⟩ := HW.out
  rw [hwz]
  have hlat : CopyS w o.stripes (.returned (.slice A3 L C3)) wz := HCP.out.later HX.out t5 (fun b hb => by rw [HBE.out, HSZ.out]; omega)
  have hbel : Below w.heap.size w wz := (HX.out.trans (HB3.out.mono HX.out.size)).trans (t5.below (B := w.heap.size) (fun b hb => by rw [HBE.out]; omega) (Nat.le_trans HX.out.size HB3.out.size))
  refine bodyPost_ret (v := .agg #[.string o.key, .int .i64 o.id, .int .i64 o.size, .slice A3 L C3]) (by simp [results, Tryd.results51, go_sem, z0, z1, z2, z3]) rfl ⟨A3, C3, by rw [HL.out], by rw [HL.out]; exact hlat, hbel, ?_⟩
  rw [HL.out]
  exact hlat.on.map fun w'' q => ⟨A3, C3, by rw [HL.out], by rw [HL.out]; exact q, HI3.out⟩
/-- what a struct of three cells is told as -/
theorem own_of {w w' : World} {P : World → Prop} (hb : Below w.heap.size w w') (h : On (fun b => w.heap.size ≤ b ∧ b < w'.heap.size) w' P) : Own w w' P :=
  ⟨fun w'' ht => h w'' (ht.mono fun b q z => by omega), hb⟩
end Go.Proofs.YtegbgnjmkohcfaaDoor.Tbl
namespace Go.Proofs.YtegbgnjmkohcfaaDoor.Tbl
set_option linter.unusedVariables false
open Go.ChangeShapes Go.WideShapes Go.ChangeAt Go.RowKit
open Go.Mem RecM
theorem built_own {w w' : World} {base : Nat} {u : Value} {l : List Int} (h : Built IntR w' base 3 u l) (hb : w.heap.size ≤ base) (hbel : Below w.heap.size w w') : Own w w' (fun w'' => Ints w'' u l) :=
  ⟨fun w'' ht => ints_own h w'' (ht.mono fun b q z => by have := (h.own_lt b z).1; omega), hbel⟩
section
variable {w : World} {E : Nat → Prop} {p : Nat} {M : Option Nat} {A : Option Addr} {C : Nat} {t : Tb.TabD}
def ToldI (w : World) (l : List Int) (e : Ending) (w' : World) : Prop := ∃ V base, e = .returned V ∧ Built IntR w' base 3 V l ∧ w.heap.size ≤ base ∧ Below w.heap.size w w'
set_option maxHeartbeats 1000000 in
theorem statesC (h : TAt w E p M (.slice A t.states.length C) t) (hl : t.states.length ≤ 1000000) : Calls Tryd.prog 9 #[.pointer (some ⟨p, 0, none⟩)] w (ToldI w t.states) := by
  have HT := Lib.hid h
  have HL := Lib.hid hl
  have hfd := field3
  clear h hl
  go_enter Tryd.func9, Tryd.ntmps9
  go_wp2_with fail
  refine (nowC HT.out).mono ?_
  rintro _ w1 ⟨rfl, hb⟩
  have HB := Lib.hid hb
  have HI := Lib.hid (HT.out.below hb).sts.here
  clear hb
  go_wp2_with fail
  refine (cloneC t.states _ _ HI.out HL.out).mono ?_
  rintro _ w2 ⟨u, rfl, hbu, hb2⟩
  have HQ := Lib.hid (show ToldI w t.states (.returned u) w2 from ⟨u, _, rfl, hbu, HB.out.size, HB.out.trans (hb2.mono HB.out.size)⟩)
  clear hbu hb2
  go_wp2
  go_ret
  exact HQ.out
end
set_option maxHeartbeats 1000000 in
theorem statesNo (w : World) : Calls Tryd.prog 9 #[.pointer none] w fun e w' => ∃ V, e = .returned V ∧ Ints w' V [] ∧ Below w.heap.size w w' := by
  have hfd := field3
  go_enter Tryd.func9, Tryd.ntmps9
  go_wp2_with fail
  refine (nowNo w).mono ?_
  rintro _ w1 ⟨rfl, hb⟩
  have HB := Lib.hid hb
  clear hb
  go_wp2_with fail
  refine (cloneC [] _ _ (Ints.nil _) (by simp)).mono ?_
  rintro _ w2 ⟨u, rfl, hbu, hb2⟩
  have HQ := Lib.hid (show Ints w2 u [] ∧ Below w.heap.size w w2 from ⟨hbu.slice, HB.out.trans (hb2.mono HB.out.size)⟩)
  clear hbu hb2
  go_wp2
  go_ret
  exact ⟨_, rfl, HQ.out.1, HQ.out.2⟩
def zO : ObjD := ⟨⟨#[]⟩, 0, 0, []⟩
theorem zO_is (w : World) : ObjIs w (.agg #[.string ⟨#[]⟩, .int .i64 0, .int .i64 0, .slice none 0 0]) zO :=
  ⟨none, 0, rfl, Cells.nil _ _ _, by unfold I64 zO; decide, by unfold I64 zO; decide, by unfold KeyOk zO; decide, by unfold LenOk zO; decide⟩
def ToldO (w : World) (o : ObjD) (b : Bool) (e : Ending) (w' : World) : Prop := ∃ V, e = .returned (.tuple #[V, .bool b]) ∧ Own w w' (fun w'' => ObjIs w'' V o)
/-- the end of Object: what was found is copied -/
theorem bigsOk {t : Tb.TabD} (hok : t.Ok) (hn : t.n ≤ 5) {o : ObjD} (ho : o ∈ t.objs) : o.stripes.length ≤ 1000000 ∧ ∀ s ∈ o.stripes, s.locs.length ≤ 1000000 := by
  have h1 := (idOk hok ho).2.2
  refine ⟨by omega, fun s hs => ?_⟩
  have h2 := ((hok.all.1 o ho).1.2.2.2.2.2.2.2.2 s hs).2.2.1
  omega
end Go.Proofs.YtegbgnjmkohcfaaDoor.Tbl
namespace Go.Proofs.YtegbgnjmkohcfaaDoor.Tbl
set_option linter.unusedVariables false
open Go.ChangeShapes Go.WideShapes Go.ChangeAt Go.RowKit
open Go.Mem RecM
/-- what a look-up tells -/
def Looks (w : World) (M : Option Nat) (s : ByteArray) (f : Option ObjD) : Prop := ∃ o A C, (Instr.lookup TMap (.map M) (.string s) true).run Tryd.prog w = .ok (.tuple #[.agg #[.string o.key, .int .i64 o.id, .int .i64 o.size, .slice A o.stripes.length C], .bool f.isSome]) w ∧
  ObjIs w (.agg #[.string o.key, .int .i64 o.id, .int .i64 o.size, .slice A o.stripes.length C]) o ∧ o.stripes.length ≤ 1000000 ∧ (∀ s ∈ o.stripes, s.locs.length ≤ 1000000) ∧ ∀ x, f = some x → o = x
theorem looks_nil (w : World) (s : ByteArray) : Looks w none s none := ⟨zO, none, 0, look_nil w s, zO_is w, by simp [zO], fun x hx => by simp [zO] at hx, fun x h => by cases h⟩
theorem TAt.looks {w : World} {E : Nat → Prop} {p : Nat} {M : Option Nat} {S : Value} {t : Tb.TabD} (h : TAt w E p M S t) (hok : t.Ok) (s : ByteArray) : Looks w M s (Kl.find Tb.keyOf s.toList t.objs) := by
  cases M with
  | none =>
    rw [h.noMap]
    exact looks_nil w s
  | some b =>
    obtain ⟨hbp, D, hm⟩ := h.someMap
    cases hf : Kl.find Tb.keyOf s.toList t.objs with
    | none => exact ⟨zO, none, 0, hm.lookNo s hf, zO_is w, by simp [zO], fun x hx => by simp [zO] at hx, fun x h => by cases h⟩
    | some o =>
      obtain ⟨ho, hk⟩ := Kl.find_of hf
      have hks : o.key = s := Kl.list_inj hk
      subst hks
      obtain ⟨A, C, h1, h2, h3⟩ := hm.look ho
      have hb := bigsOk hok (by have := h.km; omega) ho
      exact ⟨o, A, C, h1, h3.here, hb.1, hb.2, fun x hx => by cases hx; rfl⟩
end Go.Proofs.YtegbgnjmkohcfaaDoor.Tbl
namespace Tb
open Go Go.Mem Kl
theorem numbered_get : ∀ {l : List StpD} {n : Int}, Numbered n l → ∀ (k : Nat) (hk : k < l.length), l[k].id = n + k
  | [], _, _, k, hk => absurd hk (by simp)
  | a :: l, n, h, 0, _ => by simpa using h.1
  | a :: l, n, h, k + 1, hk => by
    have := numbered_get h.2 k (by simpa using hk)
    rw [List.getElem_cons_succ, this]
    omega
theorem stripe_of {t : TabD} (hok : t.Ok) {o : ObjD} (ho : o ∈ t.objs) {k : Nat} (hk : k < o.stripes.length) : stripe t (16 * o.id + k) = some o.stripes[k] := by
  have e := numbered_get (hok.all.1 o ho).1.2.2.2.2.2.2.2.1 k hk
  rw [← e]
  exact stripe_self hok (List.mem_flatMap.2 ⟨o, ho, List.getElem_mem hk⟩)
theorem stripe_no {t : TabD} (hok : t.Ok) {id : Int} (h : ∀ o ∈ t.objs, ∀ k : Nat, k < o.stripes.length → id ≠ 16 * o.id + k) : stripe t id = none := by
  unfold stripe stripes
  rw [List.find?_eq_none]
  intro s hs
  obtain ⟨o, ho, hm⟩ := List.mem_flatMap.1 hs
  obtain ⟨k, hk, rfl⟩ := List.getElem_of_mem hm
  have e := numbered_get (hok.all.1 o ho).1.2.2.2.2.2.2.2.1 k hk
  simp only [decide_eq_true_eq]
  intro q
  exact h o ho k hk (by rw [← e, q])
end Tb
namespace Go.Proofs.YtegbgnjmkohcfaaDoor.Tbl
set_option linter.unusedVariables false
open Go.ChangeShapes Go.WideShapes Go.ChangeAt Go.RowKit
open Go.Mem RecM
set_option maxRecDepth 100000 in
set_option maxHeartbeats 4000000 in
theorem byIDNo (w : World) (id : Int) : Calls Tryd.prog 24 #[.pointer none, .int .i64 id] w fun e w' => e = .returned (.tuple #[.agg #[.string ⟨#[]⟩, .int .i64 0, .int .i64 0, .slice none 0 0], .bool false]) ∧ Below w.heap.size w w' := by
  obtain ⟨w1, hw1⟩ : ∃ w1, w.alloc (.cells #[.string ⟨#[]⟩, .int .i64 0, .int .i64 0, .slice none 0 0] TObj) = w1 := ⟨_, rfl⟩
  have hx : Below w.heap.size w w1 := by rw [← hw1]; exact (Below.refl _ _).alloc (Nat.le_refl _) _
  obtain ⟨B, hB⟩ : ∃ B, w.heap.size = B := ⟨_, rfl⟩
  have hrow : w1.rowIs B TObj 4 (fun i => #[Value.string ⟨#[]⟩, .int .i64 0, .int .i64 0, .slice none 0 0].getD i undef) := by rw [← hw1, ← hB]; exact row_of w _ _
  have hsz : w1.heap.size = B + 1 := by rw [← hw1, ← hB]; simp
  have HX := Lib.hid hx
  have HROW := Lib.hid hrow
  have HSZ := Lib.hid hsz
  have HW1 := Lib.hid hw1
  have HBE := Lib.hid hB
  clear hx hrow hsz hw1 hB
  go_enter Tryd.func24, Tryd.ntmps24
  go_wp2_with fail
  rw [HW1.out, HBE.out]
  refine (nowNo _).mono ?_
  rintro _ w2 ⟨rfl, hb2⟩
  have HB2 := Lib.hid (HX.out.trans (hb2.mono HX.out.size))
  have hr2 := HROW.out.of_block (hb2.block B (by rw [HSZ.out]; omega))
  have hB2 : B < w2.heap.size := by have := hb2.size; rw [HSZ.out] at this; omega
  have hrg := run_range_nilMap (P := Tryd.prog) w2 TMap TStr TObj Tryd.underlying54
  have hnx : ∀ ty, (Instr.next (.pointer (some ⟨w2.heap.size, 0, none⟩)) false ty).run Tryd.prog (w2.alloc (.mapIter none 0 #[] 0)) = _ := fun ty => run_next_nilMap w2 ty 0 0 #[]
  obtain ⟨w3, hw3⟩ : ∃ w3, w2.alloc (.mapIter none 0 #[] 0) = w3 := ⟨_, rfl⟩
  have hb3 : Below w2.heap.size w2 w3 := by rw [← hw3]; exact (Below.refl _ _).alloc (Nat.le_refl _) _
  rw [hw3] at hrg hnx
  have HR3 := Lib.hid (hr2.of_block (hb3.block B hB2))
  have HB3 := Lib.hid (HB2.out.trans (hb3.mono HB2.out.size))
  have y0 := HR3.out.cell (i := 0) (by omega)
  have y1 := HR3.out.cell (i := 1) (by omega)
  have y2 := HR3.out.cell (i := 2) (by omega)
  have y3 := HR3.out.cell (i := 3) (by omega)
  have j0 := HR3.out.frozen 0
  have j1 := HR3.out.frozen 1
  have j2 := HR3.out.frozen 2
  have j3 := HR3.out.frozen 3
  have hz := ((((HR3.out.set 0 (.string ⟨#[]⟩)).set 1 (.int .i64 0)).set 2 (.int .i64 0)).set 3 (.slice none 0 0))
  have HW4 := Lib.hid (show ∃ wz, ((((w3.setCell ⟨B, 0, none⟩ (.string ⟨#[]⟩)).setCell ⟨B, 1, none⟩ (.int .i64 0)).setCell ⟨B, 2, none⟩ (.int .i64 0)).setCell ⟨B, 3, none⟩ (.slice none 0 0)) = wz ∧ wz.cell? ⟨B, 0, none⟩ = some (.string ⟨#[]⟩) ∧ wz.cell? ⟨B, 1, none⟩ = some (.int .i64 0) ∧ wz.cell? ⟨B, 2, none⟩ = some (.int .i64 0) ∧ wz.cell? ⟨B, 3, none⟩ = some (.slice none 0 0) ∧ Turned (fun y => y = B) w3 wz ∧ wz.rowIs B TObj 4 (fun i => #[Value.string ⟨#[]⟩, .int .i64 0, .int .i64 0, .slice none 0 0].getD i undef) from
    ⟨_, rfl, hz.cell (i := 0) (by omega), hz.cell (i := 1) (by omega), hz.cell (i := 2) (by omega), hz.cell (i := 3) (by omega), ((((Turned.set (F := fun y => y = B) (b := B) _ rfl).trans (Turned.set (F := fun y => y = B) (b := B) _ rfl) (Grown.refl _ _)).trans (Turned.set (F := fun y => y = B) (b := B) _ rfl) (Grown.refl _ _)).trans (Turned.set (F := fun y => y = B) (b := B) _ rfl) (Grown.refl _ _)), hz.congr (fun i hi => by rcases (by omega : i = 0 ∨ i = 1 ∨ i = 2 ∨ i = 3) with rfl | rfl | rfl | rfl <;> rfl)⟩)
  clear hz
  clear hw3 hb3 hr2 hb2 hB2
  have hfd := field2
  go_wp2
  refine wp_loop_rounds 1 ?_
  rw [rounds_succ]
  go_wp2
  obtain ⟨wz, hwz, z0, z1, z2, z3, htz, -⟩ := HW4.out
  rw [hwz]
  exact bodyPost_ret (v := .tuple #[.agg #[.string ⟨#[]⟩, .int .i64 0, .int .i64 0, .slice none 0 0], .bool false]) (by simp [results, Tryd.results24, go_sem, z0, z1, z2, z3]) rfl ⟨rfl, HB3.out.trans (htz.below (fun y q => by rw [q, HBE.out]; exact Nat.le_refl _) HB3.out.size)⟩
set_option maxRecDepth 100000 in
set_option maxHeartbeats 4000000 in
theorem findNo (w : World) (id : Int) : Calls Tryd.prog 15 #[.pointer none, .int .i64 id] w fun e w' => e = .returned (.tuple #[.agg #[.string ⟨#[]⟩, .int .i64 0, .int .i64 0, .slice none 0 0], .int .i64 0, .bool false]) ∧ Below w.heap.size w w' := by
  obtain ⟨w1, hw1⟩ : ∃ w1, w.alloc (.cells #[.string ⟨#[]⟩, .int .i64 0, .int .i64 0, .slice none 0 0] TObj) = w1 := ⟨_, rfl⟩
  have hx : Below w.heap.size w w1 := by rw [← hw1]; exact (Below.refl _ _).alloc (Nat.le_refl _) _
  obtain ⟨B, hB⟩ : ∃ B, w.heap.size = B := ⟨_, rfl⟩
  have hrow : w1.rowIs B TObj 4 (fun i => #[Value.string ⟨#[]⟩, .int .i64 0, .int .i64 0, .slice none 0 0].getD i undef) := by rw [← hw1, ← hB]; exact row_of w _ _
  have hsz : w1.heap.size = B + 1 := by rw [← hw1, ← hB]; simp
  have HX := Lib.hid hx
  have HROW := Lib.hid hrow
  have HSZ := Lib.hid hsz
  have HW1 := Lib.hid hw1
  have HBE := Lib.hid hB
  clear hx hrow hsz hw1 hB
  go_enter Tryd.func15, Tryd.ntmps15
  go_wp2_with fail
  rw [HW1.out, HBE.out]
  refine (byIDNo _ _).mono ?_
  rintro _ w2 ⟨rfl, hb2⟩
  have HB2 := Lib.hid (HX.out.trans (hb2.mono HX.out.size))
  have HR2 := Lib.hid (HROW.out.of_block (hb2.block B (by rw [HSZ.out]; omega)))
  clear hb2
  have y0 := HR2.out.cell (i := 0) (by omega)
  have y1 := HR2.out.cell (i := 1) (by omega)
  have y2 := HR2.out.cell (i := 2) (by omega)
  have y3 := HR2.out.cell (i := 3) (by omega)
  have j0 := HR2.out.frozen 0
  have j1 := HR2.out.frozen 1
  have j2 := HR2.out.frozen 2
  have j3 := HR2.out.frozen 3
  have hz := ((((HR2.out.set 0 (.string ⟨#[]⟩)).set 1 (.int .i64 0)).set 2 (.int .i64 0)).set 3 (.slice none 0 0))
  have HW3 := Lib.hid (show ∃ wz, ((((w2.setCell ⟨B, 0, none⟩ (.string ⟨#[]⟩)).setCell ⟨B, 1, none⟩ (.int .i64 0)).setCell ⟨B, 2, none⟩ (.int .i64 0)).setCell ⟨B, 3, none⟩ (.slice none 0 0)) = wz ∧ wz.cell? ⟨B, 0, none⟩ = some (.string ⟨#[]⟩) ∧ wz.cell? ⟨B, 1, none⟩ = some (.int .i64 0) ∧ wz.cell? ⟨B, 2, none⟩ = some (.int .i64 0) ∧ wz.cell? ⟨B, 3, none⟩ = some (.slice none 0 0) ∧ Turned (fun y => y = B) w2 wz ∧ wz.rowIs B TObj 4 (fun i => #[Value.string ⟨#[]⟩, .int .i64 0, .int .i64 0, .slice none 0 0].getD i undef) from
    ⟨_, rfl, hz.cell (i := 0) (by omega), hz.cell (i := 1) (by omega), hz.cell (i := 2) (by omega), hz.cell (i := 3) (by omega), ((((Turned.set (F := fun y => y = B) (b := B) _ rfl).trans (Turned.set (F := fun y => y = B) (b := B) _ rfl) (Grown.refl _ _)).trans (Turned.set (F := fun y => y = B) (b := B) _ rfl) (Grown.refl _ _)).trans (Turned.set (F := fun y => y = B) (b := B) _ rfl) (Grown.refl _ _)), hz.congr (fun i hi => by rcases (by omega : i = 0 ∨ i = 1 ∨ i = 2 ∨ i = 3) with rfl | rfl | rfl | rfl <;> rfl)⟩)
  clear hz
  obtain ⟨w3, hw3, x0, x1, x2, x3, ht3, hr3⟩ := HW3.out
  have HW := Lib.hid hw3
  have HT3 := Lib.hid ht3
  have HR3 := Lib.hid hr3
  clear hw3 ht3 hr3 HW3 x0 x1 x2 x3
  go_upto_region 2 with fail
  rw [HW.out]
  clear y0 y1 y2 y3 j0 j1 j2 j3
  have y0 := HR3.out.cell (i := 0) (by omega)
  have y1 := HR3.out.cell (i := 1) (by omega)
  have y2 := HR3.out.cell (i := 2) (by omega)
  have y3 := HR3.out.cell (i := 3) (by omega)
  have j0 := HR3.out.frozen 0
  have j1 := HR3.out.frozen 1
  have j2 := HR3.out.frozen 2
  have j3 := HR3.out.frozen 3
  have hz := ((((HR3.out.set 0 (.string ⟨#[]⟩)).set 1 (.int .i64 0)).set 2 (.int .i64 0)).set 3 (.slice none 0 0))
  have HW4 := Lib.hid (show ∃ wz, ((((w3.setCell ⟨B, 0, none⟩ (.string ⟨#[]⟩)).setCell ⟨B, 1, none⟩ (.int .i64 0)).setCell ⟨B, 2, none⟩ (.int .i64 0)).setCell ⟨B, 3, none⟩ (.slice none 0 0)) = wz ∧ wz.cell? ⟨B, 0, none⟩ = some (.string ⟨#[]⟩) ∧ wz.cell? ⟨B, 1, none⟩ = some (.int .i64 0) ∧ wz.cell? ⟨B, 2, none⟩ = some (.int .i64 0) ∧ wz.cell? ⟨B, 3, none⟩ = some (.slice none 0 0) ∧ Turned (fun y => y = B) w3 wz ∧ wz.rowIs B TObj 4 (fun i => #[Value.string ⟨#[]⟩, .int .i64 0, .int .i64 0, .slice none 0 0].getD i undef) from
    ⟨_, rfl, hz.cell (i := 0) (by omega), hz.cell (i := 1) (by omega), hz.cell (i := 2) (by omega), hz.cell (i := 3) (by omega), ((((Turned.set (F := fun y => y = B) (b := B) _ rfl).trans (Turned.set (F := fun y => y = B) (b := B) _ rfl) (Grown.refl _ _)).trans (Turned.set (F := fun y => y = B) (b := B) _ rfl) (Grown.refl _ _)).trans (Turned.set (F := fun y => y = B) (b := B) _ rfl) (Grown.refl _ _)), hz.congr (fun i hi => by rcases (by omega : i = 0 ∨ i = 1 ∨ i = 2 ∨ i = 3) with rfl | rfl | rfl | rfl <;> rfl)⟩)
  clear hz
  go_wp2
  obtain ⟨wz, hwz, z0, z1, z2, z3, htz, -⟩ := HW4.out
  rw [hwz]
  exact bodyPost_ret (v := .tuple #[.agg #[.string ⟨#[]⟩, .int .i64 0, .int .i64 0, .slice none 0 0], .int .i64 0, .bool false]) (by simp [results, Tryd.results15, go_sem, z0, z1, z2, z3]) rfl ⟨rfl, (HB2.out.trans (HT3.out.below (fun y q => by rw [q, HBE.out]; exact Nat.le_refl _) HB2.out.size)).trans (htz.below (fun y q => by rw [q, HBE.out]; exact Nat.le_refl _) (Nat.le_trans HB2.out.size HT3.out.size))⟩
def ToldS (w : World) (o : Option StpD) (e : Ending) (w' : World) : Prop := ∃ V, e = .returned (.tuple #[V, .bool o.isSome]) ∧ Own w w' (fun w'' => StpIs w'' V (o.getD noStp))
theorem noStp_is (w : World) : StpIs w (.agg #[.int .i64 0, .int .i64 0, .slice none 0 0]) noStp := ⟨none, 0, rfl, Ints.nil _, by unfold I64 noStp; decide, by unfold I64 noStp; decide, by unfold LenOk noStp; decide⟩
set_option maxRecDepth 100000 in
set_option maxHeartbeats 4000000 in
theorem stripeNo (w : World) (id : Int) : Calls Tryd.prog 7 #[.pointer none, .int .i64 id] w (ToldS w none) := by
  obtain ⟨w1, hw1⟩ : ∃ w1, w.alloc (.cells #[.int .i64 0, .int .i64 0, .slice none 0 0] TStp) = w1 := ⟨_, rfl⟩
  have hx : Below w.heap.size w w1 := by rw [← hw1]; exact (Below.refl _ _).alloc (Nat.le_refl _) _
  obtain ⟨B, hB⟩ : ∃ B, w.heap.size = B := ⟨_, rfl⟩
  have hrow : w1.rowIs B TStp 3 (fun i => #[Value.int .i64 0, .int .i64 0, .slice none 0 0].getD i undef) := by rw [← hw1, ← hB]; exact row_of w _ _
  have hsz : w1.heap.size = B + 1 := by rw [← hw1, ← hB]; simp
  have HX := Lib.hid hx
  have HROW := Lib.hid hrow
  have HSZ := Lib.hid hsz
  have HW1 := Lib.hid hw1
  have HBE := Lib.hid hB
  clear hx hrow hsz hw1 hB
  go_enter Tryd.func7, Tryd.ntmps7
  go_wp2_with fail
  rw [HW1.out, HBE.out]
  refine (findNo _ _).mono ?_
  rintro _ w2 ⟨rfl, hb2⟩
  have HB2 := Lib.hid (HX.out.trans (hb2.mono HX.out.size))
  have hr2 := HROW.out.of_block (hb2.block B (by rw [HSZ.out]; omega))
  have hal : Below w2.heap.size w2 (w2.alloc (.cells #[.string ⟨#[]⟩, .int .i64 0, .int .i64 0, .slice none 0 0] TObj)) := (Below.refl _ _).alloc (Nat.le_refl _) _
  obtain ⟨w3, hw3⟩ : ∃ w3, w2.alloc (.cells #[.string ⟨#[]⟩, .int .i64 0, .int .i64 0, .slice none 0 0] TObj) = w3 := ⟨_, rfl⟩
  rw [hw3] at hal
  have HW3 := Lib.hid hw3
  have HR3 := Lib.hid (hr2.of_block (hal.block B hr2.lt))
  have HB3 := Lib.hid (HB2.out.trans (hal.mono HB2.out.size))
  clear hb2 hr2 hal hw3
  go_upto_region 2 with fail
  rw [HW3.out]
  have y0 := HR3.out.cell (i := 0) (by omega)
  have y1 := HR3.out.cell (i := 1) (by omega)
  have y2 := HR3.out.cell (i := 2) (by omega)
  have j0 := HR3.out.frozen 0
  have j1 := HR3.out.frozen 1
  have j2 := HR3.out.frozen 2
  have hz := (((HR3.out.set 0 (.int .i64 0)).set 1 (.int .i64 0)).set 2 (.slice none 0 0))
  have HW5 := Lib.hid (show ∃ wz, (((w3.setCell ⟨B, 0, none⟩ (.int .i64 0)).setCell ⟨B, 1, none⟩ (.int .i64 0)).setCell ⟨B, 2, none⟩ (.slice none 0 0)) = wz ∧ wz.cell? ⟨B, 0, none⟩ = some (.int .i64 0) ∧ wz.cell? ⟨B, 1, none⟩ = some (.int .i64 0) ∧ wz.cell? ⟨B, 2, none⟩ = some (.slice none 0 0) ∧ Turned (fun y => y = B) w3 wz ∧ wz.rowIs B TStp 3 (fun i => #[Value.int .i64 0, .int .i64 0, .slice none 0 0].getD i undef) from
    ⟨_, rfl, hz.cell (i := 0) (by omega), hz.cell (i := 1) (by omega), hz.cell (i := 2) (by omega), (((Turned.set (F := fun y => y = B) (b := B) _ rfl).trans (Turned.set (F := fun y => y = B) (b := B) _ rfl) (Grown.refl _ _)).trans (Turned.set (F := fun y => y = B) (b := B) _ rfl) (Grown.refl _ _)), hz.congr (fun i hi => by rcases (by omega : i = 0 ∨ i = 1 ∨ i = 2) with rfl | rfl | rfl <;> rfl)⟩)
  clear hz
  go_wp2
  obtain ⟨wz, hwz, z0, z1, z2, htz, -⟩ := HW5.out
  rw [hwz]
  exact bodyPost_ret (v := .tuple #[.agg #[.int .i64 0, .int .i64 0, .slice none 0 0], .bool false]) (by simp [results, Tryd.results7, go_sem, z0, z1, z2]) rfl (show ToldS w none (.returned (.tuple #[.agg #[.int .i64 0, .int .i64 0, .slice none 0 0], .bool false])) wz from ⟨_, rfl, fun w'' _ => noStp_is w'', HB3.out.trans (htz.below (fun y q => by rw [q, HBE.out]; exact Nat.le_refl _) HB3.out.size)⟩)
set_option maxRecDepth 100000 in
set_option maxHeartbeats 4000000 in
theorem stripeC {w : World} {E : Nat → Prop} {p : Nat} {M : Option Nat} {A : Option Addr} {C : Nat} {t : Tb.TabD} (h : TAt w E p M (.slice A t.states.length C) t) (hok : t.Ok) (id : Int) (hid : I64 id) :
    Calls Tryd.prog 7 #[.pointer (some ⟨p, 0, none⟩), .int .i64 id] w (ToldS w (Tb.stripe t id)) := by
  obtain ⟨w1, hw1⟩ : ∃ w1, w.alloc (.cells #[.int .i64 0, .int .i64 0, .slice none 0 0] TStp) = w1 := ⟨_, rfl⟩
  have hx : Below w.heap.size w w1 := by rw [← hw1]; exact (Below.refl _ _).alloc (Nat.le_refl _) _
  obtain ⟨B, hB⟩ : ∃ B, w.heap.size = B := ⟨_, rfl⟩
  have hrow : w1.rowIs B TStp 3 (fun i => #[Value.int .i64 0, .int .i64 0, .slice none 0 0].getD i undef) := by rw [← hw1, ← hB]; exact row_of w _ _
  have hsz : w1.heap.size = B + 1 := by rw [← hw1, ← hB]; simp
  have HX := Lib.hid hx
  have HROW := Lib.hid hrow
  have HSZ := Lib.hid hsz
  have HW1 := Lib.hid hw1
  have HBE := Lib.hid hB
  have HT := Lib.hid (h.below hx)
  have HOK := Lib.hid hok
  have HID := Lib.hid hid
  have HN5 := Lib.hid (show t.n ≤ 5 by have := h.km; omega)
  clear h hok hid hx hrow hsz hw1 hB
  go_enter Tryd.func7, Tryd.ntmps7
  go_wp2_with fail
  rw [HW1.out, HBE.out]
  refine (findC HT.out HOK.out id HID.out).mono ?_
  rintro _ w2 ⟨hb2, hfd⟩
  rcases hfd with ⟨o, A2, C2, k, ho, hk, hek, rfl, hon⟩ | ⟨hno, rfl⟩
  · have hst := Tb.stripe_of HOK.out ho hk
    rw [← hek] at hst
    have hbig := (bigsOk HOK.out HN5.out ho).2 _ (List.getElem_mem hk)
    obtain ⟨A9, C9, e9, hsts, -⟩ := hon.here
    cases e9
    have HB2 := Lib.hid (HX.out.trans (hb2.mono HX.out.size))
    have hr2 := HROW.out.of_block (hb2.block B (by rw [HSZ.out]; omega))
    have hal : Below w2.heap.size w2 (w2.alloc (.cells #[.string o.key, .int .i64 o.id, .int .i64 o.size, .slice A2 o.stripes.length C2] TObj)) := (Below.refl _ _).alloc (Nat.le_refl _) _
    have hbox := boxed4 w2 (.string o.key) (.int .i64 o.id) (.int .i64 o.size) (.slice A2 o.stripes.length C2)
    have hs3 := hsts.below hal
    obtain ⟨gA, gB, -⟩ : o.stripes.length ≤ C2 ∧ C2 ≤ 9223372036854775807 ∧ True := by
      obtain ⟨A8, C8, e8, g1, g2, -⟩ := hsts.shape
      cases e8
      exact ⟨g1, g2, trivial⟩
    obtain ⟨w3, hw3⟩ : ∃ w3, w2.alloc (.cells #[.string o.key, .int .i64 o.id, .int .i64 o.size, .slice A2 o.stripes.length C2] TObj) = w3 := ⟨_, rfl⟩
    rw [hw3] at hal hbox hs3
    have HR3 := Lib.hid (hr2.of_block (hal.block B hr2.lt))
    have HB3 := Lib.hid (HB2.out.trans (hal.mono HB2.out.size))
    obtain ⟨g, hg⟩ : ∃ g, w2.heap.size = g := ⟨_, rfl⟩
    have HG := Lib.hid hg
    rw [hg] at hbox
    have b3 := hbox.cell (i := 3) (by omega)
    obtain ⟨b, ob, A4, C4, rfl, d0, d1, d2, d3, d4, d5, d6⟩ := hs3.at hk
    have HI := Lib.hid d3
    have HI3 := Lib.hid (And.intro d4 (And.intro d5 d6))
    have HBIG := Lib.hid hbig
    obtain ⟨x, hx⟩ : ∃ x, o.stripes[k] = x := ⟨_, rfl⟩
    rw [hx] at d0 d1 d2 HI HI3 HBIG hst
    have HST := Lib.hid hst
    obtain ⟨N, hN⟩ : ∃ N, o.stripes.length = N := ⟨_, rfl⟩
    rw [hN] at b3 gA hk hw3 ⊢
    obtain ⟨L, hL⟩ : ∃ L, x.locs.length = L := ⟨_, rfl⟩
    have HL := Lib.hid hL
    rw [hL] at d2 HI
    have HW3 := Lib.hid hw3
    have HBS := Lib.hid (show B < w3.heap.size from HR3.out.lt)
    have HSW := Lib.hid (show w.heap.size ≤ w3.heap.size from HB3.out.size)
    have q1 : (0 : Int) ≤ (k : Int) := by omega
    have q2 : (k : Int) < (N : Int) := by omega
    have B3 := Lib.hid b3
    have D0 := Lib.hid d0
    have D1 := Lib.hid d1
    have D2 := Lib.hid d2
    clear hst hb2 ho hek hon hsts hr2 hal hbox hs3 hw3 hg d3 d4 d5 d6 hbig hx hN hL b3 d0 d1 d2
    go_upto_region 2 with fail
    rw [HW3.out, HG.out]
    have b3 := B3.out
    have d0 := D0.out
    have d1 := D1.out
    have d2 := D2.out
    go_wp2_with fail
    refine (cloneStripeC (.agg #[.int .i64 x.id, .int .i64 x.ep, .slice A4 L C4]) x ⟨A4, C4, by rw [HL.out], by rw [HL.out]; exact HI.out, HI3.out⟩ HBIG.out).mono ?_
    rintro _ w4 ⟨A5, C5, rfl, hbu, hb4⟩
    have HBU := Lib.hid hbu
    have HR4 := Lib.hid (HR3.out.of_block (hb4.block B HBS.out))
    have HB4 := Lib.hid (HB3.out.trans (hb4.mono HB3.out.size))
    rw [HL.out] at HBU ⊢
    clear hbu hb4 b3 d0 d1 d2
    have y0 := HR4.out.cell (i := 0) (by omega)
    have y1 := HR4.out.cell (i := 1) (by omega)
    have y2 := HR4.out.cell (i := 2) (by omega)
    have j0 := HR4.out.frozen 0
    have j1 := HR4.out.frozen 1
    have j2 := HR4.out.frozen 2
    have hz := (((HR4.out.set 0 (.int .i64 x.id)).set 1 (.int .i64 x.ep)).set 2 (.slice A5 L C5))
    have HW5 := Lib.hid (show ∃ wz, (((w4.setCell ⟨B, 0, none⟩ (.int .i64 x.id)).setCell ⟨B, 1, none⟩ (.int .i64 x.ep)).setCell ⟨B, 2, none⟩ (.slice A5 L C5)) = wz ∧ wz.cell? ⟨B, 0, none⟩ = some (.int .i64 x.id) ∧ wz.cell? ⟨B, 1, none⟩ = some (.int .i64 x.ep) ∧ wz.cell? ⟨B, 2, none⟩ = some (.slice A5 L C5) ∧ Turned (fun y => y = B) w4 wz ∧ wz.rowIs B TStp 3 (fun i => #[Value.int .i64 x.id, .int .i64 x.ep, .slice A5 L C5].getD i undef) from
      ⟨_, rfl, hz.cell (i := 0) (by omega), hz.cell (i := 1) (by omega), hz.cell (i := 2) (by omega), (((Turned.set (F := fun y => y = B) (b := B) _ rfl).trans (Turned.set (F := fun y => y = B) (b := B) _ rfl) (Grown.refl _ _)).trans (Turned.set (F := fun y => y = B) (b := B) _ rfl) (Grown.refl _ _)), hz.congr (fun i hi => by rcases (by omega : i = 0 ∨ i = 1 ∨ i = 2) with rfl | rfl | rfl <;> rfl)⟩)
    clear hz
    go_wp2
    obtain ⟨wz, hwz, z0, z1, z2, htz, -⟩ := HW5.out
    rw [hwz]
    have hown : Own w wz (fun w'' => StpIs w'' (.agg #[.int .i64 x.id, .int .i64 x.ep, .slice A5 L C5]) x) := by
      refine ⟨fun w'' ht => ?_, HB4.out.trans (htz.below (fun y q => by rw [q, HBE.out]; exact Nat.le_refl _) HB4.out.size)⟩
      have h1 : On (fun b => (Value.slice A5 L C5).ownBlock = some b) w4 (fun w' => Ints w' (.slice A5 L C5) x.locs) := ints_own HBU.out
      have h2 := h1.turned htz (fun y q z => by subst q; have := (HBU.out.own_lt _ z).1; have := HBS.out; omega)
      exact ⟨A5, C5, by rw [HL.out], by rw [HL.out]; exact h2 w'' (ht.mono fun y q z => by have := (HBU.out.own_lt _ z).1; have := HSW.out; omega), HI3.out⟩
    exact bodyPost_ret (v := .tuple #[.agg #[.int .i64 x.id, .int .i64 x.ep, .slice A5 L C5], .bool true]) (by simp [results, Tryd.results7, go_sem, z0, z1, z2]) rfl (show ToldS w (Tb.stripe t id) (.returned (.tuple #[.agg #[.int .i64 x.id, .int .i64 x.ep, .slice A5 L C5], .bool true])) wz by rw [HST.out]; exact ⟨_, rfl, hown⟩)
  · have HST := Lib.hid (Tb.stripe_no HOK.out hno)
    clear hno
    have HB2 := Lib.hid (HX.out.trans (hb2.mono HX.out.size))
    have hr2 := HROW.out.of_block (hb2.block B (by rw [HSZ.out]; omega))
    have hal : Below w2.heap.size w2 (w2.alloc (.cells #[.string ⟨#[]⟩, .int .i64 0, .int .i64 0, .slice none 0 0] TObj)) := (Below.refl _ _).alloc (Nat.le_refl _) _
    obtain ⟨w3, hw3⟩ : ∃ w3, w2.alloc (.cells #[.string ⟨#[]⟩, .int .i64 0, .int .i64 0, .slice none 0 0] TObj) = w3 := ⟨_, rfl⟩
    rw [hw3] at hal
    have HW3 := Lib.hid hw3
    have HR3 := Lib.hid (hr2.of_block (hal.block B hr2.lt))
    have HB3 := Lib.hid (HB2.out.trans (hal.mono HB2.out.size))
    clear hb2 hr2 hal hw3
    go_upto_region 2 with fail
    rw [HW3.out]
    have y0 := HR3.out.cell (i := 0) (by omega)
    have y1 := HR3.out.cell (i := 1) (by omega)
    have y2 := HR3.out.cell (i := 2) (by omega)
    have j0 := HR3.out.frozen 0
    have j1 := HR3.out.frozen 1
    have j2 := HR3.out.frozen 2
    have hz := (((HR3.out.set 0 (.int .i64 0)).set 1 (.int .i64 0)).set 2 (.slice none 0 0))
    have HW5 := Lib.hid (show ∃ wz, (((w3.setCell ⟨B, 0, none⟩ (.int .i64 0)).setCell ⟨B, 1, none⟩ (.int .i64 0)).setCell ⟨B, 2, none⟩ (.slice none 0 0)) = wz ∧ wz.cell? ⟨B, 0, none⟩ = some (.int .i64 0) ∧ wz.cell? ⟨B, 1, none⟩ = some (.int .i64 0) ∧ wz.cell? ⟨B, 2, none⟩ = some (.slice none 0 0) ∧ Turned (fun y => y = B) w3 wz ∧ wz.rowIs B TStp 3 (fun i => #[Value.int .i64 0, .int .i64 0, .slice none 0 0].getD i undef) from
      ⟨_, rfl, hz.cell (i := 0) (by omega), hz.cell (i := 1) (by omega), hz.cell (i := 2) (by omega), (((Turned.set (F := fun y => y = B) (b := B) _ rfl).trans (Turned.set (F := fun y => y = B) (b := B) _ rfl) (Grown.refl _ _)).trans (Turned.set (F := fun y => y = B) (b := B) _ rfl) (Grown.refl _ _)), hz.congr (fun i hi => by rcases (by omega : i = 0 ∨ i = 1 ∨ i = 2) with rfl | rfl | rfl <;> rfl)⟩)
    clear hz
    go_wp2
    obtain ⟨wz, hwz, z0, z1, z2, htz, -⟩ := HW5.out
    rw [hwz]
    exact bodyPost_ret (v := .tuple #[.agg #[.int .i64 0, .int .i64 0, .slice none 0 0], .bool false]) (by simp [results, Tryd.results7, go_sem, z0, z1, z2]) rfl (show ToldS w (Tb.stripe t id) (.returned (.tuple #[.agg #[.int .i64 0, .int .i64 0, .slice none 0 0], .bool false])) wz by rw [HST.out]; exact ⟨_, rfl, fun w'' _ => noStp_is w'', HB3.out.trans (htz.below (fun y q => by rw [q, HBE.out]; exact Nat.le_refl _) HB3.out.size)⟩)
end Go.Proofs.YtegbgnjmkohcfaaDoor.Tbl
