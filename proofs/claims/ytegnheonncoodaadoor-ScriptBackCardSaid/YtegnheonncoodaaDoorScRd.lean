/- The program's reader of a line. -/
import Derived.Test.YtegnheonncoodaaDoorScCut
import Derived.Test.YtegnheonncoodaaDoorScUnd
import Derived.Test.YtegnheonncoodaaDoorScWr
import Derived.Deep.RegionLaw
import Derived.RangeFuncWrites
namespace Go.Proofs.YtegnheonncoodaaDoor.Scr
set_option linter.unusedVariables false
open Go.ChangeShapes Go.WideShapes Go.ChangeAt Go.RowKit
open Go.Mem Sc
/-- a step's box -/
def five (v0 v1 v2 v3 v4 : Value) (i : Nat) : Value := match i with
  | 0 => v0
  | 1 => v1
  | 2 => v2
  | 3 => v3
  | _ => v4
def Box5 (w : World) (g : Nat) (v0 v1 v2 v3 v4 : Value) : Prop := w.rowIs g TStep 5 (five v0 v1 v2 v3 v4)
section
variable {w w' : World} {g : Nat} {v0 v1 v2 v3 v4 : Value}
theorem Box5.new (w : World) (v0 v1 v2 v3 v4 : Value) : Box5 (w.alloc (.cells #[v0, v1, v2, v3, v4] TStep)) w.heap.size v0 v1 v2 v3 v4 :=
  World.rowIs_alloc w _ TStep _ (fun i hi => by
    have : i < 5 := hi
    rcases (by omega : i = 0 ∨ i = 1 ∨ i = 2 ∨ i = 3 ∨ i = 4) with rfl | rfl | rfl | rfl | rfl <;> rfl)
theorem Box5.c0 (h : Box5 w g v0 v1 v2 v3 v4) : w.cell? ⟨g, 0, none⟩ = some v0 := h.cell (i := 0) (by omega)
theorem Box5.c1 (h : Box5 w g v0 v1 v2 v3 v4) : w.cell? ⟨g, 1, none⟩ = some v1 := h.cell (i := 1) (by omega)
theorem Box5.c2 (h : Box5 w g v0 v1 v2 v3 v4) : w.cell? ⟨g, 2, none⟩ = some v2 := h.cell (i := 2) (by omega)
theorem Box5.c3 (h : Box5 w g v0 v1 v2 v3 v4) : w.cell? ⟨g, 3, none⟩ = some v3 := h.cell (i := 3) (by omega)
theorem Box5.c4 (h : Box5 w g v0 v1 v2 v3 v4) : w.cell? ⟨g, 4, none⟩ = some v4 := h.cell (i := 4) (by omega)
theorem Box5.free (h : Box5 w g v0 v1 v2 v3 v4) (i : Nat) : w.frozen? ⟨g, i, none⟩ = false := h.frozen i
theorem Box5.inside (h : Box5 w g v0 v1 v2 v3 v4) : g < w.heap.size := h.lt
theorem Box5.below (h : Box5 w g v0 v1 v2 v3 v4) (hb : Below w.heap.size w w') : Box5 w' g v0 v1 v2 v3 v4 := h.of_block (hb.block g h.lt)
theorem Box5.other (h : Box5 w g v0 v1 v2 v3 v4) {a : Addr} (ha : g ≠ a.block) (v : Value) : Box5 (w.setCell a v) g v0 v1 v2 v3 v4 := h.setOther ha v
theorem five_cases {i : Nat} (h : i < 5) : i = 0 ∨ i = 1 ∨ i = 2 ∨ i = 3 ∨ i = 4 := by omega
theorem Box5.put0 (h : Box5 w g v0 v1 v2 v3 v4) (v : Value) : Box5 (w.setCell ⟨g, 0, none⟩ v) g v v1 v2 v3 v4 := (h.set 0 v).congr fun i hi => by rcases five_cases hi with rfl | rfl | rfl | rfl | rfl <;> rfl
theorem Box5.put1 (h : Box5 w g v0 v1 v2 v3 v4) (v : Value) : Box5 (w.setCell ⟨g, 1, none⟩ v) g v0 v v2 v3 v4 := (h.set 1 v).congr fun i hi => by rcases five_cases hi with rfl | rfl | rfl | rfl | rfl <;> rfl
theorem Box5.put2 (h : Box5 w g v0 v1 v2 v3 v4) (v : Value) : Box5 (w.setCell ⟨g, 2, none⟩ v) g v0 v1 v v3 v4 := (h.set 2 v).congr fun i hi => by rcases five_cases hi with rfl | rfl | rfl | rfl | rfl <;> rfl
theorem Box5.put3 (h : Box5 w g v0 v1 v2 v3 v4) (v : Value) : Box5 (w.setCell ⟨g, 3, none⟩ v) g v0 v1 v2 v v4 := (h.set 3 v).congr fun i hi => by rcases five_cases hi with rfl | rfl | rfl | rfl | rfl <;> rfl
theorem Box5.put4 (h : Box5 w g v0 v1 v2 v3 v4) (v : Value) : Box5 (w.setCell ⟨g, 4, none⟩ v) g v0 v1 v2 v3 v := (h.set 4 v).congr fun i hi => by rcases five_cases hi with rfl | rfl | rfl | rfl | rfl <;> rfl
end
theorem cutB (l : List UInt8) (hl : l.length ≤ 1000000) (w : World) : Calls Tryd.prog 28 #[.string (str l), .string ⟨#[32]⟩] w fun e w' => (∃ b, e = .returned (.tuple #[.string (str (bef l)), .string (str (aft l)), .bool b])) ∧ Below w.heap.size w w' :=
  (cutC l (by omega) w).mono fun e w' ⟨h, n, hw⟩ => ⟨h, by rw [hw]; exact below_drewN _ _ _⟩
theorem atoiL (l : List UInt8) (hl : (str l).size ≤ 281474976710656) (w : World) (hT : Tabs w) : Calls Tryd.prog 29 #[.string (str l)] w (Num (.int .i64 (atoiV l)) w) := atoiC (str l) hl w hT
theorem p10L (l : List UInt8) (hl : (str l).size ≤ 281474976710656) (w : World) (hT : Tabs w) : Calls Tryd.prog 30 #[.string (str l), .int .i64 10, .int .i64 64] w (Num (.int .u64 (uintV l : Nat)) w) := p10C (str l) hl w hT
def IsCells (w : World) (b : Nat) : Prop := ∃ o, w.heap[b]? = some o ∧ o.isCells = true
theorem built_cells {α : Type} {R : World → Value → α → Prop} {w : World} {base t : Nat} {v : Value} {L : List α} (h : Built R w base t v L) : ∀ b, v.ownBlock = some b → IsCells w b := by
  obtain ⟨xs, h1, _⟩ := h
  intro b q
  rcases h1.2 with ⟨e, _⟩ | ⟨g, cap, cur, e, _, hg, _⟩
  · rw [e] at q; cases q
  · rw [e] at q
    have : g = b := by injection q
    subst this
    exact ⟨_, hg, rfl⟩
/-- what is read, and that its data read on -/
def ReadP (x : SD) (w : World) (e : Ending) (w' : World) : Prop := ∃ A C, e = .returned (stepVal x A C) ∧ On (fun b => (Value.slice A x.data.length C).ownBlock = some b) w' (fun w'' => Bytes w'' (.slice A x.data.length C) (nums x.data)) ∧
  (∀ b, (Value.slice A x.data.length C).ownBlock = some b → w.heap.size ≤ b ∧ IsCells w' b) ∧ Below w.heap.size w w'
theorem readEnd {w we wf : World} {g : Nat} {x : SD} {A2 : Option Addr} {C2 : Nat} (hbu : Built ByteR wf we.heap.size 5 (.slice A2 (nums x.data).length C2) (nums x.data)) (hb : Below w.heap.size w we) (hbf : Below we.heap.size we wf) (hg : w.heap.size ≤ g) (hge : g < we.heap.size)
    (u2 u3 z0 z1 z2 z3 z4 : Value) (h0 : w.heap.size < we.heap.size) {wz : World} (hz : ((((((wf.setCell ⟨g, 2, none⟩ u2).setCell ⟨g, 3, none⟩ u3).setCell ⟨w.heap.size, 0, none⟩ z0).setCell ⟨w.heap.size, 1, none⟩ z1).setCell ⟨w.heap.size, 2, none⟩ z2).setCell ⟨w.heap.size, 3, none⟩ z3).setCell ⟨w.heap.size, 4, none⟩ z4 = wz) : ReadP x w (.returned (stepVal x A2 C2)) wz := by
  have ho := hbu.own_lt
  have hcl := built_cells hbu
  have h1 := slice_on (fun _ _ _ _ h => h) hbu
  rw [nums_len] at h1 ho hcl
  subst hz
  refine ⟨A2, C2, rfl, ?_, ?_, ?_⟩
  · have t : ∀ {W : World} {b : Nat} (i : Nat) (v : Value), On (fun b => (Value.slice A2 x.data.length C2).ownBlock = some b) W (fun w' => SliceOf ByteR w' (.slice A2 x.data.length C2) (nums x.data)) → b < we.heap.size → On (fun b => (Value.slice A2 x.data.length C2).ownBlock = some b) (W.setCell ⟨b, i, none⟩ v) (fun w' => SliceOf ByteR w' (.slice A2 x.data.length C2) (nums x.data)) := by
      intro W b i v h hlt
      refine h.turned (F := fun c => c = b) (Turned.set _ rfl) ?_
      rintro c rfl q
      have := (ho c q).1
      omega
    exact t 4 z4 (t 3 z3 (t 2 z2 (t 1 z1 (t 0 z0 (t 3 u3 (t 2 u2 h1 hge) hge) h0) h0) h0) h0) h0
  · intro b q
    have hb' := ho b q
    obtain ⟨ob, e1, e2⟩ := hcl b q
    refine ⟨by omega, ob, ?_, e2⟩
    rw [Below.heap_setCell _ _ _ _ (by show b ≠ w.heap.size; omega), Below.heap_setCell _ _ _ _ (by show b ≠ w.heap.size; omega), Below.heap_setCell _ _ _ _ (by show b ≠ w.heap.size; omega), Below.heap_setCell _ _ _ _ (by show b ≠ w.heap.size; omega), Below.heap_setCell _ _ _ _ (by show b ≠ w.heap.size; omega), Below.heap_setCell _ _ _ _ (by show b ≠ g; omega), Below.heap_setCell _ _ _ _ (by show b ≠ g; omega)]
    exact e1
  · exact (((((((hb.trans (hbf.mono hb.size)).setCell hg _).setCell hg _).setCell (Nat.le_refl _) _).setCell (Nat.le_refl _) _).setCell (Nat.le_refl _) _).setCell (Nat.le_refl _) _).setCell (Nat.le_refl _) _
set_option maxRecDepth 100000 in
set_option maxHeartbeats 8000000 in
theorem readC (l : List UInt8) (hl : l.length ≤ 1000000) (w : World) (hT : Tabs w) : Calls Tryd.prog 17 #[.string (str l)] w (ReadP (readF l) w) := by
  have h1 : (aft l).length ≤ 1000000 := Nat.le_trans (aft_len _) hl
  have h2 : (aft (aft l)).length ≤ 1000000 := Nat.le_trans (aft_len _) h1
  have h3 : (aft (aft (aft l))).length ≤ 1000000 := Nat.le_trans (aft_len _) h2
  have h4 : (aft (aft (aft (aft l)))).length ≤ 1000000 := Nat.le_trans (aft_len _) h3
  have b0 : (str (bef l)).size ≤ 281474976710656 := by rw [str_size]; exact Nat.le_trans (bef_len _) (by omega)
  have b1 : (str (bef (aft l))).size ≤ 281474976710656 := by rw [str_size]; exact Nat.le_trans (bef_len _) (by omega)
  have b2 : (str (bef (aft (aft l)))).size ≤ 281474976710656 := by rw [str_size]; exact Nat.le_trans (bef_len _) (by omega)
  have b3 : (bef (aft (aft (aft l)))).length ≤ 1000000 := Nat.le_trans (bef_len _) h3
  obtain ⟨wa, hwa⟩ : ∃ wa, w.alloc (.cells #[.int .i64 0, .int .i64 0, .string ⟨#[]⟩, .slice none 0 0, .int .u64 0] TStep) = wa := ⟨_, rfl⟩
  have ra : Box5 wa w.heap.size (.int .i64 0) (.int .i64 0) (.string ⟨#[]⟩) (.slice none 0 0) (.int .u64 0) := by rw [← hwa]; exact Box5.new _ _ _ _ _ _
  have hba : Below w.heap.size w wa := by rw [← hwa]; exact (Below.refl _ _).alloc (Nat.le_refl _) _
  have RA := Lib.hid ra
  have HBA := Lib.hid hba
  have HTA := Lib.hid (hT.below hba)
  clear ra hba hT
  go_enter Tryd.func17, Tryd.ntmps17
  go_wp2_with fail
  refine (cutB l hl _).mono ?_
  rintro e w1 ⟨⟨q1, rfl⟩, hw1⟩
  have HW1 := Lib.hid hw1
  clear hw1
  go_wp2_with fail
  refine (cutB (aft l) h1 _).mono ?_
  rintro e w2 ⟨⟨q2, rfl⟩, hw2⟩
  have HW2 := Lib.hid (HW1.out.trans (hw2.mono HW1.out.size))
  clear hw2
  go_wp2_with fail
  refine (cutB _ h2 _).mono ?_
  rintro e w3 ⟨⟨q3, rfl⟩, hw3⟩
  have HW3 := Lib.hid (HW2.out.trans (hw3.mono HW2.out.size))
  clear hw3
  go_wp2_with fail
  refine (cutB _ h3 _).mono ?_
  rintro e w4 ⟨⟨q4, rfl⟩, hw4⟩
  have HW4 := Lib.hid (HW3.out.trans (hw4.mono HW3.out.size))
  clear hw4
  obtain ⟨w5, hw5⟩ : ∃ w5, w4.alloc (.cells #[.int .i64 0, .int .i64 0, .string ⟨#[]⟩, .slice none 0 0, .int .u64 0] TStep) = w5 := ⟨_, rfl⟩
  have r5 : Box5 w5 w4.heap.size (.int .i64 0) (.int .i64 0) (.string ⟨#[]⟩) (.slice none 0 0) (.int .u64 0) := by rw [← hw5]; exact Box5.new _ _ _ _ _ _
  have hb5 : Below wa.heap.size wa w5 := by rw [← hw5]; exact HW4.out.alloc HW4.out.size _
  have R5 := Lib.hid r5
  have HB5 := Lib.hid hb5
  have hT5 : Tabs w5 := HTA.out.below hb5
  have HG := Lib.hid HW4.out.size
  clear r5 hb5
  go_wp2_with fail
  refine (atoiL (bef l) b0 _ hT5).mono ?_
  rintro e w6 ⟨E6, rfl, hb6⟩
  have r6 := R5.out.below hb6
  have HB6 := Lib.hid (HB5.out.trans (hb6.mono HB5.out.size))
  have k6 := r6.c0
  have f6 := r6.free 0
  obtain ⟨w7, hw7⟩ : ∃ w7, w6.setCell ⟨w4.heap.size, 0, none⟩ (.int .i64 (atoiV (bef l))) = w7 := ⟨_, rfl⟩
  have r7 := r6.put0 (.int .i64 (atoiV (bef l)))
  have hb7 := HB6.out.setCell (p := ⟨w4.heap.size, 0, none⟩) HG.out (.int .i64 (atoiV (bef l)))
  rw [hw7] at r7 hb7
  have R7 := Lib.hid r7
  have HB7 := Lib.hid hb7
  have hT7 : Tabs w7 := HTA.out.below hb7
  clear r6 r7 hb7 hb6 hw5
  go_wp2_with fail
  refine (atoiL (bef (aft l)) b1 _ hT7).mono ?_
  rintro e w8 ⟨E8, rfl, hb8⟩
  have r8 := R7.out.below hb8
  have HB8 := Lib.hid (HB7.out.trans (hb8.mono HB7.out.size))
  clear k6 f6 hw7
  have k8 := r8.c1
  have f8 := r8.free 1
  obtain ⟨w9, hw9⟩ : ∃ w9, w8.setCell ⟨w4.heap.size, 1, none⟩ (.int .i64 (atoiV (bef (aft l)))) = w9 := ⟨_, rfl⟩
  have r9 := r8.put1 (.int .i64 (atoiV (bef (aft l))))
  have hb9 := HB8.out.setCell (p := ⟨w4.heap.size, 1, none⟩) HG.out (.int .i64 (atoiV (bef (aft l))))
  rw [hw9] at r9 hb9
  have R9 := Lib.hid r9
  have HB9 := Lib.hid hb9
  have hT9 : Tabs w9 := HTA.out.below hb9
  clear r8 r9 hb9 hb8
  go_wp2_with fail
  refine (p10L (bef (aft (aft l))) b2 _ hT9).mono ?_
  rintro e wc ⟨E10, rfl, hbc⟩
  have rc := R9.out.below hbc
  have HBC := Lib.hid (HB9.out.trans (hbc.mono HB9.out.size))
  clear k8 f8 hw9
  have kc := rc.c4
  have fc := rc.free 4
  obtain ⟨wd, hwd⟩ : ∃ wd, wc.setCell ⟨w4.heap.size, 4, none⟩ (.int .u64 (uintV (bef (aft (aft l))) : Nat)) = wd := ⟨_, rfl⟩
  have rd := rc.put4 (.int .u64 (uintV (bef (aft (aft l))) : Nat))
  have hbd := HBC.out.setCell (p := ⟨w4.heap.size, 4, none⟩) HG.out (.int .u64 (uintV (bef (aft (aft l))) : Nat))
  rw [hwd] at rd hbd
  have RD := Lib.hid rd
  have HBD := Lib.hid hbd
  have HDD : Hid (Below wa.heap.size wa wd.drew) := hbd.drew
  have RDD : Hid (Box5 wd.drew w4.heap.size (.int .i64 (atoiV (bef l))) (.int .i64 (atoiV (bef (aft l)))) (.string ⟨#[]⟩) (.slice none 0 0) (.int .u64 (uintV (bef (aft (aft l))) : Nat))) := rd.drew
  have HTD : Hid (Tabs wd.drew) := HTA.out.below HDD.out
  clear rc rd hbd hbc
  go_wp2_with fail
  clear kc fc hwd
  go_region_law (first
      | (go_simp; go_at_call 31; (with_reducible refine (undigC (bef (aft (aft (aft l)))) b3 _ HTD.out).mono ?_); rintro _ we ⟨V1, rfl, hbu1, hbe⟩; obtain ⟨A1, C1, rfl, -, -⟩ := hbu1.len; have cv1 := bytes_str (l := undig (bef (aft (aft (aft l))))) hbu1.slice; have HBU1 := Lib.hid hbu1; have HBE := Lib.hid hbe; have HTE := Lib.hid (HTD.out.below hbe); clear hbu1 hbe)
      | (go_simp; go_at_call 31; (with_reducible refine (undigC (aft (aft (aft (aft l)))) h4 _ HTE.out).mono ?_); rintro _ wf ⟨V2, rfl, hbu2, hbf⟩; obtain ⟨A2, C2, rfl, -, -⟩ := hbu2.len; have cv2 := bytes_str (l := undig (bef (aft (aft (aft l))))) (HBU1.out.below hbf).slice; have HBU2 := Lib.hid hbu2; have HBF := Lib.hid hbf; have rf := (RDD.out.below HBE.out).below hbf; have k2 := rf.c2; have k3 := rf.c3; have f2 := rf.free 2; have f3 := rf.free 3; have RF := Lib.hid rf; clear hbu2 hbf rf))
  all_goals
    have hbg : Below wa.heap.size wa wf := (HDD.out.trans (HBE.out.mono HDD.out.size)).trans (HBF.out.mono (Nat.le_trans HDD.out.size HBE.out.size))
    have rg := (RF.out.put2 (.string (str (undig (bef (aft (aft (aft l)))))))).put3 (.slice A2 (nums (undig (aft (aft (aft (aft l)))))).length C2)
    have hg1 : w4.heap.size < we.heap.size := Nat.lt_of_lt_of_le RDD.out.inside HBE.out.size
    have hw0 : w.heap.size < we.heap.size := Nat.lt_of_lt_of_le RA.out.inside (Nat.le_trans HDD.out.size HBE.out.size)
    have hne : w.heap.size ≠ w4.heap.size := by have := RA.out.inside; have := HG.out; omega
    have r0 := ((RA.out.below hbg).other (a := ⟨w4.heap.size, 2, none⟩) hne (.string (str (undig (bef (aft (aft (aft l)))))))).other (a := ⟨w4.heap.size, 3, none⟩) hne (.slice A2 (nums (undig (aft (aft (aft (aft l)))))).length C2)
    have HEND := Lib.hid (fun z0 z1 z2 z3 z4 (wz : World) => readEnd (w := w) (g := w4.heap.size) (x := readF l) (wz := wz) HBU2.out (HBA.out.trans ((HDD.out.trans (HBE.out.mono HDD.out.size)).mono HBA.out.size)) HBF.out (Nat.le_trans HBA.out.size HG.out) hg1 (.string (str (undig (bef (aft (aft (aft l))))))) (.slice A2 (nums (undig (aft (aft (aft (aft l)))))).length C2) z0 z1 z2 z3 z4 hw0)
    obtain ⟨wg, hwg⟩ : ∃ wg, (wf.setCell ⟨w4.heap.size, 2, none⟩ (.string (str (undig (bef (aft (aft (aft l)))))))).setCell ⟨w4.heap.size, 3, none⟩ (.slice A2 (nums (undig (aft (aft (aft (aft l)))))).length C2) = wg := ⟨_, rfl⟩
    rw [hwg] at rg r0 HEND ⊢
    have c0 := rg.c0
    have c1 := rg.c1
    have c2 := rg.c2
    have c3 := rg.c3
    have c4 := rg.c4
    have d0 := r0.c0
    have d1 := r0.c1
    have d2 := r0.c2
    have d3 := r0.c3
    have d4 := r0.c4
    have f0 := r0.free
    clear k2 k3 f2 f3 hwg
    go_wp2_with fail
    have rz := ((((r0.put0 (.int .i64 (atoiV (bef l)))).put1 (.int .i64 (atoiV (bef (aft l))))).put2 (.string (str (undig (bef (aft (aft (aft l)))))))).put3 (.slice A2 (nums (undig (aft (aft (aft (aft l)))))).length C2)).put4 (.int .u64 (uintV (bef (aft (aft l))) : Nat))
    obtain ⟨wz, hwz⟩ : ∃ wz, ((((wg.setCell ⟨w.heap.size, 0, none⟩ (.int .i64 (atoiV (bef l)))).setCell ⟨w.heap.size, 1, none⟩ (.int .i64 (atoiV (bef (aft l))))).setCell ⟨w.heap.size, 2, none⟩ (.string (str (undig (bef (aft (aft (aft l)))))))).setCell ⟨w.heap.size, 3, none⟩ (.slice A2 (nums (undig (aft (aft (aft (aft l)))))).length C2)).setCell ⟨w.heap.size, 4, none⟩ (.int .u64 (uintV (bef (aft (aft l))) : Nat)) = wz := ⟨_, rfl⟩
    have HE := HEND.out _ _ _ _ _ wz hwz
    rw [hwz] at rz ⊢
    have z0 := rz.c0
    have z1 := rz.c1
    have z2 := rz.c2
    have z3 := rz.c3
    have z4 := rz.c4
    have e : stepVal (readF l) A2 C2 = .agg #[.int .i64 (atoiV (bef l)), .int .i64 (atoiV (bef (aft l))), .string (str (undig (bef (aft (aft (aft l)))))), .slice A2 (nums (undig (aft (aft (aft (aft l)))))).length C2, .int .u64 (uintV (bef (aft (aft l))) : Nat)] := by unfold stepVal; rw [nums_len]; rfl
    rw [e] at HE
    refine bodyPost_ret (v := .agg #[.int .i64 (atoiV (bef l)), .int .i64 (atoiV (bef (aft l))), .string (str (undig (bef (aft (aft (aft l)))))), .slice A2 (nums (undig (aft (aft (aft (aft l)))))).length C2, .int .u64 (uintV (bef (aft (aft l))) : Nat)]) (by simp [results, Tryd.results17, go_sem, z0, z1, z2, z3, z4]) rfl ?_
    exact HE
end Go.Proofs.YtegnheonncoodaaDoor.Scr
