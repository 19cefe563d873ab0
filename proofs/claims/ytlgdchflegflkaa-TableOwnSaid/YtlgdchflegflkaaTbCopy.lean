/- The document's copy of an object, as a walk. -/
import Derived.Test.YtlgdchflegflkaaTbBuilt
import Derived.Deep.Cut
namespace Go.Proofs.Ytlgdchflegflkaa.Tbl
set_option linter.unusedVariables false
open Go.ChangeShapes Go.WideShapes Go.ChangeAt Go.RowKit
open Go.Mem RecM
theorem infoInt : (Try.prog.info? 3).map (fun i => (i.zero, i.size, i.bytes)) = some (some (.int .i64 0), 1, 8) := by kernel_rfl
theorem infoStp : (Try.prog.info? 42).map (fun i => (i.zero, i.size, i.bytes)) = some (some (.agg #[.int .i64 0, .int .i64 0, .slice none 0 0]), 3, 40) := by kernel_rfl
theorem infoObj : (Try.prog.info? 46).map (fun i => (i.zero, i.size, i.bytes)) = some (some (.agg #[.string ⟨#[]⟩, .int .i64 0, .int .i64 0, .slice none 0 0]), 4, 56) := by kernel_rfl
abbrev TStp : Nat := 42
abbrev TObj : Nat := 46
theorem row_of (w : World) (c : Array Value) (T : TypeId) : (w.alloc (.cells c T)).rowIs w.heap.size T c.size (fun i => c.getD i undef) := World.rowIs_alloc w c T (fun i => c.getD i undef) (fun i hi => by simp [Array.getD, hi])
/-- in the midst of a copy: i stripes are copied, into blocks K -/
def CMid (w1 : World) (l : List StpD) (i : Nat) (v : Value) (wr : World) : Prop := ∃ K : Nat → Prop, BuiltX 3 StpR K wr TStp v (l.take i) ∧ (∀ b, K b → w1.heap.size ≤ b ∧ b < wr.heap.size) ∧ (∀ b, v.ownBlock = some b → w1.heap.size ≤ b) ∧ Below w1.heap.size w1 wr
theorem CMid.bel {w1 wr : World} {l : List StpD} {i : Nat} {v : Value} (h : CMid w1 l i v wr) : Below w1.heap.size w1 wr := by
  obtain ⟨K, _, _, _, q⟩ := h
  exact q
theorem CMid.len {w1 wr : World} {l : List StpD} {i : Nat} {v : Value} (h : CMid w1 l i v wr) (hi : i ≤ l.length) : ∃ A C, v = .slice A i C := by
  obtain ⟨K, q, _⟩ := h
  obtain ⟨A', C', e, -⟩ := q.len
  rw [List.length_take, Nat.min_eq_left hi] at e
  exact ⟨A', C', e⟩
/-- one stripe more: its places are copied to v3, the copy is put into block wr.heap.size, and from there behind the others -/
theorem cmid_next {w1 wr w3 : World} {l : List StpD} {i : Nat} {v : Value} (h : CMid w1 l i v wr) (hi : i < l.length) {A3 : Option Addr} {C3 : Nat} {c : Array Value} (hb : Below (wr.alloc (.cells c TStp)).heap.size (wr.alloc (.cells c TStp)) w3)
    (hbu : Built IntR w3 (wr.alloc (.cells c TStp)).heap.size 3 (.slice A3 l[i].locs.length C3) l[i].locs) (h0 : I64 l[i].id) (h1 : I64 l[i].ep) (h2 : LenOk l[i].locs.length) :
    ∃ K : Nat → Prop, BuiltX 3 StpR K (w3.setCell ⟨wr.heap.size, 2, none⟩ (.slice A3 l[i].locs.length C3)) TStp v (l.take i) ∧ (∀ b, K b → w1.heap.size ≤ b ∧ b < (w3.setCell ⟨wr.heap.size, 2, none⟩ (.slice A3 l[i].locs.length C3)).heap.size) ∧
      On K (w3.setCell ⟨wr.heap.size, 2, none⟩ (.slice A3 l[i].locs.length C3)) (fun w' => StpR w' (fun j => #[Value.int .i64 l[i].id, .int .i64 l[i].ep, .slice A3 l[i].locs.length C3].getD j undef) l[i]) ∧ Below w1.heap.size w1 (w3.setCell ⟨wr.heap.size, 2, none⟩ (.slice A3 l[i].locs.length C3)) := by
  obtain ⟨K, k1, k2, k3, k4⟩ := h
  have hal : Below wr.heap.size wr (wr.alloc (.cells c TStp)) := (Below.refl _ _).alloc (Nat.le_refl _) _
  have hsz : (wr.alloc (.cells c TStp)).heap.size = wr.heap.size + 1 := by simp
  have hw3 : Below wr.heap.size wr w3 := hal.trans (hb.mono hal.size)
  have hs3 : wr.heap.size + 1 ≤ w3.heap.size := by have := hb.size; omega
  have hset : Turned (fun b => b = wr.heap.size) w3 (w3.setCell ⟨wr.heap.size, 2, none⟩ (.slice A3 l[i].locs.length C3)) := Turned.set _ rfl
  have hss : (w3.setCell ⟨wr.heap.size, 2, none⟩ (.slice A3 l[i].locs.length C3)).heap.size = w3.heap.size := by simp [World.setCell]
  have hown := hbu.own_lt
  have hKo : ∀ b, K b → b < wr.heap.size := fun b q => (k2 b q).2
  have hvo : ∀ b, v.ownBlock = some b → b < wr.heap.size := k1.own_lt
  refine ⟨fun b => K b ∨ (Value.slice A3 l[i].locs.length C3).ownBlock = some b, ?_, fun b q => ?_, ?_, ?_⟩
  · have e1 := k1.below hw3
    have e2 := e1.turned hset (fun b q => ⟨fun z => by have := hKo b z; omega, fun z => by have := hvo b z; omega⟩)
    obtain ⟨xs, p1, p2, p3⟩ := k1
    exact e2.more (fun b q => .inl q) (fun b q z => by
      rcases z with z | z
      · exact p2 b q z
      · have := hvo b q; have := (hown b z).1; omega)
  · rw [hss]
    rcases q with q | q
    · exact ⟨(k2 b q).1, by have := hKo b q; omega⟩
    · exact ⟨by have := (hown b q).1; have := k4.size; omega, (hown b q).2⟩
  · have e1 : On (fun b => (Value.slice A3 l[i].locs.length C3).ownBlock = some b) w3 (fun w' => Ints w' (.slice A3 l[i].locs.length C3) l[i].locs) := ints_own hbu
    have e2 := On.turned e1 hset (fun b q z => by have := (hown b z).1; omega)
    exact (On.more e2 (fun b q => .inr q)).map fun w' q => ⟨rfl, rfl, q, h0, h1, h2⟩
  · exact (k4.trans (hw3.mono k4.size)).setCell (by exact k4.size) _
set_option maxHeartbeats 8000000 in
theorem copiedC {w : World} (o : ObjD) (V : Value) (hV : ObjIs w V o) (hlen : o.stripes.length ≤ 10000) (hlocs : ∀ s ∈ o.stripes, s.locs.length ≤ 1000000) :
    Calls Try.prog 29 #[V] w fun e w' => ∃ A C, e = .returned (.agg #[.string o.key, .int .i64 o.id, .int .i64 o.size, .slice A o.stripes.length C]) ∧
      (∃ K : Nat → Prop, BuiltX 3 StpR K w' TStp (.slice A o.stripes.length C) o.stripes ∧ (∀ b, K b → w.heap.size ≤ b ∧ b < w'.heap.size) ∧ (∀ b, (Value.slice A o.stripes.length C).ownBlock = some b → w.heap.size ≤ b)) ∧ Below w.heap.size w w' := by
  obtain ⟨A, C, rfl, hi, i0, i1, i2, i3⟩ := hV
  obtain ⟨key, id, size, l⟩ := o
  dsimp only at hi i0 i1 i2 i3 hlen hlocs ⊢
  obtain ⟨w1, hw1⟩ : ∃ w1, w1 = (w.alloc (.cells #[.string key, .int .i64 id, .int .i64 size, .slice A l.length C] TObj)).alloc (.cells #[.string ⟨#[]⟩, .int .i64 0, .int .i64 0, .slice none 0 0] TObj) := ⟨_, rfl⟩
  have hx0 : Below w.heap.size w (w.alloc (.cells #[.string key, .int .i64 id, .int .i64 size, .slice A l.length C] TObj)) := (Below.refl _ _).alloc (Nat.le_refl _) _
  have hx : Below w.heap.size w w1 := by rw [hw1]; exact hx0.alloc hx0.size _
  have hs1 : w1.heap.size = w.heap.size + 2 := by rw [hw1]; simp
  have hsec : Below (w.alloc (.cells #[.string key, .int .i64 id, .int .i64 size, .slice A l.length C] TObj)).heap.size (w.alloc (.cells #[.string key, .int .i64 id, .int .i64 size, .slice A l.length C] TObj)) w1 := by rw [hw1]; exact (Below.refl _ _).alloc (Nat.le_refl _) _
  have HB := Lib.hid (fun (j : Nat) (hj : j < 4) => (below_cell hsec _ _ (cells_of w #[.string key, .int .i64 id, .int .i64 size, .slice A l.length C] TObj (i := j) hj)))
  have HR := Lib.hid (show w1.rowIs (w.heap.size + 1) TObj 4 (fun j => #[Value.string ⟨#[]⟩, .int .i64 0, .int .i64 0, .slice none 0 0].getD j undef) by
    have := row_of (w.alloc (.cells #[.string key, .int .i64 id, .int .i64 size, .slice A l.length C] TObj)) #[Value.string ⟨#[]⟩, .int .i64 0, .int .i64 0, .slice none 0 0] TObj
    rw [← hw1, show (w.alloc (.cells #[.string key, .int .i64 id, .int .i64 size, .slice A l.length C] TObj)).heap.size = w.heap.size + 1 by simp] at this
    exact this)
  have HBR := Lib.hid (show w1.rowIs w.heap.size TObj 4 (fun j => #[Value.string key, .int .i64 id, .int .i64 size, .slice A l.length C].getD j undef) from (row_of w #[Value.string key, .int .i64 id, .int .i64 size, .slice A l.length C] TObj).of_block (hsec.block _ (by simp)))
  have HI := Lib.hid (hi.below hx)
  obtain ⟨gA1, gA2⟩ : l.length ≤ C ∧ C ≤ 9223372036854775807 := by
    obtain ⟨A', C', e, g1, g2, -⟩ := hi.shape
    cases e
    exact ⟨g1, g2⟩
  have HX := Lib.hid hx
  have HS1 := Lib.hid hs1
  have HLOC := Lib.hid hlocs
  have HM0 := Lib.hid (show CMid w1 l 0 (.slice none 0 0) w1 from ⟨fun _ => False, BuiltX.start _ _ _ _ _, fun b q => q.elim, fun b q => (by cases q), Below.refl _ _⟩)
  obtain ⟨N, hN⟩ : ∃ N, l.length = N := ⟨_, rfl⟩
  have HN := Lib.hid hN
  obtain ⟨B, hB⟩ : ∃ B, w.heap.size = B := ⟨_, rfl⟩
  have HBE := Lib.hid hB
  rw [hN] at gA1 HI HB HBR hw1 hlen ⊢
  rw [hB] at HB HBR HR HS1
  have HW1 := Lib.hid hw1
  clear hi i0 i1 i2 i3 hx hx0 hs1 hsec hB hw1 hN hlocs
  go_enter Try.func29, Try.ntmps29
  go_wp2_with fail
  rw [← HW1.out, HBE.out]
  go_loopw [3, 4] (fun v c wr => ∃ i : Nat, i ≤ N ∧ c = .int .i64 i ∧ CMid w1 l i v wr) (fun _ c _ => N - (intOf c).toNat)
  case atStart => exact ⟨0, Nat.zero_le _, rfl, HM0.out⟩
  case round =>
    obtain ⟨i, hi, rfl, hm⟩ := hrel
    have HM := Lib.hid hm
    have d3 := below_cell hm.bel _ _ (HB.out 3 (by omega))
    by_cases hlt : i < N
    · have hil : i < l.length := by rw [HN.out]; exact hlt
      obtain ⟨AV, CV, rfl⟩ := hm.len (by omega)
      obtain ⟨b, o, A', C', rfl, a0, a1, a2, a3, a4⟩ := (HI.out.below hm.bel).at hil
      have HLX := Lib.hid (HLOC.out _ (List.getElem_mem hil))
      obtain ⟨v3, w3, hr3, hbu3, hb3, A3, C3, e3⟩ := int_app (P := Try.prog) (wr.alloc (.cells #[.int .i64 l[i].id, .int .i64 l[i].ep, .slice A' l[i].locs.length C'] TStp)) 29 29 3 Try.underlying29 infoInt A' l[i].locs.length C' l[i].locs (a3.below ((Below.refl _ _).alloc (Nat.le_refl _) _)) HLX.out
      subst e3
      have HNX := Lib.hid (cmid_next hm hil hb3 hbu3 a4.1 a4.2.1 a4.2.2)
      have HTK := Lib.hid (show l.take (i + 1) = l.take i ++ [l[i]] from List.take_succ_eq_append_getElem hil)
      have HTL := Lib.hid (show (l.take i).length = i by rw [List.length_take]; omega)
      have hbs : Below wr.heap.size wr w3 := ((Below.refl _ _).alloc (Nat.le_refl _) _).trans (hb3.mono (by simp))
      have f0 := below_cell hb3 _ _ (cells_of wr #[.int .i64 l[i].id, .int .i64 l[i].ep, .slice A' l[i].locs.length C'] TStp (i := 0) (by simp))
      have f1 := below_cell hb3 _ _ (cells_of wr #[.int .i64 l[i].id, .int .i64 l[i].ep, .slice A' l[i].locs.length C'] TStp (i := 1) (by simp))
      have f2 := below_cell hb3 _ _ (cells_of wr #[.int .i64 l[i].id, .int .i64 l[i].ep, .slice A' l[i].locs.length C'] TStp (i := 2) (by simp))
      have fz : w3.frozen? ⟨wr.heap.size, 2, none⟩ = false := ((row_of wr #[.int .i64 l[i].id, .int .i64 l[i].ep, .slice A' l[i].locs.length C'] TStp).of_block (hb3.block _ (by simp))).frozen 2
      rw [show (wr.alloc (.cells #[.int .i64 l[i].id, .int .i64 l[i].ep, .slice A' l[i].locs.length C'] TStp)).heap.size = wr.heap.size + 1 by simp] at hr3
      have HR3 := Lib.hid hr3
      obtain ⟨x, hx⟩ : ∃ x, l[i] = x := ⟨_, rfl⟩
      rw [hx] at a0 a1 a2 f0 f1 f2 HR3 HNX HTK
      obtain ⟨M, hM⟩ : ∃ M, x.locs.length = M := ⟨_, rfl⟩
      rw [hM] at a2 f2 HR3 HNX
      have q1 : (0 : Int) ≤ (i : Int) := by omega
      have q2 : (i : Int) < (N : Int) := by omega
      clear HLX hx hil hm hr3 hbu3 hb3 hM a3 a4 hbs
      obtain ⟨K, k1, k2, k3, k4⟩ := HNX.out
      have K1 := Lib.hid k1
      have K2 := Lib.hid k2
      have K3 := Lib.hid k3
      have K4 := Lib.hid k4
      clear k1 k2 k3 k4 HNX
      go_upto_region 7 with (at_builtin; refine Lib.wpList_append_run _ rfl (.tmp 18) (.tmp 20) _ _ rfl _ _ rfl rfl _ _ HR3.out ?_)
      have g0 := (World.cell?_setCell_other w3 ⟨wr.heap.size, 2, none⟩ ⟨wr.heap.size, 0, none⟩ (.slice A3 M C3) (by simp)).trans f0
      have g1 := (World.cell?_setCell_other w3 ⟨wr.heap.size, 2, none⟩ ⟨wr.heap.size, 1, none⟩ (.slice A3 M C3) (by simp)).trans f1
      have g2 := World.cell?_setCell_same w3 ⟨wr.heap.size, 2, none⟩ (.slice A3 M C3) f2
      obtain ⟨w4, hw4⟩ : ∃ w4, w3.setCell ⟨wr.heap.size, 2, none⟩ (.slice A3 M C3) = w4 := ⟨_, rfl⟩
      rw [hw4] at g0 g1 g2 K1 K2 K3 K4 ⊢
      clear f0 f1 f2 fz a0 a1 a2 d3 hw4 HR3
      go_wp2_with (at_builtin; refine wpList_append_builtX (K := K) _ rfl (.tmp 23) (.tmp 25) 34 rfl TStp _ 40 Try.underlying34 infoStp rfl (by omega) _ (l.take i) rfl K1.out (fun b q => (K2.out b q).2) #[.int .i64 x.id, .int .i64 x.ep, .slice A3 M C3] x _ rfl rfl rfl (fun u hu => by simp at hu; rcases hu with rfl | rfl | rfl <;> rfl) K3.out (by rw [HTL.out]; omega) ?_; intro v5 w5 hbu5 ht5 hat5)
      have hnew : CMid w1 l (i + 1) v5 w5 := by
        obtain ⟨K', _, _, o3, _⟩ := HM.out
        have hs1 := K4.out.size
        refine ⟨K, by rw [HTK.out]; exact hbu5, fun b q => ⟨(K2.out b q).1, Nat.lt_of_lt_of_le (K2.out b q).2 ht5.size⟩, fun b q => ?_, K4.out.trans (ht5.below (fun b q => o3 b q) hs1)⟩
        rcases hat5 with e | e
        · exact o3 b (e ▸ q)
        · rw [e] at q; injection q with q; omega
      have HNEW := Lib.hid hnew
      clear hnew hbu5 ht5 hat5 g0 g1 g2
      go_wp2
      go_roundw
      case rel => exact ⟨i + 1, by omega, by go_num, HNEW.out⟩
      case measure => simp [intOf]; omega
    · obtain rfl : i = N := by omega
      obtain ⟨AV, CV, rfl⟩ := hm.len (by rw [HN.out]; omega)
      have d0 := below_cell hm.bel _ _ (HB.out 0 (by omega))
      have d1 := below_cell hm.bel _ _ (HB.out 1 (by omega))
      have d2 := below_cell hm.bel _ _ (HB.out 2 (by omega))
      have r0 := (HR.out.of_block (hm.bel.block _ (by rw [HS1.out]; omega)))
      have rb := (HBR.out.of_block (hm.bel.block _ (by rw [HS1.out]; omega)))
      have y0 := r0.cell (i := 0) (by omega)
      have y1 := r0.cell (i := 1) (by omega)
      have y2 := r0.cell (i := 2) (by omega)
      have y3 := r0.cell (i := 3) (by omega)
      have j0 := r0.frozen 0
      have j1 := r0.frozen 1
      have j2 := r0.frozen 2
      have j3 := r0.frozen 3
      have jb := rb.frozen 3
      have t1 := Turned.set (F := fun b => b = B ∨ b = B + 1) (w := wr) (b := B) (o := 3) (.slice AV i CV) (.inl rfl)
      have t2 := t1.trans (Turned.set (F := fun b => b = B ∨ b = B + 1) (b := B + 1) (o := 0) (.string key) (.inr rfl)) (Grown.refl _ _)
      have t3 := t2.trans (Turned.set (F := fun b => b = B ∨ b = B + 1) (b := B + 1) (o := 1) (.int .i64 id) (.inr rfl)) (Grown.refl _ _)
      have t4 := t3.trans (Turned.set (F := fun b => b = B ∨ b = B + 1) (b := B + 1) (o := 2) (.int .i64 size) (.inr rfl)) (Grown.refl _ _)
      have t5 := t4.trans (Turned.set (F := fun b => b = B ∨ b = B + 1) (b := B + 1) (o := 3) (.slice AV i CV) (.inr rfl)) (Grown.refl _ _)
      have hz := ((((r0.of_block (Below.heap_setCell wr ⟨B, 3, none⟩ (.slice AV i CV) (B + 1) (by simp))).set 0 (.string key)).set 1 (.int .i64 id)).set 2 (.int .i64 size)).set 3 (.slice AV i CV)
      have HW := Lib.hid (show ∃ wz, ((((wr.setCell ⟨B, 3, none⟩ (.slice AV i CV)).setCell ⟨B + 1, 0, none⟩ (.string key)).setCell ⟨B + 1, 1, none⟩ (.int .i64 id)).setCell ⟨B + 1, 2, none⟩ (.int .i64 size)).setCell ⟨B + 1, 3, none⟩ (.slice AV i CV) = wz ∧
          wz.cell? ⟨B + 1, 0, none⟩ = some (.string key) ∧ wz.cell? ⟨B + 1, 1, none⟩ = some (.int .i64 id) ∧ wz.cell? ⟨B + 1, 2, none⟩ = some (.int .i64 size) ∧ wz.cell? ⟨B + 1, 3, none⟩ = some (.slice AV i CV) ∧ Turned (fun b => b = B ∨ b = B + 1) wr wz from
        ⟨_, rfl, hz.cell (i := 0) (by omega), hz.cell (i := 1) (by omega), hz.cell (i := 2) (by omega), hz.cell (i := 3) (by omega), t5⟩)
      clear hm r0 rb hlt t1 t2 t3 t4 t5 hz
      go_wp2
      obtain ⟨K, k1, k2, k3, k4⟩ := HM.out
      rw [List.take_of_length_le (by rw [HN.out]; omega)] at k1
      have hs1 := HS1.out
      have hBw := HBE.out
      obtain ⟨wz, hwz, z0, z1, z2, z3, t5⟩ := HW.out
      rw [hwz]
      refine bodyPost_ret (v := .agg #[.string key, .int .i64 id, .int .i64 size, .slice AV i CV]) (by simp [results, Try.results29, go_sem, z0, z1, z2, z3]) rfl ⟨AV, CV, rfl, ⟨K, k1.turned t5 (fun b q => ⟨fun z => ?_, fun z => ?_⟩), fun b q => ⟨?_, Nat.lt_of_lt_of_le (k2 b q).2 t5.size⟩, fun b q => ?_⟩, ?_⟩
      · have := (k2 b z).1; omega
      · have := k3 b z; omega
      · have := (k2 b q).1; omega
      · have := k3 b q; omega
      · exact (HX.out.trans (k4.mono HX.out.size)).trans (t5.below (fun b q => by omega) (by have := k4.size; omega))
end Go.Proofs.Ytlgdchflegflkaa.Tbl
