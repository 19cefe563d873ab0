/- What the document's table tells of a stripe, as a walk. -/
import Derived.Test.YtlgdchflegflkaaTbRef
namespace Go.Proofs.Ytlgdchflegflkaa.Tbl
set_option linter.unusedVariables false
open Go.ChangeShapes Go.WideShapes Go.ChangeAt Go.RowKit
open Go.Mem RecM
theorem stripe_at {t : Tb.TabD} (h : t.Ok) {i k : Nat} (hi : i < t.objs.length) (hk : k < t.objs[i].stripes.length) {id : Int} (e : t.objs[i].stripes[k].id = id) : Tb.stripe t id = some t.objs[i].stripes[k] := by
  subst e
  exact Tb.stripe_self h (List.mem_flatMap.2 ⟨_, List.getElem_mem hi, List.getElem_mem hk⟩)
theorem stripe_nowhere {t : Tb.TabD} {id : Int} (h : ∀ i (hi : i < t.objs.length), ∀ k (hk : k < t.objs[i].stripes.length), ¬ t.objs[i].stripes[k].id = id) : Tb.stripe t id = none := by
  unfold Tb.stripe Tb.stripes
  rw [List.find?_eq_none]
  intro s hs
  obtain ⟨o, ho, hm⟩ := List.mem_flatMap.1 hs
  obtain ⟨i, hi, rfl⟩ := List.getElem_of_mem ho
  obtain ⟨k, hk, rfl⟩ := List.getElem_of_mem hm
  simpa using h i hi k hk
set_option maxHeartbeats 8000000 in
theorem refStripeC {w : World} {G : Nat → Prop} {r : Nat} {t : Tb.TabD} (h : RT w G r t) (hok : t.Ok) (id : Int) (hid : I64 id) :
    Calls Try.prog 17 #[.pointer (some ⟨r, 0, none⟩), .int .i64 id] w fun e w' => ∃ V, e = .returned (.tuple #[V, .bool (Tb.stripe t id).isSome]) ∧ StpIs w' V ((Tb.stripe t id).getD noStp) ∧ Below w.heap.size w w' := by
  obtain ⟨K, V, S, h⟩ := h
  have c2 : w.cell? ⟨r, 2, none⟩ = some V := h.cell (i := 2) (by omega)
  obtain ⟨AV, CV, rfl, gv1, gv2, -⟩ := h.objs.len
  obtain ⟨w2, hw1⟩ : ∃ w2, w2 = w.alloc (.cells #[.int .i64 0, .int .i64 0, .slice none 0 0] TStp) := ⟨_, rfl⟩
  have hx : Below w.heap.size w w2 := by rw [hw1]; exact (Below.refl _ _).alloc (Nat.le_refl _) _
  have hrow : w2.rowIs w.heap.size TStp 3 (fun i => #[Value.int .i64 0, .int .i64 0, .slice none 0 0].getD i undef) := by rw [hw1]; exact row_of w _ _
  have d2 := below_cell hx _ _ c2
  have HO := Lib.hid (show Objs w (.slice AV t.objs.length CV) t.objs from h.objs.cells)
  have HAT := Lib.hid (show ∀ i (hi : i < t.objs.length) k (hk : k < t.objs[i].stripes.length), t.objs[i].stripes[k].id = id → _ from fun i hi k hk e => stripe_at hok (id := id) hi hk e)
  have HNO := Lib.hid (fun q => stripe_nowhere (t := t) (id := id) q)
  obtain ⟨B, hB⟩ : ∃ B, w.heap.size = B := ⟨_, rfl⟩
  have hrB : r < B := hB ▸ h.lt r h.gr
  obtain ⟨N, hN⟩ : ∃ N, t.objs.length = N := ⟨_, rfl⟩
  have HN := Lib.hid hN
  have HBE := Lib.hid hB
  have HX := Lib.hid hx
  have HW1 := Lib.hid hw1
  rw [hB] at hrow
  rw [hN] at gv1 d2 HO
  have y0 := hrow.cell (i := 0) (by omega)
  have y1 := hrow.cell (i := 1) (by omega)
  have y2 := hrow.cell (i := 2) (by omega)
  have j0 := hrow.frozen 0
  have j1 := hrow.frozen 1
  have j2 := hrow.frozen 2
  have HROW := Lib.hid hrow
  clear h c2 hw1 hx hB hrow hN
  go_enter Try.func17, Try.ntmps17
  go_wp2_with fail
  rw [← HW1.out, HBE.out]
  go_loopw [6] (fun c wr => ∃ i : Nat, i ≤ N ∧ c = .int .i64 i ∧ (∀ j (hj : j < t.objs.length), j < i → ∀ k (hk : k < t.objs[j].stripes.length), ¬ t.objs[j].stripes[k].id = id) ∧ w2 = wr) (fun c _ => N - (intOf c).toNat)
  case atStart => exact ⟨0, Nat.zero_le _, rfl, fun _ _ q => absurd q (by omega), rfl⟩
  case round =>
    obtain ⟨i, hi, rfl, hs, hwr⟩ := hrel
    subst hwr
    have HS := Lib.hid hs
    by_cases hlt : i < N
    · have hil : i < t.objs.length := by rw [HN.out]; exact hlt
      obtain ⟨b, o, A', C', rfl, -, -, -, a3, hoi⟩ := Objs.val HO.out hil
      obtain ⟨A2, C2, e2, hst, -, -, -, -⟩ := hoi
      cases e2
      have HST := Lib.hid hst
      have HAT2 := Lib.hid (fun k hk e => HAT.out i hil k hk e)
      have HNX := Lib.hid (fun (q : ∀ k (hk : k < t.objs[i].stripes.length), ¬ t.objs[i].stripes[k].id = id) => (show ∀ j (hj : j < t.objs.length), j < i + 1 → ∀ k (hk : k < t.objs[j].stripes.length), ¬ t.objs[j].stripes[k].id = id from fun j hj hji => by
        by_cases e : j = i
        · subst e; exact q
        · exact hs j hj (by omega)))
      obtain ⟨x, hx⟩ : ∃ x, t.objs[i] = x := ⟨_, rfl⟩
      rw [hx] at a3 HST HAT2 HNX
      have a3 := below_cell HX.out _ _ a3
      obtain ⟨M, hM⟩ : ∃ M, x.stripes.length = M := ⟨_, rfl⟩
      have HM := Lib.hid hM
      rw [hM] at a3 HST
      have gM : M ≤ 9223372036854775807 := by
        obtain ⟨A9, C9, e9, g1, g2, -⟩ := HST.out.shape
        rw [HM.out] at g1
        omega
      have q1 : (0 : Int) ≤ (i : Int) := by omega
      have q2 : (i : Int) < (N : Int) := by omega
      clear hx hil hs hst hM
      go_wp2_with fail
      go_loopw [7] (fun c wr => ∃ k : Nat, k ≤ M ∧ c = .int .i64 k ∧ (∀ j (hj : j < x.stripes.length), j < k → ¬ x.stripes[j].id = id) ∧ w2 = wr) (fun c _ => M - (intOf c).toNat)
      case atStart => exact ⟨0, Nat.zero_le _, rfl, fun _ _ q => absurd q (by omega), rfl⟩
      case round =>
        obtain ⟨k, hk, rfl, hs2, hwk⟩ := hrel
        subst hwk
        have HS2 := Lib.hid hs2
        by_cases hlt2 : k < M
        · have hkl : k < x.stripes.length := by rw [HM.out]; exact hlt2
          obtain ⟨b2, o2, A3, C3, rfl, e0, e1, e2, e3, e4⟩ := HST.out.at hkl
          have HFO := Lib.hid (HAT2.out k hkl)
          have HNK := Lib.hid (show ¬ x.stripes[k].id = id → ∀ j (hj : j < x.stripes.length), j < k + 1 → ¬ x.stripes[j].id = id from fun q j hj hjk => by
            by_cases e : j = k
            · subst e; exact q
            · exact hs2 j hj (by omega))
          obtain ⟨y, hy⟩ : ∃ y, x.stripes[k] = y := ⟨_, rfl⟩
          rw [hy] at e0 e1 e2 e3 e4 HFO HNK
          have e0 := below_cell HX.out _ _ e0
          have e1 := below_cell HX.out _ _ e1
          have e2 := below_cell HX.out _ _ e2
          have E3 := Lib.hid e3
          have E4 := Lib.hid e4
          have q3 : (0 : Int) ≤ (k : Int) := by omega
          have q4 : (k : Int) < (M : Int) := by omega
          clear hy hkl hs2 e3 e4
          by_cases hyid : y.id = id
          · have HF := Lib.hid (HFO.out hyid)
            have HYID := Lib.hid hyid
            have f1 : (y.id == id) = true := by rw [hyid]; simp
            have hz := ((HROW.out.set 0 (.int .i64 y.id)).set 1 (.int .i64 y.ep)).set 2 (.slice A3 y.locs.length C3)
            have HW := Lib.hid (show ∃ wz : World, ((w2.setCell ⟨B, 0, none⟩ (.int .i64 y.id)).setCell ⟨B, 1, none⟩ (.int .i64 y.ep)).setCell ⟨B, 2, none⟩ (.slice A3 y.locs.length C3) = wz ∧ wz.cell? ⟨B, 0, none⟩ = some (.int .i64 y.id) ∧ wz.cell? ⟨B, 1, none⟩ = some (.int .i64 y.ep) ∧ wz.cell? ⟨B, 2, none⟩ = some (.slice A3 y.locs.length C3) ∧ Turned (fun b => b = B) w2 wz from
              ⟨_, rfl, hz.cell (i := 0) (by omega), hz.cell (i := 1) (by omega), hz.cell (i := 2) (by omega), ((Turned.set (F := fun b => b = B) _ rfl).trans (Turned.set (F := fun b => b = B) _ rfl) (Grown.refl _ _)).trans (Turned.set (F := fun b => b = B) _ rfl) (Grown.refl _ _)⟩)
            clear hyid hz
            go_wp2
            obtain ⟨wz, hwz, z0, z1, z2, ht⟩ := HW.out
            rw [hwz]
            have hBw := HBE.out
            have hb2 : Below w.heap.size w wz := HX.out.trans (ht.below (fun b q => by omega) HX.out.size)
            refine bodyPost_ret (v := .tuple #[.agg #[.int .i64 y.id, .int .i64 y.ep, .slice A3 y.locs.length C3], .bool true]) (by simp [results, Try.results17, go_sem, z0, z1, z2]) rfl ⟨.agg #[.int .i64 y.id, .int .i64 y.ep, .slice A3 y.locs.length C3], ?_, ?_, hb2⟩
            · rw [HF.out]; rfl
            · rw [HF.out]
              exact ⟨A3, C3, rfl, E3.out.below hb2, E4.out⟩
          · have HE := Lib.hid (HNK.out hyid)
            have f1 : (y.id == id) = false := beq_eq_false_iff_ne.2 hyid
            clear hyid
            go_wp2
            go_roundw
            case rel => exact ⟨k + 1, by omega, by go_num, HE.out, trivial⟩
            case measure => simp [intOf]; omega
        · obtain rfl : k = M := by omega
          have HE := Lib.hid (HNX.out fun j hj => HS2.out j hj (by rw [← HM.out]; exact hj))
          clear hlt2 hs2
          go_wp2
          go_roundw
          case rel => exact ⟨i + 1, by omega, by go_num, HE.out, trivial⟩
          case measure => simp [intOf]; omega
    · obtain rfl : i = N := by omega
      have HE := Lib.hid (HNO.out fun j hj => HS.out j hj (by rw [← HN.out]; exact hj))
      have hz := ((HROW.out.set 0 (.int .i64 0)).set 1 (.int .i64 0)).set 2 (.slice none 0 0)
      have HW := Lib.hid (show ∃ wz : World, ((w2.setCell ⟨B, 0, none⟩ (.int .i64 0)).setCell ⟨B, 1, none⟩ (.int .i64 0)).setCell ⟨B, 2, none⟩ (.slice none 0 0) = wz ∧ wz.cell? ⟨B, 0, none⟩ = some (.int .i64 0) ∧ wz.cell? ⟨B, 1, none⟩ = some (.int .i64 0) ∧ wz.cell? ⟨B, 2, none⟩ = some (.slice none 0 0) ∧ Turned (fun b => b = B) w2 wz from
        ⟨_, rfl, hz.cell (i := 0) (by omega), hz.cell (i := 1) (by omega), hz.cell (i := 2) (by omega), ((Turned.set (F := fun b => b = B) _ rfl).trans (Turned.set (F := fun b => b = B) _ rfl) (Grown.refl _ _)).trans (Turned.set (F := fun b => b = B) _ rfl) (Grown.refl _ _)⟩)
      clear hlt hs hz
      go_wp2
      obtain ⟨wz, hwz, z0, z1, z2, ht⟩ := HW.out
      rw [hwz]
      have hBw := HBE.out
      have hb2 : Below w.heap.size w wz := HX.out.trans (ht.below (fun b q => by omega) HX.out.size)
      refine bodyPost_ret (v := .tuple #[.agg #[.int .i64 0, .int .i64 0, .slice none 0 0], .bool false]) (by simp [results, Try.results17, go_sem, z0, z1, z2]) rfl ⟨.agg #[.int .i64 0, .int .i64 0, .slice none 0 0], ?_, ?_, hb2⟩
      · rw [HE.out]; rfl
      · rw [HE.out]
        exact ⟨none, 0, rfl, Ints.nil _, (show I64 0 by unfold I64; decide), (show I64 0 by unfold I64; decide), (show LenOk 0 by unfold LenOk; decide)⟩
end Go.Proofs.Ytlgdchflegflkaa.Tbl
