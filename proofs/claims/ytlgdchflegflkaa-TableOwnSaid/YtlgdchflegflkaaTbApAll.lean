/- The document's Apply of any record, as a walk. -/
import Derived.Test.YtlgdchflegflkaaTbAp3
import Derived.Test.YtlgdchflegflkaaTbAp4
import Derived.Test.YtlgdchflegflkaaTbAp5
namespace Tb
open Go Go.Mem Kl
theorem ap0 {t : TabD} {r : RecD} (h1 : r.kind ≠ 1) (h2 : r.kind ≠ 2) (h3 : r.kind ≠ 3) (h4 : r.kind ≠ 4) (h5 : r.kind ≠ 5) : (apply t r).isSome = false ∧ stepT t r = t := by
  have e : apply t r = none := by
    unfold apply
    rw [if_neg h1, if_neg h2, if_neg h3, if_neg h4, if_neg h5]
  unfold stepT
  rw [e]
  exact ⟨rfl, rfl⟩
end Tb
namespace Go.Proofs.Ytlgdchflegflkaa.Tbl
set_option linter.unusedVariables false
open Go.ChangeShapes Go.WideShapes Go.ChangeAt Go.RowKit
open Go.Mem RecM
set_option maxRecDepth 100000 in
set_option maxHeartbeats 4000000 in
theorem apply_none {w : World} {G : Nat → Prop} {r : Nat} {t : Tb.TabD} (h : RT w G r t) (rd : RecD) (V : Value) (hV : RecV w V rd) (h1 : rd.kind ≠ 1) (h2 : rd.kind ≠ 2) (h3 : rd.kind ≠ 3) (h4 : rd.kind ≠ 4) (h5 : rd.kind ≠ 5) :
    Calls Try.prog 13 #[.pointer (some ⟨r, 0, none⟩), V] w (ApPost w G r t rd) := by
  obtain ⟨As, Ao, Ad, Cs, Co, Cd, rfl, hr⟩ := hV
  have HN := Lib.hid (@Tb.ap0 t rd h1 h2 h3 h4 h5)
  obtain ⟨kind, id, size, key, ss, os, ds⟩ := rd
  dsimp only at h1 h2 h3 h4 h5
  obtain ⟨K, VO, S, hh⟩ := h
  have c5 : w.cell? ⟨r, 5, none⟩ = some (.int .i64 t.last) := hh.cell (i := 5) (by omega)
  obtain ⟨w1, hw1⟩ : ∃ w1, w1 = w.alloc (.cells #[.int .i64 kind, .int .i64 id, .int .i64 size, .string key, .slice As ss.length Cs, .slice Ao os.length Co, .slice Ad ds.length Cd] 36) := ⟨_, rfl⟩
  have hx : Below w.heap.size w w1 := by rw [hw1]; exact (Below.refl _ _).alloc (Nat.le_refl _) _
  have hrow : w1.rowIs w.heap.size 36 7 (fun i => #[Value.int .i64 kind, .int .i64 id, .int .i64 size, .string key, .slice As ss.length Cs, .slice Ao os.length Co, .slice Ad ds.length Cd].getD i undef) := by rw [hw1]; exact row_of w _ _
  have d5 := below_cell hx _ _ c5
  have b0 : w1.cell? ⟨w.heap.size, 0, none⟩ = some (.int .i64 kind) := hrow.cell (i := 0) (by omega)
  have b1 : w1.cell? ⟨w.heap.size, 1, none⟩ = some (.int .i64 id) := hrow.cell (i := 1) (by omega)
  obtain ⟨la, hla⟩ : ∃ x, t.last = x := ⟨_, rfl⟩
  obtain ⟨B, hB⟩ : ∃ B, w.heap.size = B := ⟨_, rfl⟩
  have HBE := Lib.hid hB
  have HX := Lib.hid hx
  have HH := Lib.hid hh
  rw [hla] at d5
  rw [hB] at b0 b1 hrow
  have HW1 := Lib.hid hw1
  unfold recVal
  dsimp only
  have f1 : (kind == 1) = false := beq_eq_false_iff_ne.2 h1
  have f2 : (kind == 2) = false := beq_eq_false_iff_ne.2 h2
  have f3 : (kind == 3) = false := beq_eq_false_iff_ne.2 h3
  have f4 : (kind == 4) = false := beq_eq_false_iff_ne.2 h4
  have f5 : (kind == 5) = false := beq_eq_false_iff_ne.2 h5
  clear hh c5 hx hw1 hB hla hrow hr h1 h2 h3 h4 h5
  rcases (by omega : la < id ∨ id ≤ la) with hl | hl
  all_goals
    go_enter Try.func13, Try.ntmps13
    go_upto_region 1 with (fail)
    rw [← HW1.out, HBE.out]
    go_wp2_with fail
    go_ret
    exact ⟨by rw [(HN.out).1]; rfl, by rw [(HN.out).2]; exact ap_same ⟨K, _, _, HH.out⟩ HX.out⟩
theorem refApplyC {w : World} {G : Nat → Prop} {r : Nat} {t : Tb.TabD} (h : RT w G r t) (hok : t.Ok) (hfew : Few t) (rd : RecD) (V : Value) (hV : RecV w V rd) (hfit : Fit rd) :
    Calls Try.prog 13 #[.pointer (some ⟨r, 0, none⟩), V] w (ApPost w G r t rd) := by
  have hb := hfit.1
  have hi := hfit.2
  unfold items base at *
  have hsl : ∀ s ∈ rd.stripes, s.locs.length ≤ 1000000 := fun s hs => by have := locsSum_mem hs; omega
  by_cases k1 : rd.kind = 1
  · exact apply_put h hok hfew rd V hV k1 (by omega) hsl
  by_cases k2 : rd.kind = 2
  · exact apply_del h hok hfew rd V hV k2
  by_cases k3 : rd.kind = 3
  · exact apply_move h hok hfew rd V hV k3 hsl
  by_cases k4 : rd.kind = 4
  · exact apply_pool h hok rd V hV k4
  by_cases k5 : rd.kind = 5
  · exact apply_all h rd V hV k5 (by omega) fun o ho => by
      have h1 := objSum_mem ho
      exact ⟨by omega, fun s hs => by have := locsSum_mem hs; omega⟩
  exact apply_none h rd V hV k1 k2 k3 k4 k5
end Go.Proofs.Ytlgdchflegflkaa.Tbl
