/- A history that is none: for every step and every answer, Add of a nil history does nothing, and it has no calls. -/
import Derived.Test.YtcljpniknpgmpaaRows
import Derived.Test.YtcljpniknpgmpaaRecArg
import Derived.Test.YtcljpniknpgmpaaHsArg
import Derived.Test.YtcljpniknpgmpaaHsOnce
import Derived.Test.YtcljpniknpgmpaaHsCalls
import Derived.WalkKit
import Derived.ProofKit
import Derived.OpenShut
import Derived.Carry
import Derived.WideKeyArgs
import Derived.SizedLaws
import Derived.ChangeMaps5
import Derived.ShutString
namespace Go.Proofs.Ytcljpniknpgmpaa.histNone
open Go.ChangeShapes Go.WideShapes Go.ChangeAt Go.RowKit Go.Mem
set_option linter.unusedVariables false
theorem own : ownKnob Try.prog.godebug = none := by kernel_rfl
theorem laid : laidOutB Try.prog = true := by kernel_rfl
theorem cells5 : Try.prog.cellsOf 5 = 1 := by kernel_rfl
theorem cells9 : Try.prog.cellsOf 9 = 1 := by kernel_rfl
set_option maxRecDepth 100000 in
theorem lifted (os : Os) (started : os.Started) (H : Type) (enc : TypeId × Value → H) :
    ReturnsInHanded {} Try.checked os 5 .any (Rows.histNoneSpec.pre6 enc Try.prog Try.f5 Rows.histNoneRow.domain false) (Rows.histNoneSpec.post enc Try.prog Try.f5 false true false false) := by
  refine returnsInHanded_of_change_sized (C := Try.checked) own started (by kernel_rfl) Try.func5
    (ChangeSpec.witness6 (enc := enc) (C := Try.checked) false ⟨#[], #[.agg #[.int .i64 0, .int .i64 0, .string ⟨#[]⟩, .slice none 0 0, .int .u64 0], .agg #[.int .i64 0, .int .i64 0, .bool false, .int .i64 0, .slice none 0 0, .slice none 0 0]], []⟩ 8 (by kernel_rfl) (by kernel_rfl) (by kernel_rfl) (by kernel_rfl)) ?_
  intro W base args ds gs before hval0 hW hcnd hsz0 _
  have hval : ∀ (j : Nat) t v, Try.f5.params[j]? = some t → args[j]? = some v → Value.okWide Try.prog W .any base t v := hval0
  have hW' := hW
  obtain ⟨p, q, hA0, hV, rfl, hfz, hnd⟩ := hW
  have hA : DataW.TrodAll enc Try.prog W 0 (fun _ => true) true Try.f5.params.toList args.toList ds p := hA0
  have hsz : (DataW.weightsEach Try.prog (Try.f5.params.toList ++ Rows.histNoneSpec.plain.varTypes Try.prog) (ds ++ gs)).all (· ≤ reachBytes) = true := hsz0
  rw [Try.params5] at hA hval hsz
  obtain ⟨v0, vs0, d0, ds0, p0, q0, hargs, rfl, rfl, h0, r0⟩ := trodAll_cons hA
  obtain ⟨v1, vs1, d1, ds1, p1, q1, rfl, rfl, rfl, h1, r1⟩ := trodAll_cons r0
  obtain ⟨rfl, rfl, rfl⟩ := trodAll_nil r1
  obtain rfl : args = #[v0, v1] := by cases args; simp_all
  obtain ⟨rfl, rfl⟩ := trodVars_none hV
  obtain ⟨l0, t0⟩ := Hst.step_of ⟨Try.underlying31, by kernel_rfl, by kernel_rfl, Try.underlying3, Try.underlying3, Try.underlying9, Try.underlying28, Try.underlying29, Try.underlying5, by kernel_rfl⟩ (hval 0 31 v0 rfl rfl) h0
  obtain ⟨l1, t1⟩ := Hst.ans_of ⟨Try.underlying35, by kernel_rfl, by kernel_rfl, Try.underlying32, Try.underlying3, Try.underlying4, Try.underlying3, Try.underlying28, Try.underlying33, Try.underlying5, by kernel_rfl, Try.underlying9, by kernel_rfl⟩ (hval 1 35 v1 rfl rfl) h1
  clear hA0 hval0
  have hW2 : DataW.Whole enc Try.prog Try.f5.params.toList Rows.histNoneSpec.vars false W #[v0, v1].toList [d0, d1] [] (p0 ++ (p1 ++ [])) := by
    have h2 : DataW.Whole enc Try.prog Try.f5.params.toList Rows.histNoneSpec.vars false W #[v0, v1].toList [d0, d1] [] ((p0 ++ (p1 ++ [])) ++ []) := hW'
    rwa [List.append_nil (p0 ++ (p1 ++ []))] at h2
  have hlt : ∀ x : MemPlace, x ∈ ((p0 ++ (p1 ++ [])) : List MemPlace) → x.block < W.heap.size := fun x hx => hW2.lt x hx
  refine (Hst.HistNoneC Hst.histI Hst.noHist l0 l1 v0 v1 W t0 t1).mono fun e W' ⟨he, hb⟩ => ?_
  subst he
  exact ⟨_, rfl, post_law hW2 rfl (fun _ _ _ => (trodAll_cons_mk (shut_bool Try.underlying4 _) trodAll_mk0))
    (fun sp hs => (trodAll_cons_mk (WideElems.Trod_stays laid (by kernel_rfl) (of_decide_eq_true (by kernel_rfl)) h0 (fun x hx => hb.same (hlt x (by simp [hx]))) (fun x hx => hs x (by simp [hx]))) (trodAll_cons_mk (WideElems.Trod_stays laid (by kernel_rfl) (of_decide_eq_true (by kernel_rfl)) h1 (fun x hx => hb.same (hlt x (by simp [hx]))) (fun x hx => hs x (by simp [hx]))) trodAll_mk0))) rfl hb (ok_one (by kernel_rfl) rfl (okWide_bool_mk Try.underlying4 _))⟩
theorem over : Rows.histNoneRow.holds Try.pinned (OpenSpec.ofChange Rows.histNoneSpec) :=
  OpenClaim.holds_of_wide 5 Try.f5 rfl rfl rfl rfl rfl rfl rfl ⟨rfl, rfl, rfl, rfl, rfl⟩ rfl rfl rfl rfl rfl (by kernel_rfl) Try.func5 (by kernel_rfl)
    (of_decide_eq_true (by kernel_rfl)) (by unfold Func.isWrapper; first | (rw [if_pos (by decide +kernel)]; kernel_rfl) | (rw [if_neg (by decide +kernel)]; exact ⟨rfl, rfl⟩))
    (fun os started H enc _ => lifted os started H enc)
theorem proved : Rows.HistNoneSaid :=
  over
end Go.Proofs.Ytcljpniknpgmpaa.histNone
