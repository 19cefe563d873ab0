/- Whatever steps there are, and whatever they were answered, the history has all calls: for every list of steps with answers. -/
import Derived.Test.YtcljpniknpgmpaaRows
import Derived.Test.YtcljpniknpgmpaaRecArg
import Derived.Test.YtcljpniknpgmpaaHsArg
import Derived.Test.YtcljpniknpgmpaaHsAdds
import Derived.Test.YtcljpniknpgmpaaHsCalls
import Derived.WalkKit
import Derived.ProofKit
import Derived.OpenShut
import Derived.Carry
import Derived.WideKeyArgs
import Derived.SizedLaws
import Derived.ChangeMaps5
import Derived.ShutString
namespace Go.Proofs.Ytcljpniknpgmpaa.histAdds
open Go.ChangeShapes Go.WideShapes Go.ChangeAt Go.RowKit Go.Mem
set_option linter.unusedVariables false
theorem own : ownKnob Try.prog.godebug = none := by kernel_rfl
theorem laid : laidOutB Try.prog = true := by kernel_rfl
theorem cells5 : Try.prog.cellsOf 5 = 1 := by kernel_rfl
theorem cells9 : Try.prog.cellsOf 9 = 1 := by kernel_rfl
set_option maxRecDepth 100000 in
theorem lifted (os : Os) (started : os.Started) (H : Type) (enc : TypeId × Value → H) :
    ReturnsInHanded {} Try.checked os 3 .any (Rows.histAddsSpec.pre6 enc Try.prog Try.f3 Rows.histAddsRow.domain false) (Rows.histAddsSpec.post enc Try.prog Try.f3 false true false false) := by
  refine returnsInHanded_of_change_sized (C := Try.checked) own started (by kernel_rfl) Try.func3
    (ChangeSpec.witness6 (enc := enc) (C := Try.checked) false ⟨#[], #[.slice none 0 0], []⟩ 8 (by kernel_rfl) (by kernel_rfl) (by kernel_rfl) (by kernel_rfl)) ?_
  intro W base args ds gs before hval0 hW hcnd hsz0 _
  have hval : ∀ (j : Nat) t v, Try.f3.params[j]? = some t → args[j]? = some v → Value.okWide Try.prog W .any base t v := hval0
  have hW' := hW
  obtain ⟨p, q, hA0, hV, rfl, hfz, hnd⟩ := hW
  have hA : DataW.TrodAll enc Try.prog W 0 (fun _ => true) true Try.f3.params.toList args.toList ds p := hA0
  have hsz : (DataW.weightsEach Try.prog (Try.f3.params.toList ++ Rows.histAddsSpec.plain.varTypes Try.prog) (ds ++ gs)).all (· ≤ reachBytes) = true := hsz0
  rw [Try.params3] at hA hval hsz
  obtain ⟨v0, vs0, d0, ds0, p0, q0, hargs, rfl, rfl, h0, r0⟩ := trodAll_cons hA
  obtain ⟨rfl, rfl, rfl⟩ := trodAll_nil r0
  obtain rfl : args = #[v0] := by cases args; simp_all
  obtain ⟨rfl, rfl⟩ := trodVars_none hV
  obtain ⟨l0, t0⟩ := Hst.pairs_of Try.underlying22 Try.underlying37 (by kernel_rfl) rfl rfl ⟨Try.underlying31, by kernel_rfl, by kernel_rfl, Try.underlying3, Try.underlying3, Try.underlying9, Try.underlying28, Try.underlying29, Try.underlying5, by kernel_rfl⟩ ⟨Try.underlying35, by kernel_rfl, by kernel_rfl, Try.underlying32, Try.underlying3, Try.underlying4, Try.underlying3, Try.underlying28, Try.underlying33, Try.underlying5, by kernel_rfl, Try.underlying9, by kernel_rfl⟩ (hval 0 22 v0 rfl rfl) h0
  clear hA0 hval0
  have hW2 : DataW.Whole enc Try.prog Try.f3.params.toList Rows.histAddsSpec.vars false W #[v0].toList [d0] [] (p0 ++ []) := by
    have h2 : DataW.Whole enc Try.prog Try.f3.params.toList Rows.histAddsSpec.vars false W #[v0].toList [d0] [] ((p0 ++ []) ++ []) := hW'
    rwa [List.append_nil (p0 ++ [])] at h2
  have hlt : ∀ x : MemPlace, x ∈ ((p0 ++ []) : List MemPlace) → x.block < W.heap.size := fun x hx => hW2.lt x hx
  refine (Hst.HistAddsC Hst.histI l0 v0 W t0).mono fun e W' ⟨he, hb⟩ => ?_
  subst he
  exact ⟨_, rfl, post_law hW2 rfl (fun _ _ _ => (trodAll_cons_mk (shut_bool Try.underlying4 _) trodAll_mk0))
    (fun sp hs => (trodAll_cons_mk (WideElems.Trod_stays laid (by kernel_rfl) (of_decide_eq_true (by kernel_rfl)) h0 (fun x hx => hb.same (hlt x (by simp [hx]))) (fun x hx => hs x (by simp [hx]))) trodAll_mk0)) rfl hb (ok_one (by kernel_rfl) rfl (okWide_bool_mk Try.underlying4 _))⟩
theorem over : Rows.histAddsRow.holds Try.pinned (OpenSpec.ofChange Rows.histAddsSpec) :=
  OpenClaim.holds_of_wide 3 Try.f3 rfl rfl rfl rfl rfl rfl rfl ⟨rfl, rfl, rfl, rfl, rfl⟩ rfl rfl rfl rfl rfl (by kernel_rfl) Try.func3 (by kernel_rfl)
    (of_decide_eq_true (by kernel_rfl)) (by unfold Func.isWrapper; first | (rw [if_pos (by decide +kernel)]; kernel_rfl) | (rw [if_neg (by decide +kernel)]; exact ⟨rfl, rfl⟩))
    (fun os started H enc _ => lifted os started H enc)
theorem proved : Rows.HistAddsSaid :=
  over
end Go.Proofs.Ytcljpniknpgmpaa.histAdds
