/- A call ends once: for every number of rounds and every task, what the task does behind the end of its call is no part of that call. -/
import Derived.Test.YtcljpniknpgmpaaRows
import Derived.Test.YtcljpniknpgmpaaRecArg
import Derived.Test.YtcljpniknpgmpaaHsArg
import Derived.Test.YtcljpniknpgmpaaHsOnce
import Derived.Test.YtcljpniknpgmpaaHsCalls
import Derived.WalkKit
import Derived.ProofKit
import Derived.OpenShut
import Derived.Carry
import Derived.WideKeyArgs
import Derived.SizedLaws
import Derived.ChangeMaps5
import Derived.ShutString
namespace Go.Proofs.Ytcljpniknpgmpaa.histOnce
open Go.ChangeShapes Go.WideShapes Go.ChangeAt Go.RowKit Go.Mem
set_option linter.unusedVariables false
theorem own : ownKnob Try.prog.godebug = none := by kernel_rfl
theorem laid : laidOutB Try.prog = true := by kernel_rfl
set_option maxRecDepth 100000 in
theorem lifted (os : Os) (started : os.Started) (H : Type) (enc : TypeId × Value → H) :
    ReturnsInHanded {} Try.checked os 6 .any (Rows.histOnceSpec.pre6 enc Try.prog Try.f6 Rows.histOnceRow.domain false) (Rows.histOnceSpec.post enc Try.prog Try.f6 false true false false) := by
  refine returnsInHanded_of_change_sized (C := Try.checked) own started (by kernel_rfl) Try.func6
    (ChangeSpec.witness6 (enc := enc) (C := Try.checked) false ⟨#[], #[.int .u8 0, .int .i64 0], []⟩ 8 (by kernel_rfl) (by kernel_rfl) (by kernel_rfl) (by kernel_rfl)) ?_
  intro W base args ds gs before hval0 hW hcnd hsz0 _
  have hval : ∀ (j : Nat) t v, Try.f6.params[j]? = some t → args[j]? = some v → Value.okWide Try.prog W .any base t v := hval0
  have hW' := hW
  obtain ⟨p, q, hA0, hV, rfl, hfz, hnd⟩ := hW
  have hA : DataW.TrodAll enc Try.prog W 0 (fun _ => true) true Try.f6.params.toList args.toList ds p := hA0
  have hsz : (DataW.weightsEach Try.prog (Try.f6.params.toList ++ Rows.histOnceSpec.plain.varTypes Try.prog) (ds ++ gs)).all (· ≤ reachBytes) = true := hsz0
  rw [Try.params6] at hA hval hsz
  obtain ⟨v0, vs0, d0, ds0, p0, q0, hargs, rfl, rfl, h0, r0⟩ := trodAll_cons hA
  obtain ⟨v1, vs1, d1, ds1, p1, q1, rfl, rfl, rfl, h1, r1⟩ := trodAll_cons r0
  obtain ⟨rfl, rfl, rfl⟩ := trodAll_nil r1
  obtain rfl : args = #[v0, v1] := by cases args; simp_all
  obtain ⟨rfl, rfl⟩ := trodVars_none hV
  obtain ⟨a0, rfl, rfl, rfl, w0⟩ := open_int Try.underlying5 (hval 0 5 v0 rfl rfl) h0
  obtain ⟨la0, ua0⟩ := bounds_u8 w0
  obtain ⟨a1, rfl, rfl, rfl, w1⟩ := open_int Try.underlying3 (hval 1 3 v1 rfl rfl) h1
  obtain ⟨la1, ua1⟩ := bounds_i64 w1
  clear hA0 hval0
  have hW2 : DataW.Whole enc Try.prog Try.f6.params.toList Rows.histOnceSpec.vars false W #[.int .u8 a0, .int .i64 a1].toList [.lit (.int .u8 a0), .lit (.int .i64 a1)] [] ([] ++ ([] ++ [])) := by
    have h2 : DataW.Whole enc Try.prog Try.f6.params.toList Rows.histOnceSpec.vars false W #[.int .u8 a0, .int .i64 a1].toList [.lit (.int .u8 a0), .lit (.int .i64 a1)] [] (([] ++ ([] ++ [])) ++ []) := hW'
    rwa [List.append_nil ([] ++ ([] ++ []))] at h2
  have hlt : ∀ x : MemPlace, x ∈ (([] ++ ([] ++ [])) : List MemPlace) → x.block < W.heap.size := fun x hx => hW2.lt x hx
  refine (Hst.HistOnceC Hst.histI a0 a1 la0 ua0 la1 ua1 W).mono fun e W' ⟨he, hb⟩ => ?_
  subst he
  exact ⟨_, rfl, post_law hW2 rfl (fun _ _ _ => (trodAll_cons_mk (shut_bool Try.underlying4 _) trodAll_mk0))
    (fun sp hs => (trodAll_cons_mk (shut_int Try.underlying5 w0) (trodAll_cons_mk (shut_int Try.underlying3 w1) trodAll_mk0))) rfl hb (ok_one (by kernel_rfl) rfl (okWide_bool_mk Try.underlying4 _))⟩
theorem over : Rows.histOnceRow.holds Try.pinned (OpenSpec.ofChange Rows.histOnceSpec) :=
  OpenClaim.holds_of_wide 6 Try.f6 rfl rfl rfl rfl rfl rfl rfl ⟨rfl, rfl, rfl, rfl, rfl⟩ rfl rfl rfl rfl rfl (by kernel_rfl) Try.func6 (by kernel_rfl)
    (of_decide_eq_true (by kernel_rfl)) (by unfold Func.isWrapper; first | (rw [if_pos (by decide +kernel)]; kernel_rfl) | (rw [if_neg (by decide +kernel)]; exact ⟨rfl, rfl⟩))
    (fun os started H enc _ => lifted os started H enc)
theorem proved : Rows.HistOnceSaid :=
  over
end Go.Proofs.Ytcljpniknpgmpaa.histOnce
