/- There are never more parts than bytes, and one byte more is at most one part more. -/
import Derived.Test.YtgbeolepfmihgaaRows
import Derived.Test.YtgbeolepfmihgaaTrod
import Derived.Test.YtgbeolepfmihgaaStBack
import Derived.Test.YtgbeolepfmihgaaStGo
import Derived.WalkKit
import Derived.ProofKit
import Derived.OpenShut
import Derived.Carry
import Derived.WideKeyArgs
namespace Go.Proofs.Ytgbeolepfmihgaa.stripeFew
open Go.ChangeShapes Go.WideShapes Go.ChangeAt Go.RowKit Go.Mem
set_option linter.unusedVariables false
theorem own : ownKnob Try.prog.godebug = none := by kernel_rfl
theorem laid : laidOutB Try.prog = true := by kernel_rfl
set_option maxRecDepth 100000 in
theorem lifted (os : Os) (started : os.Started) (H : Type) (enc : TypeId × Value → H) :
    ReturnsInHanded {} Try.checked os 7 .any (Rows.stripeFewSpec.pre6 enc Try.prog Try.f7 Rows.stripeFewRow.domain false) (Rows.stripeFewSpec.post enc Try.prog Try.f7 false true false false) := by
  refine returnsInHanded_of_change (C := Try.checked) own started (by kernel_rfl) Try.func7
    (ChangeSpec.witness6 (enc := enc) (C := Try.checked) false ⟨#[], #[.int .u8 0, .int .u16 0], []⟩ 8 (by kernel_rfl) (by kernel_rfl) (by kernel_rfl) (by kernel_rfl)) ?_
  intro W base args ds gs before hval0 hW hcnd _
  have hval : ∀ (j : Nat) t v, Try.f7.params[j]? = some t → args[j]? = some v → Value.okWide Try.prog W .any base t v := hval0
  have hW' := hW
  obtain ⟨p, q, hA0, hV, rfl, hfz, hnd⟩ := hW
  have hA : DataW.TrodAll enc Try.prog W 0 (fun _ => true) true Try.f7.params.toList args.toList ds p := hA0
  rw [Try.params7] at hA hval
  obtain ⟨v0, vs0, d0, ds0, p0, q0, hargs, rfl, rfl, h0, r0⟩ := trodAll_cons hA
  obtain ⟨v1, vs1, d1, ds1, p1, q1, rfl, rfl, rfl, h1, r1⟩ := trodAll_cons r0
  obtain ⟨rfl, rfl, rfl⟩ := trodAll_nil r1
  obtain rfl : args = #[v0, v1] := by cases args; simp_all
  obtain ⟨rfl, rfl⟩ := trodVars_none hV
  obtain ⟨a0, rfl, rfl, rfl, w0⟩ := open_int Try.underlying5 (hval 0 5 v0 rfl rfl) h0
  obtain ⟨la0, ua0⟩ := bounds_u8 w0
  obtain ⟨a1, rfl, rfl, rfl, w1⟩ := open_int Try.underlying34 (hval 1 34 v1 rfl rfl) h1
  obtain ⟨la1, ua1⟩ := bounds_u16 w1
  clear hA0 hval0
  have hW2 : DataW.Whole enc Try.prog Try.f7.params.toList Rows.stripeFewSpec.vars false W #[.int .u8 a0, .int .u16 a1].toList [.lit (.int .u8 a0), .lit (.int .u16 a1)] [] ([] ++ ([] ++ [])) := by
    have h2 : DataW.Whole enc Try.prog Try.f7.params.toList Rows.stripeFewSpec.vars false W #[.int .u8 a0, .int .u16 a1].toList [.lit (.int .u8 a0), .lit (.int .u16 a1)] [] (([] ++ ([] ++ [])) ++ []) := hW'
    rwa [List.append_nil ([] ++ ([] ++ []))] at h2
  have hlt : ∀ x : MemPlace, x ∈ (([] ++ ([] ++ [])) : List MemPlace) → x.block < W.heap.size := fun x hx => hW2.lt x hx
  refine (Stp.StripeFewC Stp.stI a0 a1 la0 ua0 la1 ua1 W).mono fun e W' ⟨he, hb⟩ => ?_
  subst he
  exact ⟨_, rfl, post_law hW2 rfl (fun _ _ _ => (trodAll_cons_mk (shut_bool Try.underlying4 _) trodAll_mk0))
    (fun sp hs => (trodAll_cons_mk (shut_int Try.underlying5 w0) (trodAll_cons_mk (shut_int Try.underlying34 w1) trodAll_mk0))) rfl hb (ok_one (by kernel_rfl) rfl (okWide_bool_mk Try.underlying4 _))⟩
theorem over : Rows.stripeFewRow.holds Try.pinned (OpenSpec.ofChange Rows.stripeFewSpec) :=
  OpenClaim.holds_of_wide 7 Try.f7 rfl rfl rfl rfl rfl rfl rfl ⟨rfl, rfl, rfl, rfl, rfl⟩ rfl rfl rfl rfl rfl (by kernel_rfl) Try.func7 (by kernel_rfl)
    (of_decide_eq_true (by kernel_rfl)) (by unfold Func.isWrapper; first | (rw [if_pos (by decide +kernel)]; kernel_rfl) | (rw [if_neg (by decide +kernel)]; exact ⟨rfl, rfl⟩))
    (fun os started H enc _ => lifted os started H enc)
theorem proved : Rows.StripeFewSaid :=
  over
end Go.Proofs.Ytgbeolepfmihgaa.stripeFew
