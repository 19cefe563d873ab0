/- Any data in parts, and whole again: each part is as long as it should be, what fills up the last one is nought, and Join tells the data. -/
import Derived.Test.YtgbeolepfmihgaaRows
import Derived.Test.YtgbeolepfmihgaaTrod
import Derived.Test.YtgbeolepfmihgaaStBack
import Derived.Test.YtgbeolepfmihgaaStGo
import Derived.WalkKit
import Derived.ProofKit
import Derived.OpenShut
import Derived.Carry
import Derived.WideKeyArgs
namespace Go.Proofs.Ytgbeolepfmihgaa.stripeBack
open Go.ChangeShapes Go.WideShapes Go.ChangeAt Go.RowKit Go.Mem
set_option linter.unusedVariables false
theorem own : ownKnob Try.prog.godebug = none := by kernel_rfl
theorem laid : laidOutB Try.prog = true := by kernel_rfl
theorem cells5 : Try.prog.cellsOf 5 = 1 := by kernel_rfl
set_option maxRecDepth 100000 in
theorem lifted (os : Os) (started : os.Started) (H : Type) (enc : TypeId × Value → H) :
    ReturnsInHanded {} Try.checked os 4 .any (Rows.stripeBackSpec.pre6 enc Try.prog Try.f4 Rows.stripeBackRow.domain false) (Rows.stripeBackSpec.post enc Try.prog Try.f4 false true false false) := by
  refine returnsInHanded_of_change (C := Try.checked) own started (by kernel_rfl) Try.func4
    (ChangeSpec.witness6 (enc := enc) (C := Try.checked) false ⟨#[], #[.int .u8 0, .slice none 0 0], []⟩ 8 (by kernel_rfl) (by kernel_rfl) (by kernel_rfl) (by kernel_rfl)) ?_
  intro W base args ds gs before hval0 hW hcnd _
  have hval : ∀ (j : Nat) t v, Try.f4.params[j]? = some t → args[j]? = some v → Value.okWide Try.prog W .any base t v := hval0
  have hW' := hW
  obtain ⟨p, q, hA0, hV, rfl, hfz, hnd⟩ := hW
  have hA : DataW.TrodAll enc Try.prog W 0 (fun _ => true) true Try.f4.params.toList args.toList ds p := hA0
  rw [Try.params4] at hA hval
  obtain ⟨v0, vs0, d0, ds0, p0, q0, hargs, rfl, rfl, h0, r0⟩ := trodAll_cons hA
  obtain ⟨v1, vs1, d1, ds1, p1, q1, rfl, rfl, rfl, h1, r1⟩ := trodAll_cons r0
  obtain ⟨rfl, rfl, rfl⟩ := trodAll_nil r1
  obtain rfl : args = #[v0, v1] := by cases args; simp_all
  obtain ⟨rfl, rfl⟩ := trodVars_none hV
  obtain ⟨a0, rfl, rfl, rfl, w0⟩ := open_int Try.underlying5 (hval 0 5 v0 rfl rfl) h0
  obtain ⟨la0, ua0⟩ := bounds_u8 w0
  have s1 := okWide_slice Try.underlying25 (hval 1 25 v1 rfl rfl)
  obtain ⟨l1, t1⟩ := bytes_of Try.underlying25 Try.underlying5 cells5 s1 h1
  clear hA0 hval0
  have hW2 : DataW.Whole enc Try.prog Try.f4.params.toList Rows.stripeBackSpec.vars false W #[.int .u8 a0, v1].toList [.lit (.int .u8 a0), d1] [] ([] ++ (p1 ++ [])) := by
    have h2 : DataW.Whole enc Try.prog Try.f4.params.toList Rows.stripeBackSpec.vars false W #[.int .u8 a0, v1].toList [.lit (.int .u8 a0), d1] [] (([] ++ (p1 ++ [])) ++ []) := hW'
    rwa [List.append_nil ([] ++ (p1 ++ []))] at h2
  have hlt : ∀ x : MemPlace, x ∈ (([] ++ (p1 ++ [])) : List MemPlace) → x.block < W.heap.size := fun x hx => hW2.lt x hx
  refine (Stp.StripeBackC Stp.stI a0 la0 ua0 l1 v1 W t1).mono fun e W' ⟨he, hb⟩ => ?_
  subst he
  exact ⟨_, rfl, post_law hW2 rfl (fun _ _ _ => (trodAll_cons_mk (shut_bool Try.underlying4 _) trodAll_mk0))
    (fun sp hs => (trodAll_cons_mk (shut_int Try.underlying5 w0) (trodAll_cons_mk (WideElems.Trod_stays laid (by kernel_rfl) (of_decide_eq_true (by kernel_rfl)) h1 (fun x hx => hb.same (hlt x (by simp [hx]))) (fun x hx => hs x (by simp [hx]))) trodAll_mk0))) rfl hb (ok_one (by kernel_rfl) rfl (okWide_bool_mk Try.underlying4 _))⟩
theorem over : Rows.stripeBackRow.holds Try.pinned (OpenSpec.ofChange Rows.stripeBackSpec) :=
  OpenClaim.holds_of_wide 4 Try.f4 rfl rfl rfl rfl rfl rfl rfl ⟨rfl, rfl, rfl, rfl, rfl⟩ rfl rfl rfl rfl rfl (by kernel_rfl) Try.func4 (by kernel_rfl)
    (of_decide_eq_true (by kernel_rfl)) (by unfold Func.isWrapper; first | (rw [if_pos (by decide +kernel)]; kernel_rfl) | (rw [if_neg (by decide +kernel)]; exact ⟨rfl, rfl⟩))
    (fun os started H enc _ => lifted os started H enc)
theorem proved : Rows.StripeBackSaid :=
  over
end Go.Proofs.Ytgbeolepfmihgaa.stripeBack
