/- LinearNone is true of every slice of calls: of no calls, and of calls that did nothing yet, Check says true; nothing that was handed in is changed. No condition. -/
import Derived.Test.YtkibnpienbchaaaRows
import Derived.Test.YtkibnpienbchaaaTrod
import Derived.Test.YtkibnpienbchaaaLnArg
import Derived.Test.YtkibnpienbchaaaLnNone
import Derived.WalkKit
import Derived.ProofKit
import Derived.OpenShut
import Derived.Carry
import Derived.WideKeyArgs
import Derived.SizedLaws
import Derived.ChangeMaps5
import Derived.ShutString
namespace Go.Proofs.Ytkibnpienbchaaa.linearNone
open Go.ChangeShapes Go.WideShapes Go.ChangeAt Go.RowKit Go.Mem
set_option linter.unusedVariables false
theorem own : ownKnob Try.prog.godebug = none := by kernel_rfl
theorem laid : laidOutB Try.prog = true := by kernel_rfl
set_option maxRecDepth 100000 in
theorem lifted (os : Os) (started : os.Started) (H : Type) (enc : TypeId × Value → H) :
    ReturnsInHanded {} Try.checked os 4 .any (Rows.linearNoneSpec.pre6 enc Try.prog Try.f4 Rows.linearNoneRow.domain false) (Rows.linearNoneSpec.post enc Try.prog Try.f4 false true false false) := by
  refine returnsInHanded_of_change_sized (C := Try.checked) own started (by kernel_rfl) Try.func4
    (ChangeSpec.witness6 (enc := enc) (C := Try.checked) false ⟨#[], #[.slice none 0 0], []⟩ 8 (by kernel_rfl) (by kernel_rfl) (by kernel_rfl) (by kernel_rfl)) ?_
  intro W base args ds gs before hval0 hW hcnd hsz0 _
  have hval : ∀ (j : Nat) t v, Try.f4.params[j]? = some t → args[j]? = some v → Value.okWide Try.prog W .any base t v := hval0
  have hW' := hW
  obtain ⟨p, q, hA0, hV, rfl, hfz, hnd⟩ := hW
  have hA : DataW.TrodAll enc Try.prog W 0 (fun _ => true) true Try.f4.params.toList args.toList ds p := hA0
  have hsz : (DataW.weightsEach Try.prog (Try.f4.params.toList ++ Rows.linearNoneSpec.plain.varTypes Try.prog) (ds ++ gs)).all (· ≤ reachBytes) = true := hsz0
  rw [Try.params4] at hA hval hsz
  obtain ⟨v0, vs0, d0, ds0, p0, q0, hargs, rfl, rfl, h0, r0⟩ := trodAll_cons hA
  obtain ⟨rfl, rfl, rfl⟩ := trodAll_nil r0
  obtain rfl : args = #[v0] := by cases args; simp_all
  obtain ⟨rfl, rfl⟩ := trodVars_none hV
  obtain ⟨l0, t0⟩ := Lnr.calls_of Try.underlying24 ⟨Try.underlying29, by kernel_rfl, by kernel_rfl, Try.underlying3, Try.underlying3, Try.underlying9, Try.underlying22, Try.underlying3, Try.underlying3, Try.underlying3, Try.underlying26, Try.underlying22, Try.underlying27⟩ (hval 0 24 v0 rfl rfl) h0
  clear hA0 hval0
  have hW2 : DataW.Whole enc Try.prog Try.f4.params.toList Rows.linearNoneSpec.vars false W #[v0].toList [d0] [] (p0 ++ []) := by
    have h2 : DataW.Whole enc Try.prog Try.f4.params.toList Rows.linearNoneSpec.vars false W #[v0].toList [d0] [] ((p0 ++ []) ++ []) := hW'
    rwa [List.append_nil (p0 ++ [])] at h2
  have hlt : ∀ x : MemPlace, x ∈ ((p0 ++ []) : List MemPlace) → x.block < W.heap.size := fun x hx => hW2.lt x hx
  refine (Lnr.LinearNoneC t0).mono fun e W' ⟨he, hb⟩ => ?_
  subst he
  exact ⟨_, rfl, post_law hW2 rfl (fun _ _ _ => (trodAll_cons_mk (shut_bool Try.underlying4 _) trodAll_mk0))
    (fun sp hs => (trodAll_cons_mk (WideElems.Trod_stays laid (by kernel_rfl) (of_decide_eq_true (by kernel_rfl)) h0 (fun x hx => hb.same (hlt x (by simp [hx]))) (fun x hx => hs x (by simp [hx]))) trodAll_mk0)) rfl hb (ok_one (by kernel_rfl) rfl (okWide_bool_mk Try.underlying4 _))⟩
theorem over : Rows.linearNoneRow.holds Try.pinned (OpenSpec.ofChange Rows.linearNoneSpec) :=
  OpenClaim.holds_of_wide 4 Try.f4 rfl rfl rfl rfl rfl rfl rfl ⟨rfl, rfl, rfl, rfl, rfl⟩ rfl rfl rfl rfl rfl (by kernel_rfl) Try.func4 (by kernel_rfl)
    (of_decide_eq_true (by kernel_rfl)) (by unfold Func.isWrapper; first | (rw [if_pos (by decide +kernel)]; kernel_rfl) | (rw [if_neg (by decide +kernel)]; exact ⟨rfl, rfl⟩))
    (fun os started H enc _ => lifted os started H enc)
theorem proved : Rows.LinearNoneSaid :=
  over
end Go.Proofs.Ytkibnpienbchaaa.linearNone
