/- the frame of TableFinds -/
import Derived.Test.YtlgdchflegflkaaRows
import Derived.Test.YtlgdchflegflkaaRecArg
import Derived.Test.YtlgdchflegflkaaTbArg
import Derived.Test.YtlgdchflegflkaaTbFb
import Derived.Test.YtlgdchflegflkaaTbGe
import Derived.WalkKit
import Derived.ProofKit
import Derived.OpenShut
import Derived.Carry
import Derived.WideKeyArgs
import Derived.SizedLaws
import Derived.ChangeMaps5
import Derived.ShutString
namespace Go.Proofs.Ytlgdchflegflkaa.tableFinds
open Go.ChangeShapes Go.WideShapes Go.ChangeAt Go.RowKit Go.Mem
set_option linter.unusedVariables false
theorem own : ownKnob Try.prog.godebug = none := by kernel_rfl
theorem laid : laidOutB Try.prog = true := by kernel_rfl
set_option maxRecDepth 100000 in
theorem lifted (os : Os) (started : os.Started) (H : Type) (enc : TypeId × Value → H) :
    ReturnsInHanded {} Try.checked os 5 .any (Rows.tableFindsSpec.pre6 enc Try.prog Try.f5 Rows.tableFindsRow.domain false) (Rows.tableFindsSpec.post enc Try.prog Try.f5 false true false false) := by
  refine returnsInHanded_of_change_sized (C := Try.checked) own started (by kernel_rfl) Try.func5
    (ChangeSpec.witness6 (enc := enc) (C := Try.checked) false ⟨#[], #[.slice none 0 0, .string ⟨#[]⟩, .int .i64 0], []⟩ 8 (by kernel_rfl) (by kernel_rfl) (by kernel_rfl) (by kernel_rfl)) ?_
  intro W base args ds gs before hval0 hW hcnd hsz0 _
  have hval : ∀ (j : Nat) t v, Try.f5.params[j]? = some t → args[j]? = some v → Value.okWide Try.prog W .any base t v := hval0
  have hW' := hW
  obtain ⟨p, q, hA0, hV, rfl, hfz, hnd⟩ := hW
  have hA : DataW.TrodAll enc Try.prog W 0 (fun _ => true) true Try.f5.params.toList args.toList ds p := hA0
  have hsz : (DataW.weightsEach Try.prog (Try.f5.params.toList ++ Rows.tableFindsSpec.plain.varTypes Try.prog) (ds ++ gs)).all (· ≤ reachBytes) = true := hsz0
  rw [Try.params5] at hA hval hsz
  obtain ⟨v0, vs0, d0, ds0, p0, q0, hargs, rfl, rfl, h0, r0⟩ := trodAll_cons hA
  obtain ⟨v1, vs1, d1, ds1, p1, q1, rfl, rfl, rfl, h1, r1⟩ := trodAll_cons r0
  obtain ⟨v2, vs2, d2, ds2, p2, q2, rfl, rfl, rfl, h2, r2⟩ := trodAll_cons r1
  obtain ⟨rfl, rfl, rfl⟩ := trodAll_nil r2
  obtain rfl : args = #[v0, v1, v2] := by cases args; simp_all
  obtain ⟨rfl, rfl⟩ := trodVars_none hV
  obtain ⟨l0, t0⟩ := Tbl.recs_of (tl := 29) Try.underlying22 (of_decide_eq_true (by kernel_rfl)) ⟨Try.underlying36, by kernel_rfl, by kernel_rfl, Try.underlying3, Try.underlying3, Try.underlying3, Try.underlying9, Try.underlying29, Try.underlying3, by kernel_rfl, of_decide_eq_true (by kernel_rfl)⟩ ⟨Try.underlying34, Try.underlying42, by kernel_rfl, by kernel_rfl, of_decide_eq_true (by kernel_rfl), Try.underlying3, Try.underlying3, Try.underlying29, Try.underlying3, by kernel_rfl, of_decide_eq_true (by kernel_rfl)⟩ ⟨Try.underlying28, Try.underlying46, by kernel_rfl, by kernel_rfl, of_decide_eq_true (by kernel_rfl), Try.underlying9, Try.underlying3, Try.underlying3⟩ ⟨Try.underlying34, Try.underlying42, by kernel_rfl, by kernel_rfl, of_decide_eq_true (by kernel_rfl), Try.underlying3, Try.underlying3, Try.underlying29, Try.underlying3, by kernel_rfl, of_decide_eq_true (by kernel_rfl)⟩ (hval 0 22 v0 rfl rfl) h0 (within_of hsz (j := 0) rfl rfl)
  obtain ⟨s1, rfl, rfl, rfl, ws1⟩ := Go.ChangeMaps.open_string Try.underlying9 (hval 1 9 v1 rfl rfl) h1
  obtain ⟨a2, rfl, rfl, rfl, w2⟩ := open_int Try.underlying3 (hval 2 3 v2 rfl rfl) h2
  obtain ⟨la2, ua2⟩ := bounds_i64 w2
  clear hA0 hval0
  have hW2 : DataW.Whole enc Try.prog Try.f5.params.toList Rows.tableFindsSpec.vars false W #[v0, .string s1, .int .i64 a2].toList [d0, .lit (.string s1.data.toList), .lit (.int .i64 a2)] [] (p0 ++ ([] ++ ([] ++ []))) := by
    have h2 : DataW.Whole enc Try.prog Try.f5.params.toList Rows.tableFindsSpec.vars false W #[v0, .string s1, .int .i64 a2].toList [d0, .lit (.string s1.data.toList), .lit (.int .i64 a2)] [] ((p0 ++ ([] ++ ([] ++ []))) ++ []) := hW'
    rwa [List.append_nil (p0 ++ ([] ++ ([] ++ [])))] at h2
  have hlt : ∀ x : MemPlace, x ∈ ((p0 ++ ([] ++ ([] ++ []))) : List MemPlace) → x.block < W.heap.size := fun x hx => hW2.lt x hx
  refine (Tbl.TableFindsC Tbl.tabI l0 v0 s1 a2 ⟨la2, ua2⟩ W t0).mono fun e W' ⟨he, hb⟩ => ?_
  subst he
  exact ⟨_, rfl, post_law hW2 rfl (fun _ _ _ => (trodAll_cons_mk (shut_bool Try.underlying4 _) trodAll_mk0))
    (fun sp hs => (trodAll_cons_mk (WideElems.Trod_stays laid (by kernel_rfl) (of_decide_eq_true (by kernel_rfl)) h0 (fun x hx => hb.same (hlt x (by simp [hx]))) (fun x hx => hs x (by simp [hx]))) (trodAll_cons_mk (Go.ChangeMaps.shut_string Try.underlying9 ws1) (trodAll_cons_mk (shut_int Try.underlying3 w2) trodAll_mk0)))) rfl hb (ok_one (by kernel_rfl) rfl (okWide_bool_mk Try.underlying4 _))⟩
theorem over : Rows.tableFindsRow.holds Try.pinned (OpenSpec.ofChange Rows.tableFindsSpec) :=
  OpenClaim.holds_of_wide 5 Try.f5 rfl rfl rfl rfl rfl rfl rfl ⟨rfl, rfl, rfl, rfl, rfl⟩ rfl rfl rfl rfl rfl (by kernel_rfl) Try.func5 (by kernel_rfl)
    (of_decide_eq_true (by kernel_rfl)) (by unfold Func.isWrapper; first | (rw [if_pos (by decide +kernel)]; kernel_rfl) | (rw [if_neg (by decide +kernel)]; exact ⟨rfl, rfl⟩))
    (fun os started H enc _ => lifted os started H enc)
theorem proved : Rows.TableFindsSaid :=
  over
end Go.Proofs.Ytlgdchflegflkaa.tableFinds
