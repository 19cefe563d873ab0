/- ScriptEnds: a text that lacks its last end is told at its last line. -/
import Derived.Test.YtegnheonncoodaaDoorRows
import Derived.Test.YtegnheonncoodaaDoorCards
import Derived.Test.YtegnheonncoodaaDoorTie
import Derived.Test.YtegnheonncoodaaDoorTrod
import Derived.Test.YtegnheonncoodaaDoorScArg
import Derived.Test.YtegnheonncoodaaDoorScEnds
import Derived.WalkKit
import Derived.ProofKit
import Derived.OpenShut
import Derived.Carry
import Derived.WideKeyArgs
import Derived.LaidMore
import Derived.LaidSub
import Derived.Stop.Joined
import Derived.Lib.LaidTab
import Derived.SevenTiedAt
import Derived.SizedLaws
import Derived.ChangeMaps5
import Derived.ShutString
namespace Go.Proofs.YtegnheonncoodaaDoor.scriptEnds
open Go.ChangeShapes Go.WideShapes Go.ChangeAt Go.RowKit Go.Mem
set_option linter.unusedVariables false
theorem own : ownKnob Tryd.prog.godebug = none := by kernel_rfl
theorem laidOut : laidOutB Tryd.prog = true := by kernel_rfl
theorem tabP {W : World} (h : laidMet Tryd.prog Rows.scriptEndsRow.laid W) : Lib.TabIs Tryd.prog W "internal/strconv.uint64pow10" .u64 Lib.pow10Tab := by
  obtain ⟨g, hg, hty⟩ : ∃ g, Tryd.prog.globalNamed "internal/strconv.uint64pow10" = some g ∧ (Tryd.prog.globals[g]?).map (·.type) = some 86 := ⟨(Tryd.prog.globalNamed "internal/strconv.uint64pow10").getD 0, by kernel_rfl, by kernel_rfl⟩
  have h' := laidMet.filter (fun x => x.1 == "internal/strconv.uint64pow10") h
  rw [show Rows.scriptEndsRow.laid.filter (fun x => x.1 == "internal/strconv.uint64pow10") = [("internal/strconv.uint64pow10", Lib.tabData .u64 Lib.pow10Tab)] by kernel_rfl] at h'
  exact Lib.tabIs_of_head hg hty Tryd.underlying86 Tryd.underlying32 (by kernel_rfl) (by kernel_rfl) h'
theorem star : "*" ++ "errors.errorString" = "*errors.errorString" := by decide
theorem rowE (u : TypeId) (h : Tryd.prog.typeName? 3 u = some "*errors.errorString") : u = 98 :=
  typeName_ptr_named (nm := "errors.errorString") (by rw [star]; kernel_rfl) (by kernel_rfl) (by decide) u (by rw [star]; exact h)
theorem senErrSyntax {W : World} (h : laidMet Tryd.prog Rows.scriptEndsRow.laid W) : Scr.Var W "strconv.ErrSyntax" := by
  obtain ⟨g, hg, hty⟩ : ∃ g, Tryd.prog.globalNamed "strconv.ErrSyntax" = some g ∧ (Tryd.prog.globals[g]?).map (·.type) = some 41 := ⟨(Tryd.prog.globalNamed "strconv.ErrSyntax").getD 0, by kernel_rfl, by kernel_rfl⟩
  have h' := laidMet.filter (fun x => x.1 == "strconv.ErrSyntax") h
  rw [show Rows.scriptEndsRow.laid.filter (fun x => x.1 == "strconv.ErrSyntax") = [("strconv.ErrSyntax", .iface "*errors.errorString" (.ptr (.agg [.lit (.string [105, 110, 118, 97, 108, 105, 100, 32, 115, 121, 110, 116, 97, 120])])))] by kernel_rfl] at h'
  obtain ⟨a, s, hv, _⟩ := laid_sentinel h' hg hty Tryd.underlying41 rowE Tryd.underlying98 Tryd.underlying100 rfl rfl Tryd.underlying9 (by kernel_rfl) (by kernel_rfl)
  exact ⟨_, _, hv⟩
theorem senErrRange {W : World} (h : laidMet Tryd.prog Rows.scriptEndsRow.laid W) : Scr.Var W "strconv.ErrRange" := by
  obtain ⟨g, hg, hty⟩ : ∃ g, Tryd.prog.globalNamed "strconv.ErrRange" = some g ∧ (Tryd.prog.globals[g]?).map (·.type) = some 41 := ⟨(Tryd.prog.globalNamed "strconv.ErrRange").getD 0, by kernel_rfl, by kernel_rfl⟩
  have h' := laidMet.filter (fun x => x.1 == "strconv.ErrRange") h
  rw [show Rows.scriptEndsRow.laid.filter (fun x => x.1 == "strconv.ErrRange") = [("strconv.ErrRange", .iface "*errors.errorString" (.ptr (.agg [.lit (.string [118, 97, 108, 117, 101, 32, 111, 117, 116, 32, 111, 102, 32, 114, 97, 110, 103, 101])])))] by kernel_rfl] at h'
  obtain ⟨a, s, hv, _⟩ := laid_sentinel h' hg hty Tryd.underlying41 rowE Tryd.underlying98 Tryd.underlying100 rfl rfl Tryd.underlying9 (by kernel_rfl) (by kernel_rfl)
  exact ⟨_, _, hv⟩
theorem door_met (os : Os) (args : Array Value) : laidMetH Tryd.prog Rows.scriptEndsRow.laid ((World.doorLaid Tryd.prog 400 os).forCall (fun _ _ => 0) ⟨#[], args, []⟩).memory :=
  laidMetH_of_parts3 (fuel := 8) (laidMet_of_run' 8 (by kernel_rfl) (by kernel_rfl)) (by kernel_rfl) (by kernel_rfl)
set_option maxRecDepth 100000 in
theorem lifted (os : Os) (started : os.Started) (H : Type) (enc : TypeId × Value → H) :
    ReturnsInHanded {} Tryd.checked os 6 .any (fun w args => (Rows.scriptEndsSpec.pre enc Tryd.prog Tryd.f6 [] false w args ∧ laidMetH Tryd.prog Rows.scriptEndsRow.laid w) ∧ sizedMet enc Tryd.prog Tryd.f6 (OpenSpec.ofChange Rows.scriptEndsSpec) false w args)
      (Rows.scriptEndsSpec.post enc Tryd.prog Tryd.f6 false true false false) := by
  refine returnsInHanded_of_change_and (C := Tryd.checked) (X := fun w _ => laidMetH Tryd.prog Rows.scriptEndsRow.laid w) (fun _ _ _ hh h => h.of_heap hh) own started (by kernel_rfl) Tryd.func6
    (ChangeSpec.witness_shaped (enc := enc) (C := Tryd.checked) (os := os) (X := fun w _ => laidMetH Tryd.prog Rows.scriptEndsRow.laid w) false (World.doorLaid Tryd.prog 400 os) #[.slice none 0 0] 8 rfl (World.shaped_of_RefB (by kernel_rfl) (by kernel_rfl)) (by kernel_rfl) (by kernel_rfl) (by kernel_rfl) (door_met os _)) ?_
  intro W base args ds gs before hval0 hW hcnd hsz0 hL _
  have hval : ∀ (j : Nat) t v, Tryd.f6.params[j]? = some t → args[j]? = some v → Value.okWide Tryd.prog W .any base t v := hval0
  have hW' := hW
  obtain ⟨p, q, hA0, hV, rfl, hfz, hnd⟩ := hW
  have hA : DataW.TrodAll enc Tryd.prog W 0 (fun _ => true) true Tryd.f6.params.toList args.toList ds p := hA0
  have hsz : (DataW.weightsEach Tryd.prog (Tryd.f6.params.toList ++ Rows.scriptEndsSpec.plain.varTypes Tryd.prog) (ds ++ gs)).all (· ≤ reachBytes) = true := hsz0
  rw [Tryd.params6] at hA hval hsz
  rw [MakeChecks.laidMetH_plain _ _ _ (by kernel_rfl)] at hL
  have TS : Scr.Tabs W := ⟨tabP hL, senErrSyntax hL, senErrRange hL⟩
  obtain ⟨v0, vs0, d0, ds0, p0, q0, hargs, rfl, rfl, h0, r0⟩ := trodAll_cons hA
  obtain ⟨rfl, rfl, rfl⟩ := trodAll_nil r0
  obtain rfl : args = #[v0] := by cases args; simp_all
  obtain ⟨rfl, rfl⟩ := trodVars_none hV
  obtain ⟨l0, t0, z0⟩ := Scr.steps_of Tryd.underlying22 (of_decide_eq_true (by kernel_rfl)) ⟨Tryd.underlying35, by kernel_rfl, by kernel_rfl, Tryd.underlying3, Tryd.underlying3, Tryd.underlying9, Tryd.underlying33, Tryd.underlying32, Tryd.underlying5, by kernel_rfl, of_decide_eq_true (by kernel_rfl)⟩ (hval 0 22 v0 rfl rfl) h0 (within_of hsz (j := 0) rfl rfl)
  clear hA0 hval0
  have hW2 : DataW.Whole enc Tryd.prog Tryd.f6.params.toList Rows.scriptEndsSpec.vars false W #[v0].toList [d0] [] (p0 ++ []) := by
    have h2 : DataW.Whole enc Tryd.prog Tryd.f6.params.toList Rows.scriptEndsSpec.vars false W #[v0].toList [d0] [] ((p0 ++ []) ++ []) := hW'
    rwa [List.append_nil (p0 ++ [])] at h2
  have hlt : ∀ x : MemPlace, x ∈ ((p0 ++ []) : List MemPlace) → x.block < W.heap.size := fun x hx => hW2.lt x hx
  refine (Scr.endsC l0 v0 W t0 z0 TS).mono fun e W' ⟨he, hb⟩ => ?_
  subst he
  exact ⟨_, rfl, post_law hW2 rfl (fun _ _ _ => (trodAll_cons_mk (shut_bool Tryd.underlying4 _) trodAll_mk0))
    (fun sp hs => (trodAll_cons_mk (WideElems.Trod_stays laidOut (by kernel_rfl) (of_decide_eq_true (by kernel_rfl)) h0 (fun x hx => hb.same (hlt x (by simp [hx]))) (fun x hx => hs x (by simp [hx]))) trodAll_mk0)) rfl hb (ok_one (by kernel_rfl) rfl (okWide_bool_mk Tryd.underlying4 _))⟩
theorem over : Rows.scriptEndsRow.holds Tryd.pinned (OpenSpec.ofChange Rows.scriptEndsSpec) :=
  OpenClaim.holds_of_wide 6 Tryd.f6 rfl rfl rfl rfl rfl rfl rfl ⟨rfl, rfl, rfl, rfl, rfl⟩ rfl rfl rfl rfl rfl (by kernel_rfl) Tryd.func6 (by kernel_rfl)
    (of_decide_eq_true (by kernel_rfl)) (by unfold Func.isWrapper; first | (rw [if_pos (by decide +kernel)]; kernel_rfl) | (rw [if_neg (by decide +kernel)]; exact ⟨rfl, rfl⟩))
    (fun os started H enc _ => lifted os started H enc)
theorem proved : Rows.ScriptEndsCardSaid :=
  Claim7.holds_tied_plain_at .later [] [.data, .data, .data, .sentinel, .sentinel] true (true, "85a21928f461a1b47c4c77d7baec5bb3f7a7b3337d7728458003d50baf03e809") true
    over (fun _ h => by cases h) (by kernel_rfl) (fun _ h => by cases h) scriptEnds_row_tie rfl ⟨rfl, rfl⟩ (by kernel_rfl) rfl
    (fun f fn hf hfn => by
      obtain rfl : f = 6 := Option.some.inj ((show Tryd.prog.funcNamed "flitting/flittinglaw24.ScriptEnds" = some 6 by kernel_rfl).symm.trans hf) |>.symm
      obtain rfl : fn = Tryd.f6 := (Option.some.inj (Tryd.func6.symm.trans hfn)).symm
      exact ⟨by kernel_rfl, fun j t ht => by
        rw [Tryd.params6] at ht
        have hm : t ∈ [22] := by simpa using Array.mem_of_getElem? ht
        have hall : ([22].all fun u => !Tryd.prog.wantsStandIn u) = true := by kernel_rfl
        exact (show Tryd.prog.wantsStandIn t = false by simpa using List.all_eq_true.1 hall t hm)⟩)
    (by kernel_rfl)
end Go.Proofs.YtegnheonncoodaaDoor.scriptEnds
