/- Layer 17: what is at its target before and behind is not moved, by any states and turns: always true. -/
import Derived.Test.YtegbgnjmkohcfaaDoorRows
import Derived.Test.YtegbgnjmkohcfaaDoorCards
import Derived.Test.YtegbgnjmkohcfaaDoorTie
import Derived.Test.YtegbgnjmkohcfaaDoorTrodZ
import Derived.Test.YtegbgnjmkohcfaaDoorPlPool
import Derived.WalkKit
import Derived.ProofKit
import Derived.OpenShut
import Derived.Carry
import Derived.WideKeyArgs
import Derived.LaidMore
import Derived.LaidSub
import Derived.Stop.Joined
import Derived.Lib.LaidTab
import Derived.SevenTiedAt
namespace Go.Proofs.YtegbgnjmkohcfaaDoor.planPool
open Go.ChangeShapes Go.WideShapes Go.ChangeAt Go.RowKit Go.Mem
set_option linter.unusedVariables false
theorem own : ownKnob Tryd.prog.godebug = none := by kernel_rfl
theorem laidOut : laidOutB Tryd.prog = true := by kernel_rfl
theorem cells3 : Tryd.prog.cellsOf 3 = 1 := by kernel_rfl
theorem cells5 : Tryd.prog.cellsOf 5 = 1 := by kernel_rfl
def zs0 : List Int := [1116352408, 1899447441, 3049323471, 3921009573, 961987163, 1508970993, 2453635748, 2870763221, 3624381080, 310598401, 607225278, 1426881987, 1925078388, 2162078206, 2614888103, 3248222580, 3835390401, 4022224774, 264347078, 604807628, 770255983, 1249150122, 1555081692, 1996064986, 2554220882, 2821834349, 2952996808, 3210313671, 3336571891, 3584528711, 113926993, 338241895, 666307205, 773529912, 1294757372, 1396182291, 1695183700, 1986661051, 2177026350, 2456956037, 2730485921, 2820302411, 3259730800, 3345764771, 3516065817, 3600352804, 4094571909, 275423344, 430227734, 506948616, 659060556, 883997877, 958139571, 1322822218, 1537002063, 1747873779, 1955562222, 2024104815, 2227730452, 2361852424, 2428436474, 2756734187, 3204031479, 3329325298]
theorem tab0 {W : World} (h : laidMet Tryd.prog Rows.planPoolRow.laid W) : Lib.TabIs Tryd.prog W "flitting/hash.rounds" .u32 zs0 := by
  obtain ⟨g, hg, hty⟩ : ∃ g, Tryd.prog.globalNamed "flitting/hash.rounds" = some g ∧ (Tryd.prog.globals[g]?).map (·.type) = some 90 := ⟨(Tryd.prog.globalNamed "flitting/hash.rounds").getD 0, by kernel_rfl, by kernel_rfl⟩
  have h' := laidMet.filter (fun x => x.1 == "flitting/hash.rounds") h
  rw [show Rows.planPoolRow.laid.filter (fun x => x.1 == "flitting/hash.rounds") = [("flitting/hash.rounds", Lib.tabData .u32 zs0)] by kernel_rfl] at h'
  exact Lib.tabIs_of_head hg hty Tryd.underlying90 Tryd.underlying89 (by kernel_rfl) (by kernel_rfl) h'
theorem door_met (os : Os) (args : Array Value) : laidMetH Tryd.prog Rows.planPoolRow.laid ((World.doorLaid Tryd.prog 400 os).forCall (fun _ _ => 0) ⟨#[], args, []⟩).memory :=
  laidMetH_of_parts3 (fuel := 8) (laidMet_of_run' 8 (by kernel_rfl) (by kernel_rfl)) (by kernel_rfl) (by kernel_rfl)
set_option maxRecDepth 100000 in
theorem lifted (os : Os) (started : os.Started) (H : Type) (enc : TypeId × Value → H) :
    ReturnsInHanded {} Tryd.checked os 4 .any (fun w args => (Rows.planPoolSpec.pre enc Tryd.prog Tryd.f4 [] false w args ∧ laidMetH Tryd.prog Rows.planPoolRow.laid w) ∧ sizedMet enc Tryd.prog Tryd.f4 (OpenSpec.ofChange Rows.planPoolSpec) false w args)
      (Rows.planPoolSpec.post enc Tryd.prog Tryd.f4 false true false false) := by
  refine returnsInHanded_of_change_and (C := Tryd.checked) (X := fun w _ => laidMetH Tryd.prog Rows.planPoolRow.laid w) (fun _ _ _ hh h => h.of_heap hh) own started (by kernel_rfl) Tryd.func4
    (ChangeSpec.witness_shaped (enc := enc) (C := Tryd.checked) (os := os) (X := fun w _ => laidMetH Tryd.prog Rows.planPoolRow.laid w) false (World.doorLaid Tryd.prog 400 os) #[.slice none 0 0, .slice none 0 0, .slice none 0 0] 8 rfl (World.shaped_of_RefB (by kernel_rfl) (by kernel_rfl)) (by kernel_rfl) (by kernel_rfl) (by kernel_rfl) (door_met os _)) ?_
  intro W base args ds gs before hval0 hW _ _ hL _
  have hval : ∀ (j : Nat) t v, Tryd.f4.params[j]? = some t → args[j]? = some v → Value.okWide Tryd.prog W .any base t v := hval0
  have hW' := hW
  obtain ⟨p, q, hA0, hV, rfl, hfz, hnd⟩ := hW
  have hA : DataW.TrodAll enc Tryd.prog W 0 (fun _ => true) true Tryd.f4.params.toList args.toList ds p := hA0
  rw [Tryd.params4] at hA hval
  rw [MakeChecks.laidMetH_plain _ _ _ (by kernel_rfl)] at hL
  have T0 := tab0 hL
  obtain ⟨v0, vs0, d0, ds0, p0, q0, hargs, rfl, rfl, h0, r0⟩ := trodAll_cons hA
  obtain ⟨v1, vs1, d1, ds1, p1, q1, rfl, rfl, rfl, h1, r1⟩ := trodAll_cons r0
  obtain ⟨v2, vs2, d2, ds2, p2, q2, rfl, rfl, rfl, h2, r2⟩ := trodAll_cons r1
  obtain ⟨rfl, rfl, rfl⟩ := trodAll_nil r2
  obtain rfl : args = #[v0, v1, v2] := by cases args; simp_all
  obtain ⟨rfl, rfl⟩ := trodVars_none hV
  have s0 := okWide_slice Tryd.underlying22 (hval 0 22 v0 rfl rfl)
  obtain ⟨l0, t0⟩ := ints_of Tryd.underlying22 Tryd.underlying3 cells3 s0 h0
  have s1 := okWide_slice Tryd.underlying22 (hval 1 22 v1 rfl rfl)
  obtain ⟨l1, t1⟩ := ints_of Tryd.underlying22 Tryd.underlying3 cells3 s1 h1
  have s2 := okWide_slice Tryd.underlying23 (hval 2 23 v2 rfl rfl)
  obtain ⟨l2, t2⟩ := bytes_of Tryd.underlying23 Tryd.underlying5 cells5 s2 h2
  clear hA0 hval0
  have hW2 : DataW.Whole enc Tryd.prog Tryd.f4.params.toList Rows.planPoolSpec.vars false W #[v0, v1, v2].toList [d0, d1, d2] [] (p0 ++ (p1 ++ (p2 ++ []))) := by
    have h2 : DataW.Whole enc Tryd.prog Tryd.f4.params.toList Rows.planPoolSpec.vars false W #[v0, v1, v2].toList [d0, d1, d2] [] ((p0 ++ (p1 ++ (p2 ++ []))) ++ []) := hW'
    rwa [List.append_nil (p0 ++ (p1 ++ (p2 ++ [])))] at h2
  have hlt : ∀ x : MemPlace, x ∈ ((p0 ++ (p1 ++ (p2 ++ []))) : List MemPlace) → x.block < W.heap.size := fun x hx => hW2.lt x hx
  refine (Pl.PlanPoolC l0 l1 l2 v0 v1 v2 W (Hash.tabs_of T0 (by kernel_rfl)) t0 t1 t2).mono fun e W' ⟨he, hb⟩ => ?_
  subst he
  exact ⟨_, rfl, post_law hW2 rfl (fun _ _ _ => (trodAll_cons_mk (shut_bool Tryd.underlying4 _) trodAll_mk0))
    (fun sp hs => (trodAll_cons_mk (WideElems.Trod_stays laidOut (by kernel_rfl) (of_decide_eq_true (by kernel_rfl)) h0 (fun x hx => hb.same (hlt x (by simp [hx]))) (fun x hx => hs x (by simp [hx]))) (trodAll_cons_mk (WideElems.Trod_stays laidOut (by kernel_rfl) (of_decide_eq_true (by kernel_rfl)) h1 (fun x hx => hb.same (hlt x (by simp [hx]))) (fun x hx => hs x (by simp [hx]))) (trodAll_cons_mk (WideElems.Trod_stays laidOut (by kernel_rfl) (of_decide_eq_true (by kernel_rfl)) h2 (fun x hx => hb.same (hlt x (by simp [hx]))) (fun x hx => hs x (by simp [hx]))) trodAll_mk0)))) rfl hb (ok_one (by kernel_rfl) rfl (okWide_bool_mk Tryd.underlying4 _))⟩
theorem over : Rows.planPoolRow.holds Tryd.pinned (OpenSpec.ofChange Rows.planPoolSpec) :=
  OpenClaim.holds_of_wide 4 Tryd.f4 rfl rfl rfl rfl rfl rfl rfl ⟨rfl, rfl, rfl, rfl, rfl⟩ rfl rfl rfl rfl rfl (by kernel_rfl) Tryd.func4 (by kernel_rfl)
    (of_decide_eq_true (by kernel_rfl)) (by unfold Func.isWrapper; first | (rw [if_pos (by decide +kernel)]; kernel_rfl) | (rw [if_neg (by decide +kernel)]; exact ⟨rfl, rfl⟩))
    (fun os started H enc _ => lifted os started H enc)
theorem proved : Rows.PlanPoolCardSaid :=
  Claim7.holds_tied_plain_at .later [] [.data] true (true, "fd527c6b0e80a8f2cce105dc4ddf3a617c3a54a55f04eabd947ad61bf10bba42") false
    over (fun _ h => by cases h) (by kernel_rfl) (fun _ h => by cases h) planPool_row_tie rfl ⟨rfl, rfl⟩ (by kernel_rfl) rfl
    (fun f fn hf hfn => by
      obtain rfl : f = 4 := Option.some.inj ((show Tryd.prog.funcNamed "flitting/flittinglaw17.PlanPool" = some 4 by kernel_rfl).symm.trans hf) |>.symm
      obtain rfl : fn = Tryd.f4 := (Option.some.inj (Tryd.func4.symm.trans hfn)).symm
      exact ⟨by kernel_rfl, fun j t ht => by
        rw [Tryd.params4] at ht
        have hm : t ∈ [22, 22, 23] := by simpa using Array.mem_of_getElem? ht
        have hall : ([22, 22, 23].all fun u => !Tryd.prog.wantsStandIn u) = true := by kernel_rfl
        exact (show Tryd.prog.wantsStandIn t = false by simpa using List.all_eq_true.1 hall t hm)⟩)
    (by kernel_rfl)
end Go.Proofs.YtegbgnjmkohcfaaDoor.planPool
