/- The law of a stripe that is moved, as a walk. -/
import Derived.Test.YtlgdchflegflkaaTbRun
import Derived.BigQuiet
import Derived.Deep.QuietTactic
import Derived.IntWalk
namespace Tb
open Go Go.Mem Kl RecM
def moveR (s : StpD) : RecD := ⟨3, 0, 0, ⟨#[]⟩, [s], [], []⟩
theorem move_apply (t : TabD) (s : StpD) : apply t (moveR s) = if StpOk t.n s then (moveO s t.objs).map fun L => ⟨t.k, t.n, L, t.states, t.epoch, t.last⟩ else none := by
  unfold apply
  rw [if_neg (show ¬ (moveR s).kind = 1 from (by decide : ¬ (3 : Int) = 1)), if_neg (show ¬ (moveR s).kind = 2 from (by decide : ¬ (3 : Int) = 2)), if_pos (show (moveR s).kind = 3 from rfl)]
  rfl
/-- what a move leaves: the rows' lengths, what parts, and that the stripe is there -/
structure Moved (t t' : TabD) (s : StpD) (e : Int) : Prop where
  len : (rowS t').length = (rowS t).length
  objs : t'.objs.length = t.objs.length
  part : ∀ j (h : j < (rowS t).length) (h' : j < (rowS t').length), ¬ (rowS t)[j] = (rowS t')[j] → e = 0 ∧ (rowS t')[j].id = s.id
  one : ∀ i j (hi : i < (rowS t').length) (hj : j < (rowS t').length), i < j → (rowS t')[i].id ≠ (rowS t')[j].id
  there : e = 2 ∨ (e = 0 ∧ stripe t' s.id = some s)
theorem up_one {l : List StpD} (h : Up l) : ∀ i j (hi : i < l.length) (hj : j < l.length), i < j → l[i].id ≠ l[j].id := fun i j hi hj hij => by
  have := List.pairwise_iff_getElem.1 h i j hi hj hij
  omega
theorem moved {t : TabD} (h : t.Ok) (s : StpD) : Moved t (stepT t (moveR s)) s (if (apply t (moveR s)).isSome = true then 0 else 2) := by
  have hsk := step_ok h (moveR s)
  unfold stepT at *
  cases e : apply t (moveR s) with
  | none => exact ⟨rfl, rfl, fun j hj hj' q => absurd rfl q, up_one (rowS_up h), .inl rfl⟩
  | some t' =>
    rw [e] at hsk
    have hk : t'.Ok := hsk
    rw [move_apply] at e
    split at e
    · rename_i hs
      obtain ⟨L, hL, rfl⟩ := Option.map_eq_some_iff.1 e
      obtain ⟨h1, x, hx, q⟩ := row_moved h hs hL
      refine ⟨(congrArg List.length h1).trans (List.length_map _), moveO_length hL, fun j hj hj' z => ⟨rfl, ?_⟩, up_one (rowS_up hk), .inr ⟨rfl, ?_⟩⟩
      · have e2 : (rowS ⟨t.k, t.n, L, t.states, t.epoch, t.last⟩)[j] = sub s (rowS t)[j] := by
          rw [List.getElem_of_eq h1, List.getElem_map]
        show (rowS ⟨t.k, t.n, L, t.states, t.epoch, t.last⟩)[j].id = s.id
        rw [e2, sub_id]
        by_cases w : (rowS t)[j].id = s.id
        · exact w
        · have z' : ¬ (rowS t)[j] = (rowS ⟨t.k, t.n, L, t.states, t.epoch, t.last⟩)[j] := z
          rw [e2] at z'
          unfold sub at z'
          rw [if_neg w] at z'
          exact absurd rfl z'
      · refine stripe_self hk (rowS_mem.1 ?_)
        show s ∈ rowS ⟨t.k, t.n, L, t.states, t.epoch, t.last⟩
        rw [h1]
        exact List.mem_map.2 ⟨x, hx, by unfold sub; rw [if_pos q]⟩
    · cases e
end Tb
namespace Go.Proofs.Ytlgdchflegflkaa.Tbl
set_option linter.unusedVariables false
open Go.ChangeShapes Go.WideShapes Go.ChangeAt Go.RowKit
open Go.Mem RecM
/-- a stripe in a block of its own -/
theorem stp_alone {w w' : World} {T : TypeId} {F : Nat → Prop} {s : StpD} {A : Option Addr} {C : Nat} (hF : ∀ b, F b → b < w.heap.size) (ht : Turned F (w.alloc (.cells #[.int .i64 s.id, .int .i64 s.ep, .slice A s.locs.length C] T)) w') (hi : Ints w' (.slice A s.locs.length C) s.locs) (h0 : I64 s.id) (h1 : I64 s.ep) (h2 : LenOk s.locs.length) :
    Stps w' (.slice (some ⟨w.heap.size, 0, none⟩) 1 1) [s] := by
  have cs := fun (j : Nat) (hj : j < 3) => cells_of w #[.int .i64 s.id, .int .i64 s.ep, .slice A s.locs.length C] T (i := j) hj
  refine ⟨_, 1, 1, rfl, rfl, Nat.le_refl _, by unfold maxLen; omega, (fun e => by cases e), fun i hi' => ?_⟩
  obtain rfl : i = 0 := by simp at hi'; exact hi'
  refine ⟨_, 0, fun j => #[Value.int .i64 s.id, .int .i64 s.ep, .slice A s.locs.length C].getD j undef, rfl, fun j hj => ?_, rfl, rfl, hi, h0, h1, h2⟩
  rw [show 0 + 0 * 3 + j = j by omega, below_set ht (by simp) (fun q => by have := hF _ q; omega), cs j hj]
  rcases (by omega : j = 0 ∨ j = 1 ∨ j = 2) with rfl | rfl | rfl <;> rfl
/-- one element of a slice, as a slice -/
theorem Stps.one {w : World} {b o n C : Nat} {L : List StpD} (h : Stps w (.slice (some ⟨b, o, none⟩) n C) L) {i : Nat} (hi : i < L.length) (hC : i + 1 ≤ C) (hm : C ≤ 9223372036854775807) : Stps w (.slice (some ⟨b, o + i * 3, none⟩) 1 (C - i)) [L[i]] := by
  obtain ⟨A', n', C', h1, _, _, _, _, h6⟩ := h
  cases h1
  refine ⟨_, 1, C - i, rfl, rfl, by omega, by unfold maxLen; omega, (fun e => by cases e), fun k hk => ?_⟩
  obtain rfl : k = 0 := by simp at hk; exact hk
  obtain ⟨b', o', f, e1, e2, e3⟩ := h6 i hi
  cases e1
  exact ⟨b, o + i * 3, f, rfl, fun j hj => by rw [show o + i * 3 + 0 * 3 + j = o + i * 3 + j by omega]; exact e2 j hj, e3⟩
set_option maxHeartbeats 8000000 in
theorem TableMovesC {PD : Thing} (I : TbI PD) (L : List RecD) (v : Value) (s : StpD) (V : Value) (W : World) (hL : Recs W v L) (hV : StpIs W V s) :
    Calls Try.prog 8 #[v, V] W fun e w' => e = .returned (.bool true) ∧ Below W.heap.size W w' := by
  obtain ⟨A, C, rfl, hi, i0, i1, i2⟩ := hV
  obtain ⟨AL, CL, rfl, g1, g2, -⟩ := Cells.shape hL
  obtain ⟨W1, hW1⟩ : ∃ W1, W1 = W.alloc (.cells #[.int .i64 s.id, .int .i64 s.ep, .slice A s.locs.length C] 42) := ⟨_, rfl⟩
  have hx : Below W.heap.size W W1 := by rw [hW1]; exact (Below.refl _ _).alloc (Nat.le_refl _) _
  have HX := Lib.hid hx
  have HS0 := Lib.hid (show W1.cell? ⟨W.heap.size, 0, none⟩ = some (.int .i64 s.id) by rw [hW1]; exact cells_of W _ _ (i := 0) (by simp))
  have HS1 := Lib.hid (show W1.cell? ⟨W.heap.size, 1, none⟩ = some (.int .i64 s.ep) by rw [hW1]; exact cells_of W _ _ (i := 1) (by simp))
  have HS2 := Lib.hid (show W1.cell? ⟨W.heap.size, 2, none⟩ = some (.slice A s.locs.length C) by rw [hW1]; exact cells_of W _ _ (i := 2) (by simp))
  have HL := Lib.hid (hL.below hx)
  have HI := Lib.hid (hi.below hx)
  have HI0 := Lib.hid i0
  have HI1 := Lib.hid i1
  have HI2 := Lib.hid i2
  obtain ⟨N, hN⟩ : ∃ N, L.length = N := ⟨_, rfl⟩
  have HN := Lib.hid hN
  obtain ⟨B, hB⟩ : ∃ B, W.heap.size = B := ⟨_, rfl⟩
  have HBE := Lib.hid hB
  have HW1 := Lib.hid hW1
  rw [hN] at g1 HL ⊢
  rw [hB] at HS0 HS1 HS2
  clear hL hi i0 i1 i2 hx hN hB hW1
  have HFIN := Lib.hid (fun (w' : World) (h : Below W1.heap.size W1 w') => HX.out.trans (h.mono HX.out.size))
  go_enter Try.func8, Try.ntmps8
  go_wp2_with fail
  rw [← HW1.out, HBE.out]
  refine (smallC L _ _ HL.out).mono ?_
  rintro _ w2 ⟨rfl, hb2⟩
  have HB2 := Lib.hid hb2
  have k2 := below_cell hb2 _ _ HS2.out
  clear hb2
  cases hsm : smalls L
  · clear hsm
    go_wp2_with fail
    refine (answersC I _).mono ?_
    rintro _ w3 ⟨rfl, hb3⟩
    have HB3 := Lib.hid (HFIN.out _ (nxt HB2.out hb3 (Nat.le_refl _)))
    clear hb3
    go_wp2
    go_ret
    exact ⟨rfl, HB3.out⟩
  have HSM := Lib.hid hsm
  clear hsm
  by_cases hM : 20 < s.locs.length
  · have hM' : decide ((20 : Int) < (s.locs.length : Int)) = true := decide_eq_true (by omega)
    clear hM
    go_wp2_with fail
    refine (answersC I _).mono ?_
    rintro _ w3 ⟨rfl, hb3⟩
    have HB3 := Lib.hid (HFIN.out _ (nxt HB2.out hb3 (Nat.le_refl _)))
    clear hb3
    go_wp2
    go_ret
    exact ⟨rfl, HB3.out⟩
  have hM' : decide ((20 : Int) < (s.locs.length : Int)) = false := decide_eq_false (by omega)
  have HMS := Lib.hid (show s.locs.length ≤ 20 by omega)
  clear hM
  go_wp2_with fail
  refine (MineT.new I _ HB2.out 3 2 (.inl ⟨rfl, rfl⟩)).mono ?_
  rintro _ w3 ⟨p, rfl, hm3⟩
  have HM3 := Lib.hid (show MineT PD W1 w3 p (Tb.runT 3 5 L 0) from hm3)
  clear hm3 k2 hM'
  go_wp2_with fail
  go_loopw [6] (fun c wr => ∃ i : Nat, i ≤ N ∧ c = .int .i64 i ∧ MineT PD W1 wr p (Tb.runT 3 5 L i)) (fun c _ => N - (intOf c).toNat)
  case atStart => exact ⟨0, Nat.zero_le _, rfl, HM3.out⟩
  case round =>
    obtain ⟨i, hi, rfl, hm⟩ := hrel
    have HM := Lib.hid hm
    by_cases hlt : i < N
    · have hil : i < L.length := by rw [HN.out]; exact hlt
      obtain ⟨b, o, As, Ao, Ad, Cs, Co, Cd, rfl, c0, c1, c2, c3, c4, c5, c6, hr⟩ := (HL.out.below hm.bel).at hil
      have HR := Lib.hid (show RecV W1 (recVal L[i] As Ao Ad Cs Co Cd) L[i] from by
        obtain ⟨b', o', As', Ao', Ad', Cs', Co', Cd', e', d0, d1, d2, d3, d4, d5, d6, hr'⟩ := HL.out.at hil
        cases e'
        have q4 := ((below_cell hm.bel) _ _ d4).symm.trans c4
        have q5 := ((below_cell hm.bel) _ _ d5).symm.trans c5
        have q6 := ((below_cell hm.bel) _ _ d6).symm.trans c6
        cases q4; cases q5; cases q6
        exact ⟨As, Ao, Ad, Cs, Co, Cd, rfl, hr'⟩)
      have HAP := Lib.hid (hm.apply I (few_run HSM.out (by omega)) L[i] _ (sure_old hm.bel HR.out) (fit_small (small_at HSM.out hil)))
      have HNX := Lib.hid (fun (w' : World) (q : MineT PD W1 w' p (Tb.stepT (Tb.runT 3 5 L i) L[i])) => (show MineT PD W1 w' p (Tb.runT 3 5 L (i + 1)) from Tb.run_succ hil ▸ q))
      obtain ⟨x, hx⟩ : ∃ x, L[i] = x := ⟨_, rfl⟩
      rw [hx] at c0 c1 c2 c3 c4 c5 c6 HAP HNX
      obtain ⟨ee, hee⟩ : ∃ ee : Int, (if (Tb.apply (Tb.runT 3 5 L i) x).isSome = true then 0 else 2) = ee := ⟨_, rfl⟩
      rw [hee] at HAP
      have q1 : (0 : Int) ≤ (i : Int) := by omega
      have q2 : (i : Int) < (N : Int) := by omega
      clear hx hil hr hm HR hee
      go_wp2_with fail
      refine HAP.out.mono ?_
      rintro _ w4 ⟨rfl, hm4⟩
      have HM4 := Lib.hid hm4
      clear hm4 c0 c1 c2 c3 c4 c5 c6
      go_wp2
      go_roundw
      case rel => exact ⟨i + 1, by omega, by go_num, HNX.out _ HM4.out⟩
      case measure => simp [intOf]; omega
    · obtain rfl : i = N := by omega
      have hrun := Tb.run_ok 5 (show (1 : Int) ≤ 3 by decide) (L := L) (i := i) (by rw [HN.out]; omega)
      have HFW := Lib.hid (few_run (k := 3) (n := 5) HSM.out (i := i) (by rw [HN.out]; omega))
      obtain ⟨t0, ht0⟩ : ∃ t0, Tb.runT 3 5 L i = t0 := ⟨_, rfl⟩
      rw [ht0] at hrun HFW
      have HM0 := Lib.hid (ht0 ▸ HM.out)
      have HMV := Lib.hid (Tb.moved hrun.1 s)
      clear hm HM HM3 ht0 hlt hi hrun
      go_wp2_with fail
      refine (MineT.stripesC I HM0.out HFW.out).mono ?_
      rintro _ w5 ⟨VB, rfl, htold, -⟩
      have HT := Lib.hid htold
      clear htold
      go_wp2_with fail
      refine (MineT.keysC I HT.out.mine HFW.out).mono ?_
      rintro _ w6 ⟨VK, rfl, hk, hb6⟩
      have HT6 := Lib.hid (HT.out.below I hb6)
      obtain ⟨AK, CK, rfl, -, -, -⟩ := hk.shape
      rw [List.length_map]
      obtain ⟨NK, hNK⟩ : ∃ n, t0.objs.length = n := ⟨_, rfl⟩
      have HNK := Lib.hid hNK
      rw [hNK]
      obtain ⟨AB, CB, eVB, gB1, gB2, -⟩ := (HT6.out.here).shape
      subst eVB
      obtain ⟨NB, hNB⟩ : ∃ n, (Tb.rowS t0).length = n := ⟨_, rfl⟩
      have HNB := Lib.hid hNB
      rw [hNB] at gB1 HT6 ⊢
      have hbl := HT6.out.mine.bel
      have k0 := below_cell hbl _ _ HS0.out
      have k1 := below_cell hbl _ _ HS1.out
      have k2 := below_cell hbl _ _ HS2.out
      clear hk hb6 hNK hNB hbl HT
      go_wp2_with fail
      have hal : Below w6.heap.size w6 (w6.alloc (.cells #[.int .i64 s.id, .int .i64 s.ep, .slice A s.locs.length C] 42)) := (Below.refl _ _).alloc (Nat.le_refl _) _
      refine (HT6.out.applyAt I hal HFW.out (Tb.moveR s) _ (fun F hF w' ht => ?_) ?_).mono ?_
      · have hb' : Below W1.heap.size W1 w' := (HT6.out.mine.bel.trans (hal.mono HT6.out.mine.bel.size)).trans (ht.below (fun b q => (hF b q).1) (Nat.le_trans HT6.out.mine.bel.size hal.size))
        exact ⟨_, none, none, 1, 0, 0, rfl, stp_alone (fun b q => (hF b q).2) ht (HI.out.below hb') HI0.out HI1.out HI2.out, Cells.nil _ _ _, Ints.nil _, (show I64 3 by unfold I64; decide), (show I64 0 by unfold I64; decide), (show I64 0 by unfold I64; decide), (show KeyOk ⟨#[]⟩ by unfold KeyOk; decide), (show LenOk 1 by unfold LenOk; decide), (show LenOk 0 by unfold LenOk; decide), (show LenOk 0 by unfold LenOk; decide)⟩
      · have hM := HMS.out
        refine ⟨by show 1 + 0 + 0 ≤ 1000; omega, ?_⟩
        show 1 + 0 + 0 + locsSum [s] + objSum [] ≤ 10000
        have e : locsSum [s] = s.locs.length := by simp [locsSum]
        rw [e]
        show 1 + 0 + 0 + s.locs.length + 0 ≤ 10000
        omega
      rintro _ w8 ⟨rfl, hm8, hB8⟩
      have hmvl := HMV.out
      obtain ⟨ee, hee⟩ : ∃ ee : Int, (if (Tb.apply t0 (Tb.moveR s)).isSome = true then 0 else 2) = ee := ⟨_, rfl⟩
      rw [hee] at hmvl ⊢
      obtain ⟨t1, ht1⟩ : ∃ t1, Tb.stepT t0 (Tb.moveR s) = t1 := ⟨_, rfl⟩
      rw [ht1] at hm8 hmvl
      have HM8 := Lib.hid hm8
      have HB8 := Lib.hid hB8
      have HMV1 := Lib.hid hmvl
      have HF1 := Lib.hid (show Few t1 from by unfold Few; rw [hmvl.objs]; exact HFW.out)
      clear hal hm8 hB8 hee ht1 hmvl HMV k0 k1 k2
      go_wp2_with fail
      refine (MineT.stripesC I HM8.out HF1.out).mono ?_
      rintro _ w9 ⟨VA, rfl, htold, hb9⟩
      have HT9 := Lib.hid htold
      obtain ⟨AA, CA, eVA, gA1, gA2, -⟩ := (htold.here).shape
      subst eVA
      rw [HMV1.out.len, HNB.out] at gA1 HT9 ⊢
      have HB9 := Lib.hid (HB8.out.below hb9)
      clear htold hb9
      have hn0 : (NB != NB) = false := by simp
      go_wp2_with fail
      refine (MineT.keysC I HT9.out.mine HF1.out).mono ?_
      rintro _ w10 ⟨VK2, rfl, hk, hb10⟩
      have HT10 := Lib.hid (HT9.out.below I hb10)
      have HB10 := Lib.hid (HB9.out.below hb10)
      obtain ⟨AK2, CK2, rfl, -, -, -⟩ := hk.shape
      rw [List.length_map, HMV1.out.objs, HNK.out]
      have hbl := HT10.out.mine.bel
      have k0 := below_cell hbl _ _ HS0.out
      have k1 := below_cell hbl _ _ HS1.out
      have k2 := below_cell hbl _ _ HS2.out
      clear hk hb10 hbl hn0
      go_wp2_with fail
      go_loopw [11, 12] (fun d c wr => ∃ i o : Nat, i ≤ NB ∧ c = .int .i64 i ∧ d = .int .i64 o ∧ (o = 0 ∨ (o = 1 ∧ ∃ j, ∃ hj : j < (Tb.rowS t1).length, j < i ∧ (Tb.rowS t1)[j].id = s.id)) ∧ ∃ n, wr = w10.drewN n) (fun _ c _ => NB - (intOf c).toNat)
      case atStart => exact ⟨0, 0, Nat.zero_le _, rfl, rfl, .inl rfl, 0, rfl⟩
      case round =>
        obtain ⟨j, o, hj, rfl, rfl, hodd, n, rfl⟩ := hrel
        have HODD := Lib.hid hodd
        by_cases hlt : j < NB
        · have hjB : j < (Tb.rowS t0).length := by rw [HNB.out]; exact hlt
          have hjA : j < (Tb.rowS t1).length := by rw [HMV1.out.len, HNB.out]; exact hlt
          obtain ⟨bB, oB, fB, DB, eB, -⟩ := HB10.out.at hjB
          obtain ⟨bA, oA, fA, DA, eA, a0, -⟩ := HT10.out.here.at hjA
          subst eB
          subst eA
          have HSC := Lib.hid (fun m => Rec.stripesC _ _ _ _ (w10.drewN m) ((Stps.one HB10.out hjB (by omega) gB2).drewN m) ((Stps.one HT10.out.here hjA (by omega) gA2).drewN m))
          have HPA := Lib.hid (HMV1.out.part j hjB hjA)
          have HONE := Lib.hid (fun i' (hi' : i' < (Tb.rowS t1).length) (q : i' < j) => HMV1.out.one i' j hi' hjA q)
          obtain ⟨xB, hxB⟩ : ∃ x, (Tb.rowS t0)[j] = x := ⟨_, rfl⟩
          obtain ⟨xA, hxA⟩ : ∃ x, (Tb.rowS t1)[j] = x := ⟨_, rfl⟩
          have HXA := Lib.hid hxA
          rw [hxA] at a0
          rw [hxB, hxA] at HSC HPA
          clear hxA hxB
          have q1 : (0 : Int) ≤ (j : Int) := by omega
          have q2 : (j : Int) < (NB : Int) := by omega
          have q3 : IntKind.i64.wrap ((j : Int) + 1) = (j : Int) + 1 := IntWalk.i64_in _ (by omega)
          have q4 : (0 : Int) ≤ (j : Int) + 1 := by omega
          have q5 : ((j : Int) + 1).toNat = j + 1 := by omega
          have q6 : (0 : Int) ≤ (o : Int) + 1 := by omega
          have ho1 : (o : Int) ≤ 1 := by rcases hodd with q | q <;> omega
          cases heq : Rec.eqB [xB] [xA]
          · rw [heq] at HSC
            have hne : ¬ xB = xA := fun e => by rw [e, Rec.eqB_yes rfl] at heq; cases heq
            obtain ⟨he0, hid⟩ := HPA.out hne
            have HID := Lib.hid hid
            subst he0
            have ho0 : o = 0 := by
              rcases hodd with q | ⟨-, i', hi', hij, q⟩
              · exact q
              · exact absurd (q.trans (hid.symm.trans (congrArg StpD.id HXA.out.symm))) (HONE.out i' hi' hij)
            subst ho0
            rw [hid] at a0
            have e1 : (s.id != s.id) = false := by simp
            clear heq hne hodd hid HPA HONE ho1
            go_wp2_with fail
            go_quiet ((go_at_call 20; exact quiet_at (HSC.out _)))
            go_wp2_with fail
            clear q3 q5
            go_quiet (fail)
            go_wp2_with fail
            go_roundw
            case rel => exact ⟨j + 1, 1, by omega, by go_num, rfl, .inr ⟨rfl, j, hjA, by omega, by rw [HXA.out]; exact HID.out⟩, _, rfl⟩
            case measure => simp [intOf]; omega
          · rw [heq] at HSC
            clear heq hodd
            go_wp2_with fail
            go_quiet ((go_at_call 20; exact quiet_at (HSC.out _)))
            clear q3 q5
            go_wp2_with fail
            go_roundw
            case rel => exact ⟨j + 1, o, by omega, by go_num, rfl, HODD.out.imp id (fun q => ⟨q.1, by obtain ⟨i', hi', h1, h2⟩ := q.2; exact ⟨i', hi', by omega, h2⟩⟩), _, rfl⟩
            case measure => simp [intOf]; omega
        · obtain rfl : j = NB := by omega
          have ho1 : o ≤ 1 := by rcases hodd with q | q <;> omega
          have ho2 : decide ((o : Int) ≤ 1) = true := decide_eq_true (by omega)
          have HMD := Lib.hid (HT10.out.mine.below I (below_drewN _ _ n))
          have HTH := Lib.hid HMV1.out.there
          have b0 := below_cell (below_drewN w10.heap.size w10 n) _ _ k0
          have b1 := below_cell (below_drewN w10.heap.size w10 n) _ _ k1
          have b2 := below_cell (below_drewN w10.heap.size w10 n) _ _ k2
          obtain ⟨wq, hwq⟩ : ∃ wq, w10.drewN n = wq := ⟨_, rfl⟩
          rw [hwq] at HMD b0 b1 b2 ⊢
          clear hodd hlt HODD hwq k0 k1 k2
          go_wp2_with fail
          refine (MineT.stripeC I HMD.out HF1.out s.id HI0.out).mono ?_
          rintro _ w11 ⟨VS, rfl, hvs, hb11⟩
          have HM11 := Lib.hid (HMD.out.below I hb11)
          have d0 := below_cell hb11 _ _ b0
          have d1 := below_cell hb11 _ _ b1
          have d2 := below_cell hb11 _ _ b2
          rcases HTH.out with rfl | ⟨rfl, hst⟩
          · obtain ⟨AS, CS, rfl, -, -, -, -⟩ := hvs
            obtain ⟨yes, hyes⟩ : ∃ y, (Tb.stripe t1 s.id).isSome = y := ⟨_, rfl⟩
            rw [hyes]
            clear hb11 hyes b0 b1 b2
            go_wp2_with fail
            refine (answersC I _).mono ?_
            rintro _ w12 ⟨rfl, hb12⟩
            have HB12 := Lib.hid (HFIN.out _ (nxt HM11.out.bel ((((Below.refl _ _).alloc (Nat.le_refl _) _).trans (hb12.mono (by simp))) : Below w11.heap.size w11 w12) (Nat.le_refl _)))
            clear hb12
            go_wp2
            go_ret
            exact ⟨rfl, HB12.out⟩
          · rw [hst] at hvs ⊢
            rw [show (some s).isSome = true from rfl]
            have hvs : StpIs w11 VS s := hvs
            obtain ⟨AS, CS, rfl, hvs, j0, j1, j2⟩ := hvs
            have HVS := Lib.hid (show Ints w11 (.slice AS s.locs.length CS) s.locs from hvs)
            clear hvs hb11 b0 b1 b2 hst j0 j1 j2
            go_wp2_with fail
            refine (answersC I _).mono ?_
            rintro _ w12 ⟨rfl, hb12⟩
            have hal : Below w11.heap.size w11 (w11.alloc (.cells #[.int .i64 s.id, .int .i64 s.ep, .slice AS s.locs.length CS] 42)) := (Below.refl _ _).alloc (Nat.le_refl _) _
            have hb112 : Below w11.heap.size w11 w12 := hal.trans (hb12.mono hal.size)
            have e0 := below_cell hb112 _ _ d0
            have e1 := below_cell hb112 _ _ d1
            have e2 := below_cell hb112 _ _ d2
            have y0 := below_cell hb12 _ _ (cells_of w11 #[.int .i64 s.id, .int .i64 s.ep, .slice AS s.locs.length CS] 42 (i := 0) (by simp))
            have y1 := below_cell hb12 _ _ (cells_of w11 #[.int .i64 s.id, .int .i64 s.ep, .slice AS s.locs.length CS] 42 (i := 1) (by simp))
            have y2 := below_cell hb12 _ _ (cells_of w11 #[.int .i64 s.id, .int .i64 s.ep, .slice AS s.locs.length CS] 42 (i := 2) (by simp))
            have HV12 := Lib.hid (HVS.out.below hb112)
            have HI12 := Lib.hid (HI.out.below (nxt HM11.out.bel hb112 (Nat.le_refl _)))
            have HB12 := Lib.hid (nxt HM11.out.bel hb112 (Nat.le_refl _))
            have hBl : B < w12.heap.size := World.block_lt_of_cell? _ _ e0
            clear hb12 hb112 hal d0 d1 d2
            go_wp2_with fail
            have ha1 : Below w12.heap.size w12 (w12.alloc (.cells #[.int .i64 s.id, .int .i64 s.ep, .slice AS s.locs.length CS] 42)) := (Below.refl _ _).alloc (Nat.le_refl _) _
            have ha2 : Below (w12.heap.size + 1) (w12.alloc (.cells #[.int .i64 s.id, .int .i64 s.ep, .slice AS s.locs.length CS] 42)) ((w12.alloc (.cells #[.int .i64 s.id, .int .i64 s.ep, .slice AS s.locs.length CS] 42)).alloc (.cells #[.int .i64 s.id, .int .i64 s.ep, .slice A s.locs.length C] 42)) := (Below.refl _ _).alloc (by simp) _
            have hst1 : Stps ((w12.alloc (.cells #[.int .i64 s.id, .int .i64 s.ep, .slice AS s.locs.length CS] 42)).alloc (.cells #[.int .i64 s.id, .int .i64 s.ep, .slice A s.locs.length C] 42)) (.slice (some ⟨w12.heap.size, 0, none⟩) 1 1) [s] :=
              stp_alone (F := fun _ => False) (fun b q => q.elim) (Turned.of_below _ ((Below.refl _ _).alloc (Nat.le_refl _) _)) (HV12.out.below (ha1.trans (ha2.mono (by omega)))) HI0.out HI1.out HI2.out
            have hst2 := stp_alone (w := w12.alloc (.cells #[.int .i64 s.id, .int .i64 s.ep, .slice AS s.locs.length CS] 42)) (T := 42) (F := fun _ => False) (A := A) (C := C) (s := s) (fun b q => q.elim) (Turned.refl _ _) (HI12.out.below (ha1.trans (ha2.mono (by omega)))) HI0.out HI1.out HI2.out
            rw [show (w12.alloc (.cells #[.int .i64 s.id, .int .i64 s.ep, .slice AS s.locs.length CS] 42)).heap.size = w12.heap.size + 1 by simp] at hst2
            have HC := Lib.hid (Rec.stripesC _ _ _ _ _ hst1 hst2)
            rw [Rec.eqB_yes rfl] at HC
            have HBZ := Lib.hid (nxt HB12.out (ha1.trans (ha2.mono (by omega))) (Nat.le_refl _))
            clear ha1 ha2 hst1 hst2
            refine HC.out.mono ?_
            rintro _ w13 ⟨rfl, nz, rfl⟩
            go_wp2
            go_ret
            exact ⟨rfl, HFIN.out _ (HBZ.out.trans (below_drewN _ _ _))⟩
end Go.Proofs.Ytlgdchflegflkaa.Tbl
