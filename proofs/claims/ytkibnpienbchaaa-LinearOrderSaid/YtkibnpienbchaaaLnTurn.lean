/- LinearOrder, behind its loop: parts of a row of calls; the calls in another order; one that is none. -/
import Derived.Test.YtkibnpienbchaaaLnOrd
namespace Go.Proofs.Ytkibnpienbchaaa.Lnr
set_option linter.unusedVariables false
open Go.ChangeShapes Go.WideShapes Go.ChangeAt Go.RowKit
open Go.Mem Ln
theorem step_append_run {P : Program} (w w' : World) (v' : Value) {ops : Array Oper} {o : Oper} {a : Act} {K : Act → World → Prop} {Q : Exit → Act → World → Prop} {E : Prop} (hgd : o.guard = none) (s x : Operand) (t tn : TypeId)
    (ho : o.op = .call { callee := .builtin .append, args := #[s, x], argTypes := #[t, tn] }) (vs vx : Value) (hs : a.eval s = vs) (hx : a.eval x = vx) (hr : (Builtin.append_ #[t, tn] o.type #[vs, vx]).run P w = .ok v' w') (h : K (a.put o.dst v') w') :
    if Region.wanted o (yielded ops a.tmps) = true then Oper.wp P o a w K Q else E := by
  rw [if_pos (show Region.wanted o (yielded ops a.tmps) = true by simp [Region.wanted, hgd])]
  exact Lib.wp_append_run w s x t tn ho vs vx hs hx v' w' hr h
theorem sizeCall (w : World) : (sizeOf TCall).run Try.prog w = .ok 10 w := by kernel_rfl
/-- list[r:] -/
theorem calls_from {g N C r : Nat} (hr : r < N) (hC : N ≤ C) :
    (∀ w, (Instr.slice 24 (.slice (some ⟨g, 0, none⟩) N C) (some (.int .i64 (r : Nat))) none none).run Try.prog w = .ok (.slice (some ⟨g, r * 10, none⟩) (N - r) (C - r)) w) ∧
      ∀ w L, Cls w (.slice (some ⟨g, 0, none⟩) N C) L → Cls w (.slice (some ⟨g, r * 10, none⟩) (N - r) (C - r)) (L.drop r) := by
  refine ⟨fun w => ?_, fun w L h => ?_⟩
  · rw [run_slice_l w 24 (some ⟨g, 0, none⟩) N C Try.underlying24 .i64 (r : Nat) (by omega) (by omega)]
    rw [show Try.prog.elem 24 = TCall from rfl, sizeCall]
    simp only [Result.andThen, sliced, Int.toNat_natCast]
    rw [if_neg (by omega)]
    by_cases h0 : r = 0
    · subst h0; simp [Addr.add]
    · simp [Addr.add]
      omega
  · obtain ⟨A1, n1, C1, e1, e2, e3, e4, e5, e6⟩ := h
    cases e1
    refine ⟨_, N - r, C - r, rfl, by rw [List.length_drop]; omega, by omega, by omega, (fun q => by cases q), fun i hi => ?_⟩
    have hi' : r + i < L.length := by rw [List.length_drop] at hi; omega
    obtain ⟨b, o, f, k1, k2, k3⟩ := e6 (r + i) hi'
    cases k1
    refine ⟨g, r * 10, f, rfl, fun j hj => ?_, by rw [List.getElem_drop]; exact k3⟩
    have := k2 j hj
    rwa [show 0 + (r + i) * 10 + j = r * 10 + i * 10 + j by omega] at this
/-- list[:r] -/
theorem calls_to {g N C r : Nat} (hr : r < N) (hC : N ≤ C) :
    (∀ w, (Instr.slice 24 (.slice (some ⟨g, 0, none⟩) N C) none (some (.int .i64 (r : Nat))) none).run Try.prog w = .ok (.slice (some ⟨g, 0, none⟩) r C) w) ∧
      ∀ w L, Cls w (.slice (some ⟨g, 0, none⟩) N C) L → Cls w (.slice (some ⟨g, 0, none⟩) r C) (L.take r) := by
  refine ⟨fun w => ?_, fun w L h => ?_⟩
  · rw [run_slice_h w 24 (some ⟨g, 0, none⟩) N C Try.underlying24 .i64 (r : Nat) (by omega) (by omega)]
    rw [show Try.prog.elem 24 = TCall from rfl, sizeCall]
    simp only [Result.andThen, sliced, Int.toNat_natCast]
    rw [if_neg (by omega)]
    simp [Addr.add]
  · obtain ⟨A1, n1, C1, e1, e2, e3, e4, e5, e6⟩ := h
    cases e1
    refine ⟨_, r, C, rfl, by rw [List.length_take]; omega, by omega, e4, (fun q => by cases q), fun i hi => ?_⟩
    have hi' : i < L.length := by rw [List.length_take] at hi; omega
    obtain ⟨b, o, f, k1, k2, k3⟩ := e6 i hi'
    cases k1
    exact ⟨g, 0, f, rfl, k2, by rw [List.getElem_take]; exact k3⟩
theorem tim_ord {L : List Cl} (h : ∀ j (hj : j < L.length), Tim j L[j]) : Ln.Ord L := by
  unfold Ln.Ord
  rw [List.pairwise_iff_getElem]
  intro i j hi hj hij
  rw [(h i hi).2.1, (h j hj).2.1]
  omega
theorem tim_dones {L : List Cl} (h : ∀ j (hj : j < L.length), Tim j L[j]) : dones L = L := dones_all fun c hc => by
  obtain ⟨j, hj, rfl⟩ := List.getElem_of_mem hc
  rw [(h j hj).2.1]
  omega
/-- one call ends ahead of its beginning -/
def oddOf (x : Cl) : Cl := { x with fr := x.mo + 1 }
theorem odd_in (x : Cl) : inIt (oddOf x) = false := by
  unfold inIt oddOf
  have : ¬ x.mo + 1 ≤ x.mo := by omega
  simp [this]
theorem set_mo {L : List Cl} {j : Nat} (hj : j < L.length) (i : Nat) (hi : i < (L.set j (oddOf L[j])).length) (hi' : i < L.length) : (L.set j (oddOf L[j]))[i].mo = L[i].mo := by
  by_cases e : i = j
  · subst e
    rw [List.getElem_set_self]; rfl
  · rw [List.getElem_set_ne (Ne.symm e)]
/-- what the law asks of Check, of such calls -/
theorem check_all {w w' : World} {L M : List Cl} {V : Value} (ht : ∀ j (hj : j < L.length), Tim j L[j]) (hg : goes noMap L = true) (hp : M.Perm L) (hl : L.length ≤ 20) (hP : ∀ x ∈ L, ClP w x) (hb : Below w.heap.size w w') (hV : Cls w' V M) :
    Calls Try.prog 7 #[V] w' fun e w'' => e = .returned (.bool true) ∧ Below w'.heap.size w' w'' := by
  have hd : dones M = M := dones_all fun c hc => by
    obtain ⟨j, hj, rfl⟩ := List.getElem_of_mem (hp.mem_iff.1 hc)
    rw [(ht j hj).2.1]
    omega
  have := checkC hV (by rw [hp.length_eq]; omega) (S := L) (tim_ord ht) (by rw [hd]; exact hp) hl (fun x hx => (hP x hx).below hb)
  rw [hg] at this
  exact this
theorem check_odd {w w' : World} {L : List Cl} {V : Value} {j : Nat} (hj : j < L.length) (ht : ∀ j (hj : j < L.length), Tim j L[j]) (hl : L.length ≤ 20) (hP : ∀ x ∈ L, ClP w x) (hb : Below w.heap.size w w') (hV : Cls w' V (L.set j (oddOf L[j]))) :
    Calls Try.prog 7 #[V] w' fun e w'' => e = .returned (.bool false) ∧ Below w'.heap.size w' w'' := by
  have hlen : (L.set j (oddOf L[j])).length = L.length := List.length_set
  have hd : dones (L.set j (oddOf L[j])) = L.set j (oddOf L[j]) := dones_all fun c hc => by
    obtain ⟨i, hi, rfl⟩ := List.getElem_of_mem hc
    rw [set_mo hj i hi (by omega), (ht i (by omega)).2.1]
    omega
  have ho : Ln.Ord (L.set j (oddOf L[j])) := by
    unfold Ln.Ord
    rw [List.pairwise_iff_getElem]
    intro a b ha hb' hab
    rw [set_mo hj a ha (by omega), set_mo hj b hb' (by omega), (ht a (by omega)).2.1, (ht b (by omega)).2.1]
    omega
  have := checkC hV (by rw [hlen]; omega) (S := L.set j (oddOf L[j])) ho (by rw [hd]) (by rw [hlen]; exact hl) (fun x hx => by
    rcases List.mem_or_eq_of_mem_set hx with q | q
    · exact (hP x q).below hb
    · have hq := (hP L[j] (List.getElem_mem hj)).below hb
      subst q
      exact ⟨⟨hq.ok.data, hq.ok.out, hq.ok.i0, hq.ok.i1, (by show I64 (L[j].mo + 1); rw [(ht j hj).2.1]; exact i64c (by omega)), hq.ok.i5, hq.ok.i6, hq.ok.i7⟩, hq.key, hq.op⟩)
  rw [goes_bad (List.mem_set hj _) (odd_in L[j])] at this
  exact this
end Go.Proofs.Ytkibnpienbchaaa.Lnr
