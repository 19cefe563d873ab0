/- A region that draws its order: an operation that reads is taken first as long as a certain other one, which waits for it, has not come up; what it reads may be written over behind that. No program is named here. -/
import Derived.OrdersHeld
import Derived.Deep.RegionHeld3
namespace Go.Mem

section
variable {P : Program} {ops : Array Oper} {Q : Exit → Act → World → Prop} {md : Region.Mode} {T : List Nat} {S : World → Prop}
/-- S holds as long as one of the operations T has not come up -/
def HeldT (T : List Nat) (S : World → Prop) (listed : Array Bool) (w : World) : Prop := (∃ t ∈ T, listed.getD t true = false) → S w
theorem HeldT.of {L : Array Bool} {w : World} (h : S w) : HeldT T S L w := fun _ => h
theorem HeldT.over {L : Array Bool} {w : World} (h : (T.all fun t => L.getD t true) = true) : HeldT T S L w := fun ⟨t, ht, e⟩ => by
  rw [List.all_eq_true] at h
  rw [h t ht] at e
  cases e
theorem HeldT.set {L : Array Bool} {w : World} (h : HeldT T S L w) (i : Nat) : HeldT T S (L.setIfInBounds i true) w := fun ⟨t, ht, e⟩ => h ⟨t, ht, by
  by_cases q : i = t
  · rw [← q] at e
    rcases Nat.lt_or_ge i L.size with h' | h'
    · rw [Array.getD_eq_getD_getElem?, Array.getElem?_setIfInBounds] at e; simp [h'] at e
    · rw [Array.getD_eq_getD_getElem?, Array.getElem?_setIfInBounds] at e; simp [Nat.not_lt.2 h'] at e
  · rw [← e]; exact (getD_set_ne true q).symm⟩
/-- 'wpAny', and that is shown behind each operation -/
def wpAnyT (P : Program) (md : Region.Mode) (ops : Array Oper) (Q : Exit → Act → World → Prop) (T : List Nat) (S : World → Prop) : Nat → Array Bool → Act → World → Prop
  | 0, listed, a, w => Region.ready md ops listed = [] ∧ Q .normal a w
  | fuel + 1, listed, a, w =>
    (Region.ready md ops listed = [] → Q .normal a w) ∧
    ∀ i ∈ Region.ready md ops listed, wpOp P ops Q i (fun a' w' => HeldT T S (listed.setIfInBounds i true) w' ∧ wpAnyT P md ops Q T S fuel (listed.setIfInBounds i true) a' w') a w
theorem wpAny_of_T : ∀ (fuel : Nat) (listed : Array Bool) (a : Act) (w : World), wpAnyT P md ops Q T S fuel listed a w → wpAny P md ops Q fuel listed a w
  | 0, _, _, _, h => h
  | fuel + 1, _, _, _, h => ⟨h.1, fun i hi => wpOp_mono (fun a' w' h' => wpAny_of_T fuel _ a' w' h'.2) (h.2 i hi)⟩
/-- U: what the operation i needs of the world; while it has not come up, it is there -/
theorem wpAnyT_first {U : World → Prop} {i : Nat} {oi : Oper} {v : Value} (hi : ops[i]? = some oi) (hT : ∀ t ∈ T, t ≠ i) (stay : Array Bool → Prop) (hst : ∀ L w, stay L → HeldT T S L w → U w)
    (hnext : ∀ L j oj, ops[j]? = some oj → (∀ e ∈ oj.after, Region.binds md e = true → e.on ≠ i) → stay L → stay (L.setIfInBounds j true))
    (hsel : ∀ (j : Nat) (o : Oper) cs b, ops[j]? = some o → o.op ≠ .select cs b) (hQ : ∀ c a w, Q (.panic c) (a.put oi.dst v) w → Q (.panic c) a w) :
    ∀ (fuel : Nat) (listed : Array Bool) (a : Act) (w : World),
      (∀ j oj, ops[j]? = some oj → j ≠ i → listed.getD j true = false → (∀ e ∈ oj.after, Region.binds md e = true → e.on ≠ i) → oi.apart ops oj = true) →
      i ∈ Region.ready md ops listed → stay listed → YieldsIf P ops U oi v a → HeldT T S listed w →
      wpAnyT P md ops Q T S fuel (listed.setIfInBounds i true) (a.put oi.dst v) w → wpAnyT P md ops Q T S (fuel + 1) listed a w := by
  intro fuel
  induction fuel with
  | zero =>
    intro listed a w _ hr hun hy hU H
    refine ⟨fun h => (by rw [h] at hr; cases hr), fun j hj => ?_⟩
    by_cases hji : j = i
    · subst hji; exact hy.wpOp hi (hst _ _ hun hU) ⟨hU.set _, H⟩
    · have := ready_mono hj hji
      rw [H.1] at this
      cases this
  | succ fuel ih =>
    intro listed a w hfree hr hun hy hU H
    refine ⟨fun h => (by rw [h] at hr; cases hr), fun j hj => ?_⟩
    by_cases hji : j = i
    · subst hji; exact hy.wpOp hi (hst _ _ hun hU) ⟨hU.set _, H⟩
    · have h1 := H.2 j (ready_mono hj hji)
      obtain ⟨hjun, oj, hoj, hall⟩ := mem_ready.1 hj
      have hnot : ∀ e ∈ oj.after, Region.binds md e = true → e.on ≠ i := fun e he hb heq => by
        have h1 := hall e he hb
        have h0 := (mem_ready.1 hr).1
        rw [heq] at h1
        rcases Nat.lt_or_ge i listed.size with h' | h'
        · simp [h'] at h0 h1; rw [h0] at h1; cases h1
        · simp [Array.getElem?_eq_none h'] at h1
      have hun' := hnext listed j oj hoj hnot hun
      have h2 := wpOp_putIf hoj (hfree j oj hoj hji hjun hnot) (fun cs b => hsel i oi cs b hi) (fun cs b => hsel j oj cs b hoj) hQ hy h1
      have hfree' : ∀ k ok, ops[k]? = some ok → k ≠ i → (listed.setIfInBounds j true).getD k true = false →
          (∀ e ∈ ok.after, Region.binds md e = true → e.on ≠ i) → oi.apart ops ok = true := fun k ok hk hki hun2 hno => by
        refine hfree k ok hk hki ?_ hno
        by_cases hjk : j = k
        · subst hjk; exact hjun
        · rw [getD_set_ne true hjk] at hun2; exact hun2
      refine wpOp_mono (fun a' w' h3 => ?_) h2
      have hU' : HeldT T S (listed.setIfInBounds j true) w' := fun ⟨t, ht, e⟩ => h3.2.1 ⟨t, ht, by
        rw [Array.setIfInBounds_comm _ _ (Ne.symm hji), getD_set_ne true (hT t ht).symm]; exact e⟩
      refine ⟨hU', ih (listed.setIfInBounds j true) a' w' hfree' (ready_mono hr (Ne.symm hji)) hun' h3.1 hU' ?_⟩
      rw [Array.setIfInBounds_comm _ _ hji]
      exact h3.2.2
/-- operation s waits for operation i -/
def waitsOn (md : Region.Mode) (ops : Array Oper) (s i : Nat) : Bool := match ops[s]? with | some o => o.after.toList.any (fun e => Region.binds md e && e.on == i) | none => false
/-- a load is taken first: s, one of T, waits for it -/
theorem wpAnyT_load (s : Nat) {i : Nat} {oi : Oper} {v : Value} {fuel : Nat} {listed : Array Bool} {a : Act} {w : World} (hi : ops[i]? = some oi) (hs : Region.noSelect ops = true) (hf : Region.free md ops listed i = true) (hr : (Region.ready md ops listed).contains i = true)
    (hw : (T.contains s && waitsOn md ops s i && (T.all fun t => t != i) && !listed.getD s true) = true) (hQ : ∀ c a w, Q (.panic c) (a.put oi.dst v) w → Q (.panic c) a w) (hy : YieldsIf P ops S oi v a) (hU : HeldT T S listed w)
    (h : wpAnyT P md ops Q T S fuel (listed.setIfInBounds i true) (a.put oi.dst v) w) : wpAnyT P md ops Q T S (fuel + 1) listed a w := by
  simp only [Bool.and_eq_true, Bool.not_eq_true', List.all_eq_true, bne_iff_ne, List.contains_iff_mem] at hw
  obtain ⟨⟨⟨h1, h2⟩, h3⟩, h4⟩ := hw
  unfold waitsOn at h2
  cases ho : ops[s]? with
  | none => rw [ho] at h2; cases h2
  | some os =>
    simp only [ho] at h2
    rw [List.any_eq_true] at h2
    obtain ⟨e, he, hb⟩ := h2
    rw [Bool.and_eq_true, beq_iff_eq] at hb
    refine wpAnyT_first (U := S) hi h3 (fun L => L.getD s true = false) (fun L w q k => k ⟨s, h1, q⟩) (fun L j oj hj hno q => ?_) (Region.noSelect_spec hs) hQ fuel listed a w (Region.free_spec hi hf) (by simpa using hr) h4 hy hU h
    have hjs : j ≠ s := fun e' => by
      subst e'
      rw [ho] at hj
      cases hj
      exact hno e (by rw [← Array.mem_toList_iff]; exact he) hb.1 hb.2
    rw [getD_set_ne true hjs]
    exact q
/-- what looks at no world is taken first -/
theorem wpAnyT_take {i : Nat} {oi : Oper} {v : Value} {fuel : Nat} {listed : Array Bool} {a : Act} {w : World} (hi : ops[i]? = some oi) (hs : Region.noSelect ops = true) (hf : Region.free md ops listed i = true) (hr : (Region.ready md ops listed).contains i = true)
    (hw : (T.all fun t => t != i) = true) (hQ : ∀ c a w, Q (.panic c) (a.put oi.dst v) w → Q (.panic c) a w) (hy : YieldsIf P ops (fun _ => True) oi v a) (hU : HeldT T S listed w)
    (h : wpAnyT P md ops Q T S fuel (listed.setIfInBounds i true) (a.put oi.dst v) w) : wpAnyT P md ops Q T S (fuel + 1) listed a w := by
  simp only [List.all_eq_true, bne_iff_ne] at hw
  exact wpAnyT_first (U := fun _ => True) hi hw (fun _ => True) (fun _ _ _ _ => trivial) (fun _ _ _ _ _ _ => trivial) (Region.noSelect_spec hs) hQ fuel listed a w (Region.free_spec hi hf) (by simpa using hr) trivial hy hU h
/-- each of the operations rs comes up next -/
def AllReadyT (P : Program) (md : Region.Mode) (ops : Array Oper) (Q : Exit → Act → World → Prop) (T : List Nat) (S : World → Prop) (fuel : Nat) (listed : Array Bool) (a : Act) (w : World) (rs : List Nat) : Prop :=
  ∀ i ∈ rs, wpOp P ops Q i (fun a' w' => HeldT T S (listed.setIfInBounds i true) w' ∧ wpAnyT P md ops Q T S fuel (listed.setIfInBounds i true) a' w') a w
theorem AllReadyT.nil {fuel : Nat} {listed : Array Bool} {a : Act} {w : World} : AllReadyT P md ops Q T S fuel listed a w [] := fun _ h => by cases h
theorem AllReadyT.cons {fuel : Nat} {listed : Array Bool} {a : Act} {w : World} {i : Nat} {o : Oper} {rs : List Nat} (ho : ops[i]? = some o)
    (h : ∀ K' : Act → World → Prop, Shut (∀ a w, HeldT T S (listed.setIfInBounds i true) w → (HeldT T S (listed.setIfInBounds i true) w → wpAnyT P md ops Q T S fuel (listed.setIfInBounds i true) a w) → K' a w) → if Region.wanted o (yielded ops a.tmps) = true then Oper.wp P o a w K' Q else K' (a.put o.dst undef) w)
    (hs : AllReadyT P md ops Q T S fuel listed a w rs) : AllReadyT P md ops Q T S fuel listed a w (i :: rs) := fun j hj => by
  rcases List.mem_cons.1 hj with rfl | hj
  · exact wpOp_step ho (fun K' hK => h K' (fun a w hS hW => hK a w ⟨hS, hW hS⟩))
  · exact hs j hj
theorem wpAnyT_ready {rs : List Nat} {fuel : Nat} {listed : Array Bool} {a : Act} {w : World} (hr : Region.ready md ops listed = rs) (hne : rs ≠ [])
    (h : AllReadyT P md ops Q T S fuel listed a w rs) : wpAnyT P md ops Q T S (fuel + 1) listed a w := ⟨fun h0 => absurd (hr ▸ h0) hne, hr ▸ h⟩
theorem wpAnyT_done {listed : Array Bool} {a : Act} {w : World} (hr : Region.ready md ops listed = []) (h : Q .normal a w) : ∀ fuel, wpAnyT P md ops Q T S fuel listed a w
  | 0 => ⟨hr, h⟩
  | _ + 1 => ⟨fun _ => h, by rw [hr]; simp⟩
/-- the beginning -/
theorem wp_region_till {id : Nat} {a : Act} {w : World} (T : List Nat) (S : World → Prop) (hm : P.follows .mixedOrders = true) (hS : S w.drew)
    (h : HeldT T S (Array.replicate ops.size false) w.drew → wpAnyT P .any ops Q T S ops.size (Array.replicate ops.size false) a w.drew) : (Code.region id ops true).wp P Q a w :=
  wp_region_any hm (wpAny_of_T _ _ _ _ (h (HeldT.of hS)))
end
end Go.Mem
