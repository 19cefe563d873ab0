/- Clients' calls and what they were answered, as plain data: what one more step makes of them. No program is named here. -/
import Derived.Test.YtcljpniknpgmpaaHsOn
namespace Hs
set_option linter.unusedVariables false
open Go Go.Mem
structure StepD where
  kind : Int
  a : Int
  key : ByteArray
  data : List Nat
  keep : Int
structure AnsD where
  e : Int
  task : Int
  done : Bool
  mark : Int
  data : List Nat
  keys : List ByteArray
structure CallD where
  task : Int
  op : Int
  key : ByteArray
  data : List Nat
  fr : Int
  to : Int
  mo : Int
  e : Int
  out : List Nat
  keys : List ByteArray
/-- ended: of which calls no more is to come -/
structure St where
  mom : Nat
  calls : List CallD
  ended : Nat → Bool
def zero : St := ⟨0, [], fun _ => false⟩
def fresh (m : Nat) (x : StepD) (t : Int) : CallD := ⟨t, x.a, x.key, x.data, m, 0, 0, 0, [], []⟩
def seen (m : Nat) (a : AnsD) (c : CallD) : CallD := if a.mark = 0 then c else ⟨c.task, c.op, c.key, c.data, c.fr, c.to, m, c.e, c.out, c.keys⟩
def over (m : Nat) (a : AnsD) (c : CallD) : CallD := ⟨c.task, c.op, c.key, c.data, c.fr, m, c.mo, a.e, a.data, a.keys⟩
def touch (m : Nat) (a : AnsD) (c : CallD) : CallD := if a.done = true then over m a (seen m a c) else seen m a c
theorem seen_task (m : Nat) (a : AnsD) (c : CallD) : (seen m a c).task = c.task := by unfold seen; split <;> rfl
theorem touch_task (m : Nat) (a : AnsD) (c : CallD) : (touch m a c).task = c.task := by
  unfold touch over
  split <;> simp [seen_task]
def noCall : CallD := ⟨0, 0, ⟨#[]⟩, [], 0, 0, 0, 0, [], []⟩
namespace St
variable (s : St)
def of (t : Int) (k : Nat) : Bool := match s.calls[k]? with | some c => decide (c.task = t) | none => false
/-- call k is task t's, and may still end -/
def is (t : Int) (k : Nat) : Bool := s.of t k && !s.ended k
def find (t : Int) : Option Nat := (List.range s.calls.length).find? (s.is t)
def Uniq : Prop := ∀ t i j, s.is t i = true → s.is t j = true → i = j
def tick : St := ⟨s.mom + 1, s.calls, s.ended⟩
def mark (t : Int) : Nat → Bool := fun k => s.ended k || s.of t k
def start (x : StepD) (t : Int) : St := ⟨s.mom, s.calls ++ [fresh s.mom x t], fun k => if k = s.calls.length then false else s.mark t k⟩
def hit (k : Nat) (a : AnsD) : St := ⟨s.mom, s.calls.set k (touch s.mom a (s.calls.getD k noCall)), fun j => if j = k ∧ a.done = true then true else s.ended j⟩
def run (t : Int) (a : AnsD) : St := match s.find t with | some k => s.hit k a | none => s
def crash : St := ⟨s.mom, s.calls, fun _ => true⟩
def add (x : StepD) (a : AnsD) : St :=
  if x.kind = 1 then (if a.e = 0 then s.tick.start x a.task else s.tick) else if x.kind = 2 then s.tick.run x.a a else if x.kind = 8 then s.tick.crash else s.tick
variable {s}
theorem of_lt {t : Int} {k : Nat} (h : s.of t k = true) : k < s.calls.length := by
  unfold of at h
  split at h
  · rename_i q; exact (List.getElem?_eq_some_iff.1 q).1
  · cases h
theorem is_lt {t : Int} {k : Nat} (h : s.is t k = true) : k < s.calls.length := by
  unfold is at h
  rw [Bool.and_eq_true] at h
  exact of_lt h.1
theorem of_at {t : Int} {k : Nat} (hk : k < s.calls.length) : s.of t k = decide (s.calls[k].task = t) := by
  unfold of
  rw [List.getElem?_eq_getElem hk]
theorem of_out {t : Int} {k : Nat} (hk : s.calls.length ≤ k) : s.of t k = false := by
  unfold of
  rw [List.getElem?_eq_none hk]
theorem is_iff {t : Int} {k : Nat} : s.is t k = true ↔ s.of t k = true ∧ s.ended k = false := by unfold is; simp
theorem find_is {t : Int} {k : Nat} (h : s.find t = some k) : s.is t k = true := by
  unfold find at h
  exact List.find?_some h
theorem find_eq (u : s.Uniq) {t : Int} {k : Nat} (h : s.is t k = true) : s.find t = some k := by
  cases e : s.find t with
  | none =>
    unfold find at e
    rw [List.find?_eq_none] at e
    exact absurd h (e k (List.mem_range.2 (is_lt h)))
  | some j => rw [u t j k (find_is e) h]
theorem find_no {t : Int} (h : ∀ k, k < s.calls.length → s.is t k = false) : s.find t = none := by
  unfold find
  rw [List.find?_eq_none]
  intro k hk
  rw [h k (List.mem_range.1 hk)]
  simp
theorem no_find {t : Int} (h : s.find t = none) (k : Nat) : s.is t k = false := by
  cases e : s.is t k with
  | false => rfl
  | true =>
    unfold find at h
    rw [List.find?_eq_none] at h
    exact absurd e (h k (List.mem_range.2 (is_lt e)))
/-- what is found hangs on which calls may end alone -/
theorem find_congr {s' : St} (u : s.Uniq) (u' : s'.Uniq) {t : Int} (h : ∀ k, s'.is t k = s.is t k) : s'.find t = s.find t := by
  cases e : s.find t with
  | none => exact find_no fun k _ => by rw [h k]; exact no_find e k
  | some k => exact find_eq u' (by rw [h k]; exact find_is e)
theorem zero_uniq : zero.Uniq := fun t i j h => absurd (is_lt h) (by simp [zero])
theorem zero_find (t : Int) : zero.find t = none := rfl
theorem tick_uniq (u : s.Uniq) : s.tick.Uniq := u
theorem tick_find (t : Int) : s.tick.find t = s.find t := rfl
theorem start_of {x : StepD} {t t' : Int} {k : Nat} : (s.start x t).of t' k = if k = s.calls.length then decide (t = t') else s.of t' k := by
  unfold of start
  dsimp only
  by_cases e : k = s.calls.length
  · subst e; rw [if_pos rfl]; simp [fresh]
  · rw [if_neg e]
    by_cases hlt : k < s.calls.length
    · rw [List.getElem?_append_left hlt]
    · rw [List.getElem?_eq_none (by simp; omega), List.getElem?_eq_none (by omega)]
theorem start_is {x : StepD} {t t' : Int} {k : Nat} : (s.start x t).is t' k = if k = s.calls.length then decide (t = t') else (s.is t' k && !s.of t k) := by
  unfold is
  rw [start_of]
  by_cases e : k = s.calls.length
  · rw [if_pos e, if_pos e]; simp [start, e]
  · rw [if_neg e, if_neg e]
    simp only [start, if_neg e, mark]
    cases s.of t' k <;> cases s.ended k <;> cases s.of t k <;> rfl
theorem of_two {t t' : Int} {k : Nat} (h : s.of t k = true) (h' : s.of t' k = true) : t = t' := by
  have hk := of_lt h
  rw [of_at hk] at h h'
  exact (of_decide_eq_true h).symm.trans (of_decide_eq_true h')
theorem start_uniq (u : s.Uniq) (x : StepD) (t : Int) : (s.start x t).Uniq := fun t' i j hi hj => by
  rw [start_is] at hi hj
  by_cases ei : i = s.calls.length
  · by_cases ej : j = s.calls.length
    · rw [ei, ej]
    · rw [if_pos ei] at hi
      rw [if_neg ej] at hj
      have e := of_decide_eq_true hi
      subst e
      rw [Bool.and_eq_true, is_iff] at hj
      rw [hj.1.1] at hj
      simp at hj
  · by_cases ej : j = s.calls.length
    · rw [if_neg ei] at hi
      rw [if_pos ej] at hj
      have e := of_decide_eq_true hj
      subst e
      rw [Bool.and_eq_true, is_iff] at hi
      rw [hi.1.1] at hi
      simp at hi
    · rw [if_neg ei, Bool.and_eq_true] at hi
      rw [if_neg ej, Bool.and_eq_true] at hj
      exact u t' i j hi.1 hj.1
theorem start_find (u : s.Uniq) (x : StepD) (t t' : Int) : (s.start x t).find t' = if t' = t then some s.calls.length else s.find t' := by
  by_cases e : t' = t
  · subst e
    rw [if_pos rfl]
    exact find_eq (start_uniq u x t') (by rw [start_is, if_pos rfl]; simp)
  · rw [if_neg e]
    refine find_congr u (start_uniq u x t) fun k => ?_
    rw [start_is]
    by_cases ek : k = s.calls.length
    · subst ek
      have h0 : s.is t' s.calls.length = false := by
        unfold is
        rw [of_out (Nat.le_refl _)]
        rfl
      rw [if_pos rfl, h0]
      exact decide_eq_false fun q => e q.symm
    · rw [if_neg ek]
      cases h : s.is t' k with
      | false => rfl
      | true =>
        have h1 := (is_iff.1 h).1
        cases h2 : s.of t k with
        | false => rfl
        | true => exact absurd (of_two h1 h2) e
theorem hit_of {k j : Nat} {a : AnsD} {t : Int} : (s.hit k a).of t j = s.of t j := by
  by_cases hj : j < s.calls.length
  · have hj' : j < (s.calls.set k (touch s.mom a (s.calls.getD k noCall))).length := by simpa using hj
    have e : (s.calls.set k (touch s.mom a (s.calls.getD k noCall)))[j].task = s.calls[j].task := by
      by_cases e : j = k
      · subst e
        rw [List.getElem_set_self, touch_task, List.getD_eq_getElem?_getD, List.getElem?_eq_getElem hj]
        rfl
      · rw [List.getElem_set_ne (fun q => e q.symm)]
    rw [of_at (s := s.hit k a) hj', of_at hj]
    exact decide_eq_decide.2 (by rw [← e]; exact Iff.rfl)
  · rw [of_out (by simp [hit]; omega), of_out (by omega)]
theorem hit_is {k j : Nat} {a : AnsD} {t : Int} : (s.hit k a).is t j = if j = k ∧ a.done = true then false else s.is t j := by
  unfold is
  rw [hit_of]
  simp only [hit]
  by_cases e : j = k ∧ a.done = true
  · rw [if_pos e, if_pos e]; simp
  · rw [if_neg e, if_neg e]
theorem hit_uniq (u : s.Uniq) (k : Nat) (a : AnsD) : (s.hit k a).Uniq := fun t i j hi hj => by
  rw [hit_is] at hi hj
  by_cases ei : i = k ∧ a.done = true
  · rw [if_pos ei] at hi; cases hi
  · by_cases ej : j = k ∧ a.done = true
    · rw [if_pos ej] at hj; cases hj
    · rw [if_neg ei] at hi
      rw [if_neg ej] at hj
      exact u t i j hi hj
/-- call k is another one, of the same task -/
def put (s : St) (k : Nat) (y : CallD) : St := ⟨s.mom, s.calls.set k y, s.ended⟩
theorem put_of {k j : Nat} {y : CallD} {t : Int} (hk : k < s.calls.length) (hy : y.task = s.calls[k].task) : (s.put k y).of t j = s.of t j := by
  by_cases hj : j < s.calls.length
  · have hj' : j < (s.calls.set k y).length := by simpa using hj
    have e : (s.calls.set k y)[j].task = s.calls[j].task := by
      by_cases e : j = k
      · subst e
        rw [List.getElem_set_self, hy]
      · rw [List.getElem_set_ne (fun q => e q.symm)]
    rw [of_at (s := s.put k y) hj', of_at hj]
    exact decide_eq_decide.2 (by rw [← e]; exact Iff.rfl)
  · rw [of_out (by simp [put]; omega), of_out (by omega)]
theorem put_is {k j : Nat} {y : CallD} {t : Int} (hk : k < s.calls.length) (hy : y.task = s.calls[k].task) : (s.put k y).is t j = s.is t j := by
  unfold is
  rw [put_of hk hy]
  rfl
theorem put_uniq (u : s.Uniq) {k : Nat} {y : CallD} (hk : k < s.calls.length) (hy : y.task = s.calls[k].task) : (s.put k y).Uniq := fun t i j hi hj => by
  rw [put_is hk hy] at hi hj
  exact u t i j hi hj
theorem put_find (u : s.Uniq) {k : Nat} {y : CallD} (hk : k < s.calls.length) (hy : y.task = s.calls[k].task) (t : Int) : (s.put k y).find t = s.find t := find_congr u (put_uniq u hk hy) fun _ => put_is hk hy
theorem put_put (k : Nat) (y z : CallD) : (s.put k y).put k z = s.put k z := by unfold put; simp
theorem put_at {k : Nat} {y : CallD} (hk : k < s.calls.length) : ∃ h : k < (s.put k y).calls.length, (s.put k y).calls[k] = y := ⟨by simpa [put] using hk, by simp [put]⟩
theorem put_self {k : Nat} (hk : k < s.calls.length) : s.put k s.calls[k] = s := by unfold put; simp
theorem getD_at {k : Nat} (hk : k < s.calls.length) : s.calls.getD k noCall = s.calls[k] := by
  rw [List.getD_eq_getElem?_getD, List.getElem?_eq_getElem hk]
  rfl
theorem hit_no {k : Nat} {a : AnsD} (hk : k < s.calls.length) (hd : a.done = false) : s.hit k a = s.put k (seen s.mom a s.calls[k]) := by
  unfold hit put touch
  rw [getD_at hk, hd]
  simp
theorem hit_calls {k : Nat} {a : AnsD} (hk : k < s.calls.length) (hd : a.done = true) : (s.hit k a).calls = (s.put k (over s.mom a (seen s.mom a s.calls[k]))).calls := by
  unfold hit put touch
  rw [getD_at hk, hd]
  simp
theorem run_uniq (u : s.Uniq) (t : Int) (a : AnsD) : (s.run t a).Uniq := by
  unfold run
  split
  · exact hit_uniq u _ _
  · exact u
theorem hit_find (u : s.Uniq) {k : Nat} {t : Int} (hk : s.find t = some k) (a : AnsD) (t' : Int) : (s.hit k a).find t' = if t' = t ∧ a.done = true then none else s.find t' := by
  by_cases e : t' = t ∧ a.done = true
  · rw [if_pos e]
    obtain ⟨rfl, hd⟩ := e
    refine find_no fun j _ => ?_
    rw [hit_is]
    by_cases ej : j = k ∧ a.done = true
    · rw [if_pos ej]
    · rw [if_neg ej]
      cases h : s.is t' j with
      | false => rfl
      | true => exact absurd ⟨u _ _ _ h (find_is hk), hd⟩ ej
  · rw [if_neg e]
    refine find_congr u (hit_uniq u k a) fun j => ?_
    rw [hit_is]
    by_cases ej : j = k ∧ a.done = true
    · rw [if_pos ej]
      cases h : s.is t' j with
      | false => rfl
      | true =>
        obtain ⟨rfl, hd⟩ := ej
        exact absurd ⟨of_two (is_iff.1 h).1 (is_iff.1 (find_is hk)).1, hd⟩ e
    · rw [if_neg ej]
theorem crash_uniq : s.crash.Uniq := fun t i j hi => by
  have := (is_iff.1 hi).2
  simp [crash] at this
theorem crash_find (t : Int) : s.crash.find t = none := find_no fun k _ => by simp [is, crash]
theorem add_uniq (u : s.Uniq) (x : StepD) (a : AnsD) : (s.add x a).Uniq := by
  unfold add
  split
  · split
    · exact start_uniq (tick_uniq u) _ _
    · exact tick_uniq u
  · split
    · exact run_uniq (tick_uniq u) _ _
    · split
      · exact crash_uniq
      · exact tick_uniq u
theorem run_len (t : Int) (a : AnsD) : (s.run t a).calls.length = s.calls.length := by
  unfold run
  split
  · simp [hit]
  · rfl
theorem add_len (x : StepD) (a : AnsD) : (s.add x a).calls.length ≤ s.calls.length + 1 := by
  unfold add
  split
  · split
    · simp [start, tick]
    · simp [tick]
  · split
    · rw [run_len]; simp [tick]
    · split <;> simp [crash, tick]
theorem run_mom (t : Int) (a : AnsD) : (s.run t a).mom = s.mom := by
  unfold run
  split <;> rfl
theorem add_mom (x : StepD) (a : AnsD) : (s.add x a).mom = s.mom + 1 := by
  unfold add
  split
  · split <;> rfl
  · split
    · rw [run_mom]; rfl
    · split <;> rfl
end St
end Hs
