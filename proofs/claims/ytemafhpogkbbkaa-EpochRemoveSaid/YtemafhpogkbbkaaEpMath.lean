/- Who may be there, plain. No program is named here. -/
import Derived.Test.YtemafhpogkbbkaaRowZ
namespace Ep
open Go Go.Mem
def cnt (l : List Int) : Nat := (l.filter fun x => decide (x = 1)).length
theorem cnt_le (l : List Int) : cnt l ≤ l.length := List.length_filter_le _ _
theorem cnt_app (l m : List Int) : cnt (l ++ m) = cnt l + cnt m := by unfold cnt; rw [List.filter_append, List.length_append]
theorem cnt_one (x : Int) : cnt [x] = if x = 1 then 1 else 0 := by
  unfold cnt
  by_cases h : x = 1 <;> simp [h]
theorem cnt_take {l : List Int} {k : Nat} (h : k < l.length) : cnt (l.take (k + 1)) = cnt (l.take k) + if l[k] = 1 then 1 else 0 := by
  rw [List.take_succ_eq_append_getElem h, cnt_app, cnt_one]
theorem cnt_set {l : List Int} {k : Nat} (h : k < l.length) (hk : l.getD k 0 = 1) {x : Int} (hx : x ≠ 1) : cnt (l.set k x) + 1 = cnt l := by
  have e1 : l = l.take k ++ l[k] :: l.drop (k + 1) := by
    have := List.take_append_drop k l
    rw [List.drop_eq_getElem_cons h] at this
    exact this.symm
  have e2 : l.set k x = l.take k ++ x :: l.drop (k + 1) := by rw [List.set_eq_take_append_cons_drop, if_pos h]
  have hk' : l[k] = 1 := by simpa [List.getD, h] using hk
  rw [e2]
  conv => rhs; rw [e1]
  rw [show l.take k ++ x :: l.drop (k + 1) = l.take k ++ ([x] ++ l.drop (k + 1)) from rfl, show l.take k ++ l[k] :: l.drop (k + 1) = l.take k ++ ([l[k]] ++ l.drop (k + 1)) from rfl]
  simp only [cnt_app, cnt_one, hk', hx, if_true, if_false]
  omega
/-- the state of drive n; gone, if there is none -/
def stAt (l : List Int) (n : Int) : Int := if 0 ≤ n ∧ n < l.length then l.getD n.toNat 0 else 0
theorem stAt_in {l : List Int} {n : Nat} (h : n < l.length) : stAt l n = l.getD n 0 := by unfold stAt; rw [if_pos ⟨by omega, by omega⟩, Int.toNat_natCast]
theorem stAt_out {l : List Int} {n : Int} (h : n < 0 ∨ (l.length : Int) ≤ n) : stAt l n = 0 := by unfold stAt; rw [if_neg (by omega)]
def jnE (l : List Int) : Int := if 12 ≤ l.length then 3 else 0
def jnL (l : List Int) : List Int := if 12 ≤ l.length then [] else l ++ [1]
def drE (l : List Int) (n need : Int) : Int := if stAt l n = 1 then (if (cnt l : Int) - 1 < need then 10 else 0) else 7
def drL (l : List Int) (n need : Int) : List Int := if drE l n need = 0 then l.set n.toNat 2 else []
def rmE (l : List Int) (n : Int) : Int := if stAt l n = 1 then 11 else if stAt l n = 2 then 0 else 7
def rmL (l : List Int) (n : Int) : List Int := if rmE l n = 0 then l.set n.toNat 0 else []
theorem drE_one {l : List Int} {n need : Int} (h : stAt l n = 1) (h2 : need ≤ (cnt l : Int) - 1) : drE l n need = 0 ∧ drL l n need = l.set n.toNat 2 := by
  have e : drE l n need = 0 := by unfold drE; rw [if_pos h, if_neg (by omega)]
  exact ⟨e, by unfold drL; rw [if_pos e]⟩
theorem drE_few {l : List Int} {n need : Int} (h : stAt l n = 1) (h2 : (cnt l : Int) - 1 < need) : drE l n need = 10 ∧ drL l n need = [] := by
  have e : drE l n need = 10 := by unfold drE; rw [if_pos h, if_pos h2]
  exact ⟨e, by unfold drL; rw [e]; rfl⟩
theorem drE_none {l : List Int} {n need : Int} (h : ¬ stAt l n = 1) : drE l n need = 7 ∧ drL l n need = [] := by
  have e : drE l n need = 7 := by unfold drE; rw [if_neg h]
  exact ⟨e, by unfold drL; rw [e]; rfl⟩
theorem rmE_in {l : List Int} {n : Int} (h : stAt l n = 1) : rmE l n = 11 ∧ rmL l n = [] := by
  have e : rmE l n = 11 := by unfold rmE; rw [if_pos h]
  exact ⟨e, by unfold rmL; rw [e]; rfl⟩
theorem rmE_out {l : List Int} {n : Int} (h : stAt l n = 2) : rmE l n = 0 ∧ rmL l n = l.set n.toNat 0 := by
  have e : rmE l n = 0 := by unfold rmE; rw [if_neg (by omega), if_pos h]
  exact ⟨e, by unfold rmL; rw [if_pos e]⟩
theorem rmE_none {l : List Int} {n : Int} (h1 : ¬ stAt l n = 1) (h2 : ¬ stAt l n = 2) : rmE l n = 7 ∧ rmL l n = [] := by
  have e : rmE l n = 7 := by unfold rmE; rw [if_neg h1, if_neg h2]
  exact ⟨e, by unfold rmL; rw [e]; rfl⟩
end Ep
