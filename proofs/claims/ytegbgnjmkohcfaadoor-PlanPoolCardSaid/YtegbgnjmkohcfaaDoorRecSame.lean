/- The document's readers that ask whether two records are the same, as walks. -/
import Derived.Test.YtegbgnjmkohcfaaDoorRows
import Derived.Test.YtegbgnjmkohcfaaDoorRecD
import Derived.Deep.QuietTactic
import Derived.BigQuiet
import Derived.WalkSpells
import Derived.Lib.Strings
import Derived.WideShapes
namespace Go.Proofs.YtegbgnjmkohcfaaDoor.Rec
set_option linter.unusedVariables false
open Go.ChangeShapes Go.WideShapes Go.ChangeAt Go.RowKit
open Go.Mem
noncomputable def eqB {α : Type} (a b : α) : Bool := @decide (a = b) (Classical.propDecidable _)
theorem eqB_yes {α : Type} {a b : α} (h : a = b) : eqB a b = true := by unfold eqB; simp [h]
theorem eqB_no {α : Type} {a b : α} (h : ¬ a = b) : eqB a b = false := by unfold eqB; simp [h]
/-- the first k are the same -/
def AgreeF {α : Type} (l m : List α) (k : Nat) : Prop := ∀ i (h : i < l.length) (h' : i < m.length), i < k → l[i] = m[i]
theorem AgreeF.succ {α : Type} {l m : List α} {k : Nat} (h : AgreeF l m k) (hk : k < l.length) (hk' : k < m.length) (h1 : l[k] = m[k]) : AgreeF l m (k + 1) := fun i hi hi' hlt => by
  by_cases e : i = k
  · subst e; exact h1
  · exact h i hi hi' (by omega)
theorem agree_yes {α : Type} {l m : List α} (h0 : l.length = m.length) (h : AgreeF l m l.length) : eqB l m = true :=
  eqB_yes (List.ext_getElem h0 fun i hi hi' => h i hi hi' hi)
theorem agree_no {α : Type} {l m : List α} {k : Nat} (hk : k < l.length) (hk' : k < m.length) (h : ¬ l[k] = m[k]) : eqB l m = false :=
  eqB_no fun e => h (by subst e; rfl)
theorem agree_len {α : Type} {l m : List α} (h : ¬ l.length = m.length) : eqB l m = false := eqB_no fun e => h (by rw [e])
theorem ne_int {a b : Int} (h : ¬ a = b) : (a != b) = true := by rw [bne_iff_ne]; exact h
theorem eq_int {a b : Int} (h : a = b) : (a != b) = false := by rw [h]; simp
set_option maxHeartbeats 400000 in
theorem intsC (l m : List Int) (v u : Value) (w : World) (h : Ints w v l) (g : Ints w u m) :
    Calls Tryd.prog 11 #[v, u] w fun e w' => e = .returned (.bool (eqB l m)) ∧ ∃ n, w' = w.drewN n := by
  obtain ⟨A, C, rfl, h1, h2, -⟩ := h.shape
  obtain ⟨A1, C1, rfl, g1, g2, -⟩ := g.shape
  by_cases hl : l.length = m.length
  · have hq : ((l.length : Int) != (m.length : Int)) = false := by rw [hl]; simp
    have HL := Lib.hid hl; clear hl
    go_enter Tryd.func11, Tryd.ntmps11
    go_wp2
    go_loopw [5] (fun c wr => ∃ k : Nat, k ≤ l.length ∧ AgreeF l m k ∧ c = .int .i64 k ∧ ∃ n, wr = w.drewN n) (fun c _ => l.length - (intOf c).toNat)
    case atStart => exact ⟨0, Nat.zero_le _, fun i _ _ hi => absurd hi (by omega), rfl, 0, rfl⟩
    case round =>
      obtain ⟨k, hk, hu, rfl, n, rfl⟩ := hrel
      by_cases hlt : k < l.length
      · have hlt' : k < m.length := by have := HL.out; omega
        obtain ⟨b, o, rfl, hc, -⟩ := h.at hlt
        obtain ⟨b0, o0, rfl, hc0, -⟩ := g.at hlt'
        by_cases hr : l[k] = m[k]
        · have HU := Lib.hid (hu.succ hlt hlt' hr)
          have hq := eq_int hr
          clear hr
          go_wp2
          go_quiet (fail)
          go_wp2
          go_roundw
          case rel => exact ⟨k + 1, by omega, HU.out, by go_num, _, rfl⟩
          case measure => simp [intOf]; omega
        · have HN := Lib.hid (agree_no hlt hlt' hr)
          have hq := ne_int hr
          clear hr
          go_wp2
          go_quiet (fail)
          go_wp2
          go_ret
          exact ⟨ret_bool HN.out.symm, quiets _ _ _⟩
      · obtain rfl : k = l.length := by omega
        have HY := Lib.hid (agree_yes HL.out hu)
        go_wp2
        go_ret
        exact ⟨ret_bool HY.out.symm, _, rfl⟩
  · have HN := Lib.hid (agree_len hl)
    have hq : ((l.length : Int) != (m.length : Int)) = true := by rw [bne_iff_ne]; omega
    clear hl
    go_enter Tryd.func11, Tryd.ntmps11
    go_wp2
    go_ret
    exact ⟨ret_bool HN.out.symm, 0, rfl⟩
theorem stp_eq {a b : StpD} (h0 : a.id = b.id) (h1 : a.ep = b.ep) (h2 : a.locs = b.locs) : a = b := by cases a; cases b; simp only at h0 h1 h2; rw [h0, h1, h2]
theorem obj_eq {a b : ObjD} (h0 : a.key = b.key) (h1 : a.id = b.id) (h2 : a.size = b.size) (h3 : a.stripes = b.stripes) : a = b := by cases a; cases b; simp only at h0 h1 h2 h3; rw [h0, h1, h2, h3]
theorem str_same {a b : ByteArray} (h : a = b) : (a.toList == b.toList) = true := by rw [h]; exact beq_self_eq_true _
theorem str_not {a b : ByteArray} (h : ¬ a = b) : (a.toList == b.toList) = false := by
  rw [beq_eq_false_iff_ne]
  intro e
  rw [Lib.toList_data, Lib.toList_data] at e
  exact h (bytes_inj e)
theorem not_t {b : Bool} (h : b = true) : (!b) = false := by rw [h]; rfl
theorem not_f {b : Bool} (h : b = false) : (!b) = true := by rw [h]; rfl
end Go.Proofs.YtegbgnjmkohcfaaDoor.Rec
