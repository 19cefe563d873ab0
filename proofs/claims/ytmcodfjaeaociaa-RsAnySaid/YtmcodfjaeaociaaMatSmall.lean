/- What the small readers of tables return. -/
import Derived.Test.YtmcodfjaeaociaaRows
import Derived.Test.YtmcodfjaeaociaaGfWalk
import Derived.Test.YtmcodfjaeaociaaMem
import Derived.Deep.QuietTactic
import Derived.BigQuiet
namespace Go.Proofs.Ytmcodfjaeaociaa.Mat
open Go.ChangeShapes Go.WideShapes Go.ChangeAt Go.RowKit
open Go.Mem
def smallB (M : List (List Nat)) : Bool := decide (M.length ≤ 12) && M.all (fun r => decide (r.length ≤ 12))
def Upto (M : List (List Nat)) (k : Nat) : Prop := ∀ i (h : i < M.length), i < k → M[i].length ≤ 12
theorem Upto.succ {M : List (List Nat)} {k : Nat} (h : Upto M k) (hk : k < M.length) (h1 : M[k].length ≤ 12) : Upto M (k + 1) := fun i hi hlt => by
  by_cases e : i = k
  · subst e; exact h1
  · exact h i hi (by omega)
theorem smallB_yes {M : List (List Nat)} (h0 : M.length ≤ 12) (h : Upto M M.length) : smallB M = true := by
  unfold smallB; rw [decide_eq_true h0, Bool.true_and, List.all_eq_true]
  intro r hr
  obtain ⟨i, hi, rfl⟩ := List.mem_iff_getElem.1 hr
  exact decide_eq_true (h i hi hi)
theorem smallB_no {M : List (List Nat)} {k : Nat} (hk : k < M.length) (h : ¬ M[k].length ≤ 12) : smallB M = false := by
  unfold smallB
  rw [Bool.and_eq_false_iff]; right
  rw [List.all_eq_false]
  exact ⟨M[k], List.getElem_mem hk, by simpa using h⟩
def width (M : List (List Nat)) : Nat := (M.headD []).length
def fitB (M : List (List Nat)) : Bool := !M.isEmpty && M.all (fun r => r.length == width M)
def Fits (M : List (List Nat)) (k : Nat) : Prop := ∀ i (h : i < M.length), i < k → M[i].length = width M
theorem Fits.succ {M : List (List Nat)} {k : Nat} (h : Fits M k) (hk : k < M.length) (h1 : M[k].length = width M) : Fits M (k + 1) := fun i hi hlt => by
  by_cases e : i = k
  · subst e; exact h1
  · exact h i hi (by omega)
theorem width_get {M : List (List Nat)} (h : 0 < M.length) : width M = M[0].length := by cases M <;> simp [width] at h ⊢
theorem fitB_yes {M : List (List Nat)} (h0 : 0 < M.length) (h : Fits M M.length) : fitB M = true := by
  unfold fitB
  have : M.isEmpty = false := by cases M <;> simp at h0 ⊢
  rw [this, Bool.not_false, Bool.true_and, List.all_eq_true]
  intro r hr
  obtain ⟨i, hi, rfl⟩ := List.mem_iff_getElem.1 hr
  rw [h i hi hi]; exact beq_self_eq_true _
theorem fitB_no {M : List (List Nat)} {k : Nat} (hk : k < M.length) (h : ¬ M[k].length = width M) : fitB M = false := by
  unfold fitB
  rw [Bool.and_eq_false_iff]; right
  rw [List.all_eq_false]
  exact ⟨M[k], List.getElem_mem hk, by simpa using h⟩
theorem fitB_iff {M : List (List Nat)} : fitB M = true ↔ 0 < M.length ∧ Fits M M.length := by
  constructor
  · intro h
    by_cases h0 : 0 < M.length
    · refine ⟨h0, fun i hi _ => Classical.byContradiction fun hn => ?_⟩
      rw [fitB_no hi hn] at h; cases h
    · have : M = [] := List.length_eq_zero_iff.1 (by omega)
      subst this; cases h
  · intro h; exact fitB_yes h.1 h.2
def sameB (l m : List Nat) : Bool := decide (l = m)
def Agree (l m : List Nat) (k : Nat) : Prop := ∀ i (h : i < l.length) (h' : i < m.length), i < k → l[i] = m[i]
theorem Agree.succ {l m : List Nat} {k : Nat} (h : Agree l m k) (hk : k < l.length) (hk' : k < m.length) (h1 : l[k] = m[k]) : Agree l m (k + 1) := fun i hi hi' hlt => by
  by_cases e : i = k
  · subst e; exact h1
  · exact h i hi hi' (by omega)
theorem sameB_yes {l m : List Nat} (h0 : l.length = m.length) (h : Agree l m l.length) : sameB l m = true :=
  decide_eq_true (List.ext_getElem h0 fun i hi hi' => h i hi hi' hi)
theorem sameB_no {l m : List Nat} {k : Nat} (hk : k < l.length) (hk' : k < m.length) (h : ¬ l[k] = m[k]) : sameB l m = false :=
  decide_eq_false fun e => h (by subst e; rfl)
set_option maxHeartbeats 400000 in
theorem sameC (l m : List Nat) (v u : Value) (w : World) (h : Bytes w v l) (g : Bytes w u m) :
    Calls Try.prog 14 #[v, u] w fun e w' => e = .returned (.bool (sameB l m)) ∧ ∃ n, w' = w.drewN n := by
  obtain ⟨A, C, rfl, h1, h2, _⟩ := h.shape
  obtain ⟨A1, C1, rfl, g1, g2, _⟩ := g.shape
  by_cases hl : l.length = m.length
  · have hq : ((l.length : Int) != (m.length : Int)) = false := by rw [hl]; simp
    have HL := Lib.hid hl; clear hl
    go_enter Try.func14, Try.ntmps14
    go_wp2
    go_loopw [5] (fun c wr => ∃ k : Nat, k ≤ l.length ∧ Agree l m k ∧ c = .int .i64 k ∧ ∃ n, wr = w.drewN n) (fun c _ => l.length - (intOf c).toNat)
    case atStart => exact ⟨0, Nat.zero_le _, fun i _ _ hi => absurd hi (by omega), rfl, 0, rfl⟩
    case round =>
      obtain ⟨k, hk, hu, rfl, n, rfl⟩ := hrel
      by_cases hlt : k < l.length
      · have hlt' : k < m.length := by have := HL.out; omega
        obtain ⟨b, o, rfl, hc, hm⟩ := h.at hlt
        obtain ⟨b0, o0, rfl, hc0, hm0⟩ := g.at hlt'
        by_cases hr : l[k] = m[k]
        · have HU := Lib.hid (hu.succ hlt hlt' hr)
          have hq : ((l[k] : Int) != (m[k] : Int)) = false := by rw [hr]; simp
          clear hr
          go_wp2
          go_quiet (fail)
          go_wp2
          go_roundw
          case rel => exact ⟨k + 1, by omega, HU.out, by go_num, _, rfl⟩
          case measure => simp [intOf]; omega
        · have HN := Lib.hid (sameB_no hlt hlt' hr)
          have hq : ((l[k] : Int) != (m[k] : Int)) = true := by rw [bne_iff_ne]; omega
          clear hr
          go_wp2
          go_quiet (fail)
          go_wp2
          go_ret
          exact ⟨ret_bool HN.out.symm, quiets _ _ _⟩
      · obtain rfl : k = l.length := by omega
        have HY := Lib.hid (sameB_yes HL.out hu)
        go_wp2
        go_ret
        exact ⟨ret_bool HY.out.symm, _, rfl⟩
  · have HN := Lib.hid (show sameB l m = false from decide_eq_false fun e => hl (by rw [e]))
    have hq : ((l.length : Int) != (m.length : Int)) = true := by rw [bne_iff_ne]; omega
    clear hl
    go_enter Try.func14, Try.ntmps14
    go_wp2
    go_ret
    exact ⟨ret_bool HN.out.symm, 0, rfl⟩
def rowsB (M L : List (List Nat)) : Bool := decide (M = L)
def AgreeR (l m : List (List Nat)) (k : Nat) : Prop := ∀ i (h : i < l.length) (h' : i < m.length), i < k → l[i] = m[i]
theorem AgreeR.succ {l m : List (List Nat)} {k : Nat} (h : AgreeR l m k) (hk : k < l.length) (hk' : k < m.length) (h1 : l[k] = m[k]) : AgreeR l m (k + 1) := fun i hi hi' hlt => by
  by_cases e : i = k
  · subst e; exact h1
  · exact h i hi hi' (by omega)
theorem rowsB_yes {l m : List (List Nat)} (h0 : l.length = m.length) (h : AgreeR l m l.length) : rowsB l m = true :=
  decide_eq_true (List.ext_getElem h0 fun i hi hi' => h i hi hi' hi)
theorem rowsB_no {l m : List (List Nat)} {k : Nat} (hk : k < l.length) (hk' : k < m.length) (h : ¬ l[k] = m[k]) : rowsB l m = false :=
  decide_eq_false fun e => h (by subst e; rfl)
set_option maxHeartbeats 400000 in
theorem rowsC (l m : List (List Nat)) (v u : Value) (w : World) (h : Tab w v l) (g : Tab w u m) :
    Calls Try.prog 11 #[v, u] w fun e w' => e = .returned (.bool (rowsB l m)) ∧ ∃ n, w' = w.drewN n := by
  obtain ⟨A, C, rfl, h1, h2, _⟩ := h.shape
  obtain ⟨A1, C1, rfl, g1, g2, _⟩ := g.shape
  by_cases hl : l.length = m.length
  · have hq : ((l.length : Int) != (m.length : Int)) = false := by rw [hl]; simp
    have HL := Lib.hid hl; clear hl
    go_enter Try.func11, Try.ntmps11
    go_wp2
    go_loopw [5] (fun c wr => ∃ k : Nat, k ≤ l.length ∧ AgreeR l m k ∧ c = .int .i64 k ∧ ∃ n, wr = w.drewN n) (fun c _ => l.length - (intOf c).toNat)
    case atStart => exact ⟨0, Nat.zero_le _, fun i _ _ hi => absurd hi (by omega), rfl, 0, rfl⟩
    case round =>
      obtain ⟨k, hk, hu, rfl, n, rfl⟩ := hrel
      by_cases hlt : k < l.length
      · have hlt' : k < m.length := by have := HL.out; omega
        obtain ⟨b, o, A', C', rfl, hc, hm, hb⟩ := h.at hlt
        obtain ⟨b0, o0, A0', C0', rfl, hc0, hm0, hb0⟩ := g.at hlt'
        by_cases hr : l[k] = m[k]
        · have HU := Lib.hid (hu.succ hlt hlt' hr)
          have hs : sameB l[k] m[k] = true := decide_eq_true hr
          clear hr
          go_wp2
          go_quiet ((go_at_call 14; exact quiet_at (sameC l[k] m[k] _ _ _ (hb.drewN _) (hb0.drewN _))))
          go_wp2
          go_roundw
          case rel => exact ⟨k + 1, by omega, HU.out, by go_num, _, rfl⟩
          case measure => simp [intOf]; omega
        · have HN := Lib.hid (rowsB_no hlt hlt' hr)
          have hs : sameB l[k] m[k] = false := decide_eq_false hr
          clear hr
          go_wp2
          go_quiet ((go_at_call 14; exact quiet_at (sameC l[k] m[k] _ _ _ (hb.drewN _) (hb0.drewN _))))
          go_wp2
          go_ret
          exact ⟨ret_bool HN.out.symm, quiets _ _ _⟩
      · obtain rfl : k = l.length := by omega
        have HY := Lib.hid (rowsB_yes HL.out hu)
        go_wp2
        go_ret
        exact ⟨ret_bool HY.out.symm, _, rfl⟩
  · have HN := Lib.hid (show rowsB l m = false from decide_eq_false fun e => hl (by rw [e]))
    have hq : ((l.length : Int) != (m.length : Int)) = true := by rw [bne_iff_ne]; omega
    clear hl
    go_enter Try.func11, Try.ntmps11
    go_wp2
    go_ret
    exact ⟨ret_bool HN.out.symm, 0, rfl⟩
end Go.Proofs.Ytmcodfjaeaociaa.Mat
