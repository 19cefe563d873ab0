/- The document's reader that asks whether two slices hold the same bytes. -/
import Derived.Test.YtkibnpienbchaaaRows
import Derived.Test.YtkibnpienbchaaaMem
import Derived.Deep.QuietTactic
import Derived.BigQuiet
namespace Go.Proofs.Ytkibnpienbchaaa.Same
open Go.ChangeShapes Go.WideShapes Go.ChangeAt Go.RowKit
open Go.Mem
def sameB (l m : List Nat) : Bool := decide (l = m)
def Agree (l m : List Nat) (k : Nat) : Prop := ∀ i (h : i < l.length) (h' : i < m.length), i < k → l[i] = m[i]
theorem Agree.succ {l m : List Nat} {k : Nat} (h : Agree l m k) (hk : k < l.length) (hk' : k < m.length) (h1 : l[k] = m[k]) : Agree l m (k + 1) := fun i hi hi' hlt => by
  by_cases e : i = k
  · subst e; exact h1
  · exact h i hi hi' (by omega)
theorem sameB_yes {l m : List Nat} (h0 : l.length = m.length) (h : Agree l m l.length) : sameB l m = true :=
  decide_eq_true (List.ext_getElem h0 fun i hi hi' => h i hi hi' hi)
theorem sameB_no {l m : List Nat} {k : Nat} (hk : k < l.length) (hk' : k < m.length) (h : ¬ l[k] = m[k]) : sameB l m = false :=
  decide_eq_false fun e => h (by subst e; rfl)
set_option maxHeartbeats 400000 in
theorem sameC (l m : List Nat) (v u : Value) (w : World) (h : Bytes w v l) (g : Bytes w u m) :
    Calls Try.prog 8 #[v, u] w fun e w' => e = .returned (.bool (sameB l m)) ∧ ∃ n, w' = w.drewN n := by
  obtain ⟨A, C, rfl, h1, h2, _⟩ := h.shape
  obtain ⟨A1, C1, rfl, g1, g2, _⟩ := g.shape
  by_cases hl : l.length = m.length
  · have hq : ((l.length : Int) != (m.length : Int)) = false := by rw [hl]; simp
    have HL := Lib.hid hl; clear hl
    go_enter Try.func8, Try.ntmps8
    go_wp2
    go_loopw [5] (fun c wr => ∃ k : Nat, k ≤ l.length ∧ Agree l m k ∧ c = .int .i64 k ∧ ∃ n, wr = w.drewN n) (fun c _ => l.length - (intOf c).toNat)
    case atStart => exact ⟨0, Nat.zero_le _, fun i _ _ hi => absurd hi (by omega), rfl, 0, rfl⟩
    case round =>
      obtain ⟨k, hk, hu, rfl, n, rfl⟩ := hrel
      by_cases hlt : k < l.length
      · have hlt' : k < m.length := by have := HL.out; omega
        obtain ⟨b, o, rfl, hc, hm⟩ := h.at hlt
        obtain ⟨b0, o0, rfl, hc0, hm0⟩ := g.at hlt'
        by_cases hr : l[k] = m[k]
        · have HU := Lib.hid (hu.succ hlt hlt' hr)
          have hq : ((l[k] : Int) != (m[k] : Int)) = false := by rw [hr]; simp
          clear hr
          go_wp2
          go_quiet (fail)
          go_wp2
          go_roundw
          case rel => exact ⟨k + 1, by omega, HU.out, by go_num, _, rfl⟩
          case measure => simp [intOf]; omega
        · have HN := Lib.hid (sameB_no hlt hlt' hr)
          have hq : ((l[k] : Int) != (m[k] : Int)) = true := by rw [bne_iff_ne]; omega
          clear hr
          go_wp2
          go_quiet (fail)
          go_wp2
          go_ret
          exact ⟨ret_bool HN.out.symm, quiets _ _ _⟩
      · obtain rfl : k = l.length := by omega
        have HY := Lib.hid (sameB_yes HL.out hu)
        go_wp2
        go_ret
        exact ⟨ret_bool HY.out.symm, _, rfl⟩
  · have HN := Lib.hid (show sameB l m = false from decide_eq_false fun e => hl (by rw [e]))
    have hq : ((l.length : Int) != (m.length : Int)) = true := by rw [bne_iff_ne]; omega
    clear hl
    go_enter Try.func8, Try.ntmps8
    go_wp2
    go_ret
    exact ⟨ret_bool HN.out.symm, 0, rfl⟩
end Go.Proofs.Ytkibnpienbchaaa.Same
