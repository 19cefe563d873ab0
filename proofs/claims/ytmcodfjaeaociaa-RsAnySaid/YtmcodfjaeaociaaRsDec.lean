/- rs.Decode: up to its loop -/
import Derived.Test.YtmcodfjaeaociaaRsEnc
namespace Go.Proofs.Ytmcodfjaeaociaa.Rs
open Go.RowKit Go.Shelf
open Go.Mem Mat
attribute [local go_sem] Oper.semAt_some
def RightTo (S : List (List Nat)) (k : Nat) : Prop := ∀ i (h : i < S.length), i < k → rightB S[i] = true
def WrongAt (S : List (List Nat)) (r : Int) : Prop := (r = -1 ∧ RightTo S S.length) ∨ ∃ (i : Nat) (h : i < S.length), r = i ∧ rightB S[i] = false
set_option maxHeartbeats 400000 in
theorem wrongIndexC (S : List (List Nat)) (v : Value) (w : World) (h : Tab w v S) :
    Calls Try.prog 34 #[v, .func (.func 21) #[] #[]] w fun e w' => ∃ r : Int, e = .returned (.int .i64 r) ∧ WrongAt S r ∧ w = w' := by
  obtain ⟨A, C, rfl, h1, h2, _⟩ := h.shape
  go_enter Try.func34, Try.ntmps34
  go_wp2
  go_loop [8] (fun c => ∃ k : Nat, k ≤ S.length ∧ RightTo S k ∧ c = .int .i64 k) (fun c => S.length - (intOf c).toNat)
  case atStart => exact ⟨0, Nat.zero_le _, fun i _ hi => absurd hi (by omega), rfl⟩
  case round =>
    obtain ⟨k, hk, hu, rfl⟩ := hrel
    by_cases hlt : k < S.length
    · obtain ⟨b, o, A', C', rfl, hc, hm, hb⟩ := h.at hlt
      cases hr : rightB S[k] with
      | true =>
        have HU := Lib.hid (show RightTo S (k + 1) from fun i hi hik => by
          by_cases e : i = k
          · subst e; exact hr
          · exact hu i hi (by omega))
        go_wp2_with (go_at_call 21; refine (wrongC S[k] _ _ hb).mono ?_; rw [hr]; rintro e w' ⟨rfl, rfl⟩)
        go_round
        case rel => exact ⟨k + 1, by omega, HU.out, by go_num⟩
        case measure => simp [intOf]; omega
      | false =>
        have HN := Lib.hid (show WrongAt S k from .inr ⟨k, hlt, rfl, hr⟩)
        go_wp2_with (go_at_call 21; refine (wrongC S[k] _ _ hb).mono ?_; rw [hr]; rintro e w' ⟨rfl, rfl⟩)
        go_ret
        exact ⟨_, rfl, HN.out, rfl⟩
    · obtain rfl : k = S.length := by omega
      have HY := Lib.hid (show WrongAt S (-1) from .inl ⟨rfl, hu⟩)
      go_wp2
      go_ret
      exact ⟨_, rfl, HY.out, rfl⟩
/-- each is no shard, or one of its length -/
def rightAll (S : List (List Nat)) : Bool := S.all rightB
theorem rightAll_iff {S : List (List Nat)} : rightAll S = true ↔ RightTo S S.length := by
  unfold rightAll RightTo
  rw [List.all_eq_true]
  exact ⟨fun h i hi _ => h _ (List.getElem_mem hi), fun h x hx => by obtain ⟨i, hi, rfl⟩ := List.mem_iff_getElem.1 hx; exact h i hi hi⟩
theorem wrongAnyC (S : List (List Nat)) (v : Value) (w : World) (h : Tab w v S) :
    Calls Try.prog 22 #[v, .func (.func 21) #[] #[]] w fun e w' => e = .returned (.bool (!rightAll S)) ∧ w = w' := by
  obtain ⟨A, C, rfl, h1, h2, _⟩ := h.shape
  cases hr : rightAll S with
  | true =>
    have HR := Lib.hid (rightAll_iff.1 hr)
    go_enter Try.func22, Try.ntmps22
    go_wp2_with (go_at_call 34; refine (wrongIndexC S _ _ h).mono ?_; rintro e w' ⟨r, rfl, hwr, rfl⟩; obtain ⟨rfl, _⟩ | ⟨i, hi, rfl, hf⟩ := hwr)
    · go_ret
      exact ⟨rfl, rfl⟩
    · exact absurd (HR.out i hi hi) (by rw [hf]; simp)
  | false =>
    have HR := Lib.hid (show ¬ RightTo S S.length from fun h => by rw [rightAll_iff.2 h] at hr; cases hr)
    go_enter Try.func22, Try.ntmps22
    go_wp2_with (go_at_call 34; refine (wrongIndexC S _ _ h).mono ?_; rintro e w' ⟨r, rfl, hwr, rfl⟩)
    rcases hwr with ⟨rfl, hy⟩ | ⟨i, hi, rfl, hf⟩
    · exact absurd hy HR.out
    · go_wp2
      go_ret
      exact ⟨rfl, rfl⟩
end Go.Proofs.Ytmcodfjaeaociaa.Rs
