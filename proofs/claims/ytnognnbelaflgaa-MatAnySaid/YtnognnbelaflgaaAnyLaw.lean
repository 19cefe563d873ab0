/- Law MatAny as a walk: any k rows of a code can be undone. -/
import Derived.Test.YtnognnbelaflgaaMatLaws
import Derived.Test.YtnognnbelaflgaaInvMath
namespace Go.Proofs.Ytnognnbelaflgaa.Mat
open Go.ChangeShapes Go.WideShapes Go.ChangeAt Go.RowKit
open Go.Mem
open GfPlain Gf GfLin
/-- all lists of k rows of these, in their order -/
def subs : Nat → List (List Nat) → List (List (List Nat))
  | 0, _ => [[]]
  | _ + 1, [] => []
  | k + 1, x :: xs => (subs k xs).map (x :: ·) ++ subs (k + 1) xs
theorem subs_skip (y : List Nat) : ∀ {k : Nat} {xs l : List (List Nat)}, l ∈ subs k xs → l ∈ subs k (xs ++ [y])
  | 0, xs, l, h => by cases xs <;> exact h
  | k + 1, [], l, h => by cases h
  | k + 1, x :: xs, l, h => by
    rw [subs, List.mem_append] at h
    show l ∈ subs (k + 1) (x :: (xs ++ [y]))
    rw [subs, List.mem_append]
    rcases h with h | h
    · left
      obtain ⟨l', h', rfl⟩ := List.mem_map.1 h
      exact List.mem_map.2 ⟨l', subs_skip y h', rfl⟩
    · right; exact subs_skip y h
theorem subs_take (y : List Nat) : ∀ {k : Nat} {xs l : List (List Nat)}, l ∈ subs k xs → l ++ [y] ∈ subs (k + 1) (xs ++ [y])
  | 0, [], l, h => by
    have : l = [] := by simpa [subs] using h
    subst this; simp [subs]
  | 0, x :: xs, l, h => by
    have : l = [] := by simpa [subs] using h
    subst this
    show [] ++ [y] ∈ subs 1 (x :: (xs ++ [y]))
    rw [subs, List.mem_append]; right
    exact subs_take y (k := 0) (xs := xs) (l := []) (by simp [subs])
  | k + 1, [], l, h => by cases h
  | k + 1, x :: xs, l, h => by
    rw [subs, List.mem_append] at h
    show l ++ [y] ∈ subs (k + 2) (x :: (xs ++ [y]))
    rw [subs, List.mem_append]
    rcases h with h | h
    · left
      obtain ⟨l', h', rfl⟩ := List.mem_map.1 h
      exact List.mem_map.2 ⟨l' ++ [y], subs_take y h', rfl⟩
    · right; exact subs_take y h
theorem subs_len : ∀ {k : Nat} {xs l : List (List Nat)}, l ∈ subs k xs → l.length = k
  | 0, xs, l, h => by
    have : l = [] := by cases xs <;> simpa [subs] using h
    subst this; rfl
  | k + 1, [], l, h => by cases h
  | k + 1, x :: xs, l, h => by
    rw [subs, List.mem_append] at h
    rcases h with h | h
    · obtain ⟨l', h', rfl⟩ := List.mem_map.1 h
      rw [List.length_cons, subs_len h']
    · exact subs_len h
theorem subs_mem : ∀ {k : Nat} {xs l : List (List Nat)}, l ∈ subs k xs → ∀ r ∈ l, r ∈ xs
  | 0, xs, l, h, r, hr => by
    have : l = [] := by cases xs <;> simpa [subs] using h
    subst this; cases hr
  | k + 1, [], l, h, r, hr => by cases h
  | k + 1, x :: xs, l, h, r, hr => by
    rw [subs, List.mem_append] at h
    rcases h with h | h
    · obtain ⟨l', h', rfl⟩ := List.mem_map.1 h
      rcases List.mem_cons.1 hr with e | e
      · exact List.mem_cons.2 (.inl e)
      · exact List.mem_cons.2 (.inr (subs_mem h' r e))
    · exact List.mem_cons.2 (.inr (subs_mem h r hr))
/-- any k rows of a code of k and m have a determinant -/
def codesOk : Bool := allLt (fun k => allLt (fun m => (subs (k + 1) (codeT (k + 1) m)).all (fun l => !Nat.beq (detM l).val 0)) 4) 4
set_option maxRecDepth 100000 in
theorem codes_ok : codesOk = true := by decide +kernel
theorem code_det {K M : Nat} (hK0 : 1 ≤ K) (hK : K ≤ 4) (hM : M ≤ 3) {l : List (List Nat)} (h : l ∈ subs K (codeT K M)) : detM l ≠ g0 := by
  have h1 := allLt_spec (allLt_spec codes_ok (K - 1) (by omega)) M (by omega)
  rw [show K - 1 + 1 = K by omega, List.all_eq_true] at h1
  have h2 := h1 l h
  intro e
  rw [e] at h2
  cases h2
theorem Bytes.since {w0 w : World} {v : Value} {l : List Nat} {r : Option Nat} (h : Bytes w0 v l) (hb : Below w0.heap.size w0 w) (hr : ∀ g, r = some g → w0.heap.size ≤ g) : ∀ w', w.grownBy w' r → Bytes w' v l :=
  fun _ hg => h.below (hb.grown hg hb.size hr)
theorem codeT_len (K M : Nat) : (codeT K M).length = K + M := by simp [codeT, unitT, tabOf_len]
set_option maxHeartbeats 2000000 in
theorem MatAnyC (k m p : Int) (lk : 0 ≤ k) (uk : k ≤ 255) (lm : 0 ≤ m) (um : m ≤ 255) (w : World) :
    Calls Try.prog 6 #[.int .u8 k, .int .u8 m, .int .u8 p] w fun e w' => e = .returned (.bool true) ∧ Below w.heap.size w w' := by
  obtain ⟨K, hK⟩ : ∃ K : Nat, k % 4 + 1 = (K : Int) := ⟨(k % 4 + 1).toNat, by omega⟩
  obtain ⟨M, hM⟩ : ∃ M : Nat, m % 4 = (M : Int) := ⟨(m % 4).toNat, by omega⟩
  have hK1 : 1 ≤ K ∧ K ≤ 4 := by omega
  have hM1 : M ≤ 3 := by omega
  obtain ⟨hK0, hK4⟩ := hK1
  go_enter Try.func6, Try.ntmps6
  go_wp2_with fail
  refine (codeC K M _ hK0 hK4 hM1).mono ?_; rintro e w1 ⟨v1, rfl, ht1, hb1⟩
  obtain ⟨A, C, rfl, h1, h2, _⟩ := ht1.shape
  rw [codeT_len] at h1 ⊢
  go_wp2_with fail
  go_loopw [10, 11] (fun u c wr => ∃ i R, i ≤ K + M ∧ c = .int .i64 (i : Nat) ∧ Built Bytes wr w1.heap.size 28 u R ∧ R ∈ subs R.length ((codeT K M).take i) ∧ R.length ≤ K ∧ K ≤ R.length + (K + M - i) ∧ Below w1.heap.size w1 wr) (fun _ c _ => K + M - (intOf c).toNat)
  case atStart => exact ⟨0, [], Nat.zero_le _, rfl, Built.start _ _ _, by simp [subs], Nat.zero_le _, by simp, Below.refl _ _⟩
  case round =>
    obtain ⟨i, R, hi, rfl, hbu, hsub, hR, hRK, hbr⟩ := hrel
    by_cases hlt : i < K + M
    · have hli : i < (codeT K M).length := by rw [codeT_len]; exact hlt
      obtain ⟨b, o, A', C', rfl, hc0, hm0, hbk⟩ := ht1.at hli
      have hc := below_cell hbr _ _ hc0
      have hlow := fun g hg => (hbu.own_lt g hg).1
      have HB := Lib.hid hbu
      obtain ⟨A5, C5, e0, hl1, hl2⟩ := hbu.len
      subst e0
      have HR := Lib.hid (Bytes.since (r := (Value.slice A5 R.length C5).ownBlock) hbk hbr hlow)
      have ht : (codeT K M).take (i + 1) = (codeT K M).take i ++ [(codeT K M)[i]] := by rw [List.take_succ_eq_append_getElem hli]
      have HST := Lib.hid (show R ++ [(codeT K M)[i]] ∈ subs (R ++ [(codeT K M)[i]]).length ((codeT K M).take (i + 1)) by rw [ht, List.length_append]; exact subs_take _ hsub)
      have HSS := Lib.hid (show R ∈ subs R.length ((codeT K M).take (i + 1)) by rw [ht]; exact subs_skip _ hsub)
      clear hsub ht hbu hlow
      by_cases hfull : R.length < K
      · go_wp2_with (at_builtin; refine wpList_append_built (R := Bytes) _ rfl (.tmp 56) (.tmp 61) 22 rfl w1.heap.size 28 (.slice none 0 0) 24 Try.underlying22 infoRow rfl _ _ rfl HB.out _ _ _ rfl rfl rfl HR.out (by omega) hbr.size ?_; intro v' w' hbu' hg' hb')
        all_goals first
          | (go_roundw
             case rel => exact ⟨i + 1, R ++ [(codeT K M)[i]], by omega, by go_num, hbu', HST.out, by simp; omega, by simp; omega, hbr.trans hb'⟩
             case measure => simp [intOf]; omega)
          | (go_roundw
             case rel => exact ⟨i + 1, R, by omega, by go_num, HB.out, HSS.out, hR, by omega, hbr⟩
             case measure => simp [intOf]; omega)
      · go_wp2
        go_roundw
        case rel => exact ⟨i + 1, R, by omega, by go_num, HB.out, HSS.out, hR, by omega, hbr⟩
        case measure => simp [intOf]; omega
    · obtain rfl : i = K + M := by omega
      obtain rfl : R.length = K := by omega
      rw [List.take_of_length_le (by rw [codeT_len]; exact Nat.le_refl _)] at hsub
      have hbb := hbu.slice
      obtain ⟨A5, C5, e0, hl1, hl2⟩ := hbu.len
      subst e0
      have hdet := code_det hK0 hK4 hM1 hsub
      have hlen : ∀ r ∈ R, r.length = R.length := fun r hr => by
        have := subs_mem hsub r hr
        unfold codeT unitT at this
        rcases List.mem_append.1 this with h | h <;> (obtain ⟨j, _, rfl⟩ := List.mem_map.1 h; simp)
      have hbyt := Tab_bd hbb
      have h0 : 0 < R.length := by omega
      have hwid : width R = R.length := by rw [width_get h0]; exact hlen _ (List.getElem_mem h0)
      have hfit : fitB R = true := fitB_yes h0 fun j hj _ => by rw [hwid]; exact hlen _ (List.getElem_mem hj)
      have hsq : ∀ r, r < R.length → (R.getD r []).length = R.length := fun r hr => by rw [show R.getD r [] = R[r] by simp [hr]]; exact hlen _ (List.getElem_mem hr)
      have HD := Lib.hid hdet
      have HSQ := Lib.hid hsq
      have HF := Lib.hid hfit
      have HW := Lib.hid hwid
      have HLE := Lib.hid (show R.length ≤ 7 by omega)
      clear hdet hlen hsq hfit hwid hsub hbu
      go_wp2_with fail
      refine (invertGo R _ _ hbb HF.out HW.out HLE.out).mono ?_
      rintro e w2 ⟨hb2, hp2⟩
      rcases hp2 with ⟨_, q, F, hq, hRe, hz⟩ | ⟨v2, F, rfl, _, ht2⟩
      · exact absurd (inv_stuck hbyt HSQ.out hq hRe hz) HD.out
      · have hb12 := hb1.trans (hbr.mono hb1.size)
        have hb13 := hb12.trans (hb2.mono hb12.size)
        clear ht2
        go_wp2_with fail
        refine (answersC _).mono ?_; rintro e w3 ⟨rfl, hb3⟩
        have hb14 := hb13.trans (hb3.mono hb13.size)
        go_wp2
        go_ret
        exact ⟨rfl, hb14⟩
end Go.Proofs.Ytnognnbelaflgaa.Mat
