/- Any text is steps' text, or has a line that is none. -/
import Derived.Test.YtegnheonncoodaaDoorScLw
namespace Go.Proofs.YtegnheonncoodaaDoor.Scr
set_option linter.unusedVariables false
open Go.ChangeShapes Go.WideShapes Go.ChangeAt Go.RowKit
open Go.Mem Sc
theorem count_yes (t : List UInt8) (k : Nat) (h : k < t.length) (h10 : t[k] = 10) : (t.take (k + 1)).count 10 = (t.take k).count 10 + 1 := by
  rw [List.take_succ_eq_append_getElem h, List.count_append, h10]
  rfl
theorem count_no (t : List UInt8) (k : Nat) (h : k < t.length) (h10 : ¬ t[k] = 10) : (t.take (k + 1)).count 10 = (t.take k).count 10 := by
  rw [List.take_succ_eq_append_getElem h, List.count_append, List.count_singleton]
  rw [beq_eq_false_iff_ne.2 h10]
  rfl
theorem small_of_text {t : List UInt8} {L : List SD} (h : textOf L = t) (ht : t.length ≤ 4000) : ∀ i (h : i < L.length), Small L[i] := fun i hi => by
  have e := textOf_snoc L i hi
  have h1 := textOf_le L (i + 1)
  rw [e, h, List.length_append] at h1
  have h2 : (lineOf L[i]).length ≤ 4000 := by omega
  unfold lineOf dig at h2
  simp only [List.length_append, List.length_cons, List.length_nil, hexL_ln] at h2
  exact ⟨by omega, by omega⟩
set_option maxHeartbeats 8000000 in
set_option maxRecDepth 100000 in
theorem readsC (t : List UInt8) (ht : t.length ≤ 140737488355328) (w : World) (hT : Tabs w) : Calls Tryd.prog 4 #[.string (str t)] w fun e w' => e = .returned (.bool true) ∧ Below w.heap.size w w' := by
  have HT := Lib.hid hT
  clear hT
  have hsz : (str t).size = t.length := str_size _
  have hans : ∀ W, Below w.heap.size w W → Calls Tryd.prog 9 #[] W fun e w' => e = .returned (.bool true) ∧ Below w.heap.size w w' ∧ Below W.heap.size W w' := fun W hb => (answersC _ (HT.out.below hb)).mono fun e w' h => ⟨h.1, below_then hb h.2, h.2⟩
  have HA := Lib.hid hans
  clear hans
  go_enter Tryd.func4, Tryd.ntmps4
  by_cases hlen : t.length ≤ 4000
  · have hd : decide ((4000 : Int) < (t.length : Int)) = false := by simp; omega
    go_wp2_with fail
    refine (parseC t (by omega) _ HT.out).mono ?_
    intro e w1 hp
    cases hq : parseL [] (lines t) with
    | ok L =>
      obtain ⟨A, C, rfl, hst, hb1⟩ := parse_ok hp hq
      have HQ := Lib.hid (text_parse hq)
      have HB1 := Lib.hid hb1
      have HV := Lib.hid hst
      clear hp hq hst hb1
      go_wp2_with fail
      refine (HA.out _ HB1.out).mono ?_
      rintro e w2 ⟨rfl, hb2, hk2⟩
      have HB2 := Lib.hid hb2
      have HV2 := Lib.hid (HV.out.below hk2)
      clear hb2 hk2
      go_wp2_with fail
      refine (textC L _ _ HV2.out (small_of_text HQ.out hlen) (by rw [HQ.out]; omega)).mono ?_
      rintro e w3 ⟨rfl, hb3⟩
      rw [HQ.out]
      go_wp2
      go_ret
      exact ⟨by simp, below_then HB2.out hb3⟩
    | bad n =>
      obtain ⟨rfl, hb1⟩ := parse_no hp hq
      have HN := Lib.hid (bad_parse hq)
      have HB1 := Lib.hid hb1
      clear hp hq hb1
      go_wp2
      go_loopw [6, 7] (fun c i wr => ∃ k : Nat, k ≤ t.length ∧ i = .int .i64 k ∧ c = .int .i64 ((t.take k).count 10 : Nat) ∧ wr = w1) (fun _ i _ => t.length - (intOf i).toNat)
      case atStart => exact ⟨0, Nat.zero_le _, rfl, rfl, rfl⟩
      case round =>
        obtain ⟨k, hk, rfl, rfl, rfl⟩ := hrel
        by_cases hlt : k < t.length
        · have HCY := Lib.hid (count_yes t k hlt)
          have HCN := Lib.hid (count_no t k hlt)
          have hcl : (t.take k).count 10 ≤ 4000 := Nat.le_trans List.count_le_length (by rw [List.length_take]; omega)
          generalize (t.take k).count 10 = c at HCY HCN hcl
          have k0 : (0 : Int) ≤ (k : Int) := by omega
          have k1 : (k : Int) < (t.length : Int) := by omega
          have hkk : k < (str t).size := by omega
          have hg : (str t)[k]'hkk = t[k] := rfl
          by_cases h10 : t[k] = 10
          · have hb : ((((str t)[k]'hkk).toNat : Int) == 10) = true := by rw [hg, h10]; rfl
            have HC := Lib.hid (HCY.out h10)
            clear h10 hg
            go_wp2
            go_roundw
            case rel => exact ⟨k + 1, by omega, by go_num, by rw [HC.out]; go_num, trivial⟩
            case measure => simp [intOf]; omega
          · have hb : ((((str t)[k]'hkk).toNat : Int) == 10) = false := by
              rw [hg, beq_eq_false_iff_ne]
              intro q
              exact h10 (UInt8.toNat_inj.1 (by show t[k].toNat = 10; omega))
            have HC := Lib.hid (HCN.out h10)
            clear h10 hg
            go_wp2
            go_roundw
            case rel => exact ⟨k + 1, by omega, by go_num, by rw [HC.out], trivial⟩
            case measure => simp [intOf]; omega
        · obtain rfl : k = t.length := by omega
          rw [List.take_length]
          obtain ⟨hn1, hn2⟩ := HN.out
          have hcl : t.count 10 ≤ 4000 := Nat.le_trans List.count_le_length hlen
          generalize t.count 10 = c at hn2 hcl
          have hw : IntKind.i64.wrap ((c : Int) + 1) = (c : Int) + 1 := IntWalk.i64_in _ (by omega)
          have hd1 : decide ((1 : Int) ≤ (n : Int)) = true := by simp; omega
          have hd2 : decide ((n : Int) ≤ (c : Int) + 1) = true := by simp; omega
          go_wp2_with fail
          refine (HA.out _ HB1.out).mono ?_
          rintro e w2 ⟨rfl, hb2, hk2⟩
          go_wp2
          go_ret
          exact ⟨by simp, hb2⟩
  · have hd : decide ((4000 : Int) < (t.length : Int)) = true := by simp; omega
    go_wp2_with fail
    refine (HA.out _ (Below.refl _ _)).mono ?_
    rintro e w2 ⟨rfl, hb2, hk2⟩
    go_wp2
    go_ret
    exact ⟨rfl, hb2⟩
end Go.Proofs.YtegnheonncoodaaDoor.Scr
