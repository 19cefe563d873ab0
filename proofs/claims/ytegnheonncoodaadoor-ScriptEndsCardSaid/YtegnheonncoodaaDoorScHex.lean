/- strconv.ParseUint of two bytes, base 16. -/
import Derived.Test.YtegnheonncoodaaDoorScLib
import Derived.Test.YtegnheonncoodaaDoorBits
import Derived.Deep.QuietTactic
import Derived.IntWalk
namespace Go.Proofs.YtegnheonncoodaaDoor.Scr
set_option linter.unusedVariables false
open Go.ChangeShapes Go.WideShapes Go.ChangeAt Go.RowKit
open Go.Mem Sc
/-- the value of the first k of two bytes, so far -/
def hacc (c d : UInt8) : Nat → Nat
  | 0 => 0
  | 1 => (hv c).getD 0
  | _ => 16 * (hv c).getD 0 + (hv d).getD 0
theorem hv_lt {c : UInt8} {n : Nat} (h : hv c = some n) : n < 16 := by
  unfold hv at h
  split at h
  · have e := Option.some.inj h; omega
  · split at h
    · have e := Option.some.inj h; omega
    · cases h
/-- what a byte is -/
inductive Dig (c : UInt8) (q : Nat) : Prop
  | num (h : 48 ≤ c.toNat) (h' : c.toNat ≤ 57) (e : hv c = some (c.toNat - 48))
  | low (h : ¬ (48 ≤ c.toNat ∧ c.toNat ≤ 57)) (h0 : c.toNat ≠ 95) (h1 : 97 ≤ q) (h2 : q ≤ 102) (e : hv c = some (q - 87))
  | big (h : ¬ (48 ≤ c.toNat ∧ c.toNat ≤ 57)) (h0 : c.toNat ≠ 95) (h1 : 103 ≤ q) (h2 : q ≤ 122) (e : hv c = none)
  | none (h : ¬ (48 ≤ c.toNat ∧ c.toNat ≤ 57)) (h1 : ¬ (97 ≤ q ∧ q ≤ 122)) (e : hv c = none)
theorem dig_of (c : UInt8) : Dig c (c.toNat ||| 32) := by
  by_cases h : 48 ≤ c.toNat ∧ c.toNat ≤ 57
  · exact .num h.1 h.2 (by unfold hv; rw [if_pos h])
  · by_cases h1 : 97 ≤ (c.toNat ||| 32) ∧ (c.toNat ||| 32) ≤ 122
    · have h0 : c.toNat ≠ 95 := by
        intro e
        rw [e] at h1
        exact absurd h1 (by decide)
      by_cases h2 : (c.toNat ||| 32) ≤ 102
      · exact .low h h0 h1.1 h2 (by unfold hv; rw [if_neg h, if_pos ⟨h1.1, h2⟩])
      · exact .big h h0 (by omega) h1.2 (by unfold hv; rw [if_neg h, if_neg (by omega)])
    · exact .none h h1 (by unfold hv; rw [if_neg h, if_neg (by omega)])
/-- what the rest of the bytes makes of acc -/
def hexRes : Nat → List UInt8 → Value
  | acc, [] => .tuple #[.int .u64 (acc : Nat), .nilIface]
  | acc, x :: r => match hv x with
    | some m => hexRes (acc * 16 + m) r
    | none => .tuple #[.int .u64 0, .iface 77 (.int .i64 2)]
theorem hexRes_some {x : UInt8} {r : List UInt8} {acc m : Nat} (h : hv x = some m) : hexRes acc (x :: r) = hexRes (acc * 16 + m) r := by rw [hexRes, h]
theorem hexRes_none {x : UInt8} {r : List UInt8} {acc : Nat} (h : hv x = none) : hexRes acc (x :: r) = .tuple #[.int .u64 0, .iface 77 (.int .i64 2)] := by rw [hexRes, h]
def AccOk (k acc : Nat) : Prop := (k = 0 → acc = 0) ∧ (k = 1 → acc ≤ 15) ∧ acc ≤ 255
theorem lowerC (x : UInt8) (w : World) : Calls Tryd.prog 55 #[.int .u8 (x.toNat : Nat)] w fun e w' => e = .returned (.int .u8 ((x.toNat ||| 32 : Nat) : Int)) ∧ w = w' := by
  refine (Tryd.internal_strconv_lower _ w).mono ?_
  rintro e w' ⟨rfl, rfl⟩
  refine ⟨?_, rfl⟩
  have := x.toNat_lt
  rw [show (32 : Int) = ((32 : Nat) : Int) from rfl, u8_or_nat _ _ (by omega) (by omega)]
set_option maxHeartbeats 32000000 in
set_option maxRecDepth 100000 in
theorem p16IC (t : ByteArray) (hne : t.size ≠ 0) (hmax : t.size ≤ 2) (w : World) :
    Calls Tryd.prog 41 #[.string t, .int .i64 16, .int .i64 8] w fun e w' => e = .returned (hexRes 0 t.data.toList) ∧ Below w.heap.size w w' := by
  have hemp : t.toList.isEmpty = false := by
    rw [← decide_eq_emptyBytes]
    exact decide_eq_false (fun h => hne (by rw [h]; rfl))
  have hcv := Lib.run_convert_string_bytes (P := Tryd.prog) w 9 33 5 t (u := .string) Tryd.underlying9 Tryd.underlying33 Tryd.underlying5
  have hB : ∀ j, j < t.size → (Lib.bytesWorld w 5 t).cell? ⟨w.heap.size, j, none⟩ = some (.int .u8 (t.data.toList.getD j 0).toNat) := fun j hj => Lib.bytesWorld_cell w 5 t j hj
  have hbl : Below w.heap.size w (Lib.bytesWorld w 5 t) := Joins.below_bytesWorld _ _ _ _ (Nat.le_refl _)
  obtain ⟨W1, hW1⟩ : ∃ W1, W1 = Lib.bytesWorld w 5 t := ⟨_, rfl⟩
  rw [← hW1] at hcv hB hbl
  clear hW1
  obtain ⟨bs, hL⟩ : ∃ bs, bs = t.data.toList := ⟨_, rfl⟩
  have hLn : bs.length = t.size := by rw [hL, Lib.size_eq]
  rw [← hL] at hB ⊢
  clear hL
  have hmv : IntKind.u64.wrap (IntKind.u64.wrap 256 - 1) = 255 := by
    rw [IntKind.wrap_u64, IntKind.wrap_u64]
    decide
  go_enter Tryd.func41, Tryd.ntmps41
  go_wp2
  go_loop [12, 13, 101] (fun vu vn vi => ∃ (k acc : Nat) (a : Int), vu = .bool false ∧ vn = .int .u64 a ∧ vi = .int .i64 k ∧ k ≤ t.size ∧ Hid (a = (acc : Int) ∧ AccOk k acc ∧ hexRes 0 bs = hexRes acc (bs.drop k)))
    (fun _ _ vi => t.size - (intOf vi).toNat)
  case atStart => exact ⟨0, 0, 0, rfl, rfl, rfl, by omega, rfl, ⟨fun _ => rfl, fun h => by omega, by omega⟩, rfl⟩
  case round =>
    obtain ⟨k, acc, a, rfl, rfl, rfl, hk, hh⟩ := hrel
    obtain ⟨ha, hacc, hdec⟩ := hh.out
    clear hh
    by_cases hkn : k < t.size
    · have hc := hB k hkn
      have hdrop : bs.drop k = bs[k]'(by omega) :: bs.drop (k + 1) := List.drop_eq_getElem_cons (by omega)
      have hget : bs.getD k 0 = bs[k]'(by omega) := by simp [List.getD, List.getElem?_eq_getElem (show k < bs.length by omega)]
      rw [hdrop] at hdec
      rw [hget] at hc
      generalize bs[k]'(by omega) = c at hc hdec
      have hc256 : c.toNat < 256 := c.toNat_lt
      have HL := Lib.hid (lowerC c)
      have hq : (c.toNat ||| 32) < 256 := Nat.or_lt_two_pow (n := 8) (by omega) (by omega)
      have hD := dig_of c
      have a0 : 0 ≤ a := by omega
      have a1 : a ≤ 15 := by
        obtain ⟨q0, q1, _⟩ := hacc
        have : k = 0 ∨ k = 1 := by omega
        rcases this with h | h
        · have := q0 h; omega
        · have := q1 h; omega
      have HN : ∀ m, hv c = some m → Hid (a * 16 + (m : Int) = ((acc * 16 + m : Nat) : Int) ∧ AccOk (k + 1) (acc * 16 + m) ∧ hexRes 0 bs = hexRes (acc * 16 + m) (bs.drop (k + 1))) := fun m hm => by
        have hlt := hv_lt hm
        obtain ⟨q0, q1, _⟩ := hacc
        exact ⟨by omega, ⟨fun h => by omega, fun h => by have := q0 (by omega); omega, by omega⟩, hdec.trans (hexRes_some hm)⟩
      have HB : hv c = none → Hid (hexRes 0 bs = .tuple #[.int .u64 0, .iface 77 (.int .i64 2)]) := fun h => hdec.trans (hexRes_none h)
      clear hB hdrop hget hdec hacc ha
      generalize (c.toNat ||| 32) = q at HL hq hD
      cases hD with
      | num h h' e =>
        have HN1 := HN _ e
        have HN2 : Hid (a * 16 + ((c.toNat : Int) - 48) = ((acc * 16 + (c.toNat - 48) : Nat) : Int) ∧ AccOk (k + 1) (acc * 16 + (c.toNat - 48)) ∧ hexRes 0 bs = hexRes (acc * 16 + (c.toNat - 48)) (bs.drop (k + 1))) := ⟨by have := HN1.out.1; omega, HN1.out.2⟩
        clear HN HB HN1 e
        go_wp2
        refine ⟨⟨k + 1, acc * 16 + (c.toNat - 48), a * 16 + ((c.toNat : Int) - 48), rfl, (by first | rfl | (congr 1; omega)), (by first | rfl | (congr 1; omega)), by omega, HN2⟩, by simp [intOf]; omega⟩
      | low h h0 h1 h2 e =>
        have HN1 := HN _ e
        have HN2 : Hid (a * 16 + ((q : Int) - 97 + 10) = ((acc * 16 + (q - 87) : Nat) : Int) ∧ AccOk (k + 1) (acc * 16 + (q - 87)) ∧ hexRes 0 bs = hexRes (acc * 16 + (q - 87)) (bs.drop (k + 1))) := ⟨by have := HN1.out.1; omega, HN1.out.2⟩
        have hn : (48 ≤ (c.toNat : Int) && (c.toNat : Int) ≤ 57) = false := by simp; omega
        clear HN HB HN1 e
        by_cases h48 : 48 ≤ c.toNat
        · have h57 : ¬ (c.toNat : Int) ≤ 57 := by omega
          go_wp2_with (go_at_call 55; refine (HL.out _).mono ?_; rintro e w' ⟨rfl, rfl⟩)
          refine ⟨⟨k + 1, acc * 16 + (q - 87), a * 16 + ((q : Int) - 97 + 10), rfl, (by first | rfl | (congr 1; omega)), (by first | rfl | (congr 1; omega)), by omega, HN2⟩, by simp [intOf]; omega⟩
        · go_wp2_with (go_at_call 55; refine (HL.out _).mono ?_; rintro e w' ⟨rfl, rfl⟩)
          refine ⟨⟨k + 1, acc * 16 + (q - 87), a * 16 + ((q : Int) - 97 + 10), rfl, (by first | rfl | (congr 1; omega)), (by first | rfl | (congr 1; omega)), by omega, HN2⟩, by simp [intOf]; omega⟩
      | big h h0 h1 h2 e =>
        have HB1 := HB e
        clear HN HB e
        go_wp2_with (go_at_call 55; refine (HL.out _).mono ?_; rintro e w' ⟨rfl, rfl⟩)
        all_goals go_ret2
        all_goals exact ⟨by rw [HB1.out]; rfl, hbl⟩
      | none h h1 e =>
        have HB1 := HB e
        clear HN HB e
        have hx2 : (97 ≤ q ∧ ¬ (q : Int) ≤ 122) ∨ ¬ 97 ≤ (q : Int) := by omega
        clear h1
        generalize c.toNat = x at hc HL h hc256
        rcases hx2 with ⟨h97, h122⟩ | h97
        · by_cases h95 : x = 95
          · subst h95
            go_wp2_with (go_at_call 55; refine (HL.out _).mono ?_; rintro e w' ⟨rfl, rfl⟩)
            all_goals go_ret2
            all_goals exact ⟨by rw [HB1.out]; rfl, hbl⟩
          · go_wp2_with (go_at_call 55; refine (HL.out _).mono ?_; rintro e w' ⟨rfl, rfl⟩)
            all_goals go_ret2
            all_goals exact ⟨by rw [HB1.out]; rfl, hbl⟩
        · by_cases h95 : x = 95
          · subst h95
            go_wp2_with (go_at_call 55; refine (HL.out _).mono ?_; rintro e w' ⟨rfl, rfl⟩)
            all_goals go_ret2
            all_goals exact ⟨by rw [HB1.out]; rfl, hbl⟩
          · go_wp2_with (go_at_call 55; refine (HL.out _).mono ?_; rintro e w' ⟨rfl, rfl⟩)
            all_goals go_ret2
            all_goals exact ⟨by rw [HB1.out]; rfl, hbl⟩
    · have hkk : k = t.size := by omega
      subst hkk
      have hF : hexRes acc (bs.drop t.size) = .tuple #[.int .u64 (acc : Nat), .nilIface] := by rw [List.drop_eq_nil_of_le (by omega)]; rfl
      rw [hF] at hdec
      have HD := Lib.hid hdec
      clear hdec hF hacc
      subst ha
      go_wp2
      go_ret2
      exact ⟨by rw [HD.out]; rfl, hbl⟩
end Go.Proofs.YtegnheonncoodaaDoor.Scr
