/- The law's own digits of a number. -/
import Derived.Test.YtegnheonncoodaaDoorScPr
import Derived.Deep.RegionLaw
namespace Go.Proofs.YtegnheonncoodaaDoor.Scr
set_option linter.unusedVariables false
open Go.ChangeShapes Go.WideShapes Go.ChangeAt Go.RowKit
open Go.Mem Sc
/-- string([]byte{c}), of a new block -/
theorem one_str (w : World) (c : Nat) (hc : c < 256) : (convert 33 9 (.slice (some ⟨w.heap.size, 0, none⟩) 1 1)).run Tryd.prog (w.alloc (.cells #[.int .u8 (c : Nat)] 5)) = .ok (.string (str [UInt8.ofNat c])) (w.alloc (.cells #[.int .u8 (c : Nat)] 5)) := by
  have h := bytes_str (w := w.alloc (.cells #[.int .u8 (c : Nat)] 5)) (A := some ⟨w.heap.size, 0, none⟩) (N := 1) (C := 1) (l := [UInt8.ofNat c]) ?_
  · exact h
  · have e : (UInt8.ofNat c).toNat = c := by rw [UInt8.toNat_ofNat']; omega
    have hb := const_bytes w 5 (0, 0) [c] (by simp) (by simpa using hc)
    show Bytes _ _ [(UInt8.ofNat c).toNat]
    rw [e]
    exact hb
theorem one_later {w w' : World} {b : Nat} {v : Value} {s : ByteArray} {c : Nat} (hc : c < 256) (h : w.cell? ⟨b, 0, none⟩ = some (.int .u8 (c : Nat))) : (convert 33 9 (.slice (some ⟨b, 0, none⟩) 1 1)).run Tryd.prog w = .ok (.string (str [UInt8.ofNat c])) w := by
  refine bytes_str (N := 1) (C := 1) (l := [UInt8.ofNat c]) ?_
  have e : (UInt8.ofNat c).toNat = c := by rw [UInt8.toNat_ofNat']; omega
  show Bytes _ _ [(UInt8.ofNat c).toNat]
  rw [e]
  exact ⟨_, 1, 1, rfl, rfl, Nat.le_refl _, by unfold maxLen; omega, (fun q => by cases q), fun i hi => by
    have : i = 0 := by
      have : i < 1 := hi
      omega
    subst this
    exact ⟨b, 0, _, rfl, h, rfl, hc⟩⟩
theorem dec_small (n : Nat) (h : n < 10) : Lib.decDigits n = [UInt8.ofNat (48 + n)] := Lib.decDigits_one h
theorem dec_big (n : Nat) (h : ¬ n < 10) : Lib.decDigits n = Lib.decDigits (n / 10) ++ [UInt8.ofNat (48 + n % 10)] := by rw [Lib.decDigits, dif_neg h]
set_option maxHeartbeats 4000000 in
theorem decC (k : Nat) : ∀ (n : Nat) (w : World), n ≤ k → n < 18446744073709551616 → Calls Tryd.prog 19 #[.int .u64 (n : Nat)] w fun e w' => e = .returned (.string (str (Lib.decDigits n))) ∧ Below w.heap.size w w' := by
  induction k using Nat.strongRecOn with
  | _ k ih =>
    intro n w hnk hn
    by_cases h : n < 10
    · have hs := one_str w (48 + n) (by omega)
      rw [show ((48 + n : Nat) : Int) = 48 + (n : Int) by omega] at hs
      have hd := dec_small n h
      have h' : (n : Int) < 10 := by omega
      generalize UInt8.ofNat (48 + n) = ch at hs hd
      have HD := Lib.hid hd
      clear hd ih
      go_enter Tryd.func19, Tryd.ntmps19
      go_wp2_with fail
      go_ret
      exact ⟨by rw [HD.out]; rfl, (Below.refl _ _).alloc (Nat.le_refl _) _⟩
    · have hd := dec_big n h
      have h' : ¬ (n : Int) < 10 := by omega
      have hl := dec_len (n / 10) (by omega)
      have HI : Hid (∀ W, Calls Tryd.prog 19 #[.int .u64 ((n : Int) / 10)] W fun e w' => e = .returned (.string (str (Lib.decDigits (n / 10)))) ∧ Below W.heap.size W w') := fun W => by
        have := ih (n / 10) (by omega) (n / 10) W (Nat.le_refl _) (by omega)
        rw [show (n : Int) / 10 = ((n / 10 : Nat) : Int) by omega]
        exact this
      have hc : 48 + n % 10 < 256 := by omega
      have e48 : ((48 + n % 10 : Nat) : Int) = 48 + (n : Int) % 10 := by omega
      have HCV : Hid (∀ w1 : World, (convert 33 9 (.slice (some ⟨w1.heap.size, 0, none⟩) 1 1)).run Tryd.prog (w1.alloc (.cells #[.int .u8 ((48 + n % 10 : Nat) : Int)] 5)) = .ok (.string (str [UInt8.ofNat (48 + n % 10)])) (w1.alloc (.cells #[.int .u8 ((48 + n % 10 : Nat) : Int)] 5))) := fun w1 => one_str w1 _ hc
      have HCL : Hid (∀ w1 : World, Below (w.alloc (.cells #[.int .u8 ((48 + n % 10 : Nat) : Int)] 5)).drew.heap.size (w.alloc (.cells #[.int .u8 ((48 + n % 10 : Nat) : Int)] 5)).drew w1 → (convert 33 9 (.slice (some ⟨w.heap.size, 0, none⟩) 1 1)).run Tryd.prog w1 = .ok (.string (str [UInt8.ofNat (48 + n % 10)])) w1) := fun w1 hb => one_later (v := .bool true) (s := ⟨#[]⟩) (w' := w) hc (by
        rw [hb.cell (p := ⟨w.heap.size, 0, none⟩) (by simp)]
        exact (row_of w #[.int .u8 ((48 + n % 10 : Nat) : Int)] 5).cell (i := 0) (by simp))
      have cv0 := HCL.out _ (Below.refl _ _)
      rw [e48] at cv0 HCV HCL
      generalize UInt8.ofNat (48 + n % 10) = ch at cv0 HCV HCL hd
      have hsz : ¬ 9223372036854775807 < (str (Lib.decDigits (n / 10))).size + (str [ch]).size := by rw [str_size, str_size, List.length_singleton]; omega
      have HD := Lib.hid hd
      have u1 : IntKind.u64.wrap ((n : Int) / 10) = (n : Int) / 10 := by rw [IntKind.wrap_u64]; omega
      have u2 : (n : Int).tmod 10 = (n : Int) % 10 := Int.tmod_eq_emod_of_nonneg (by omega)
      have u3 : IntKind.u8.wrap ((n : Int) % 10) = (n : Int) % 10 := by rw [IntKind.wrap_u8]; omega
      have u4 : IntKind.u8.wrap (48 + (n : Int) % 10) = 48 + (n : Int) % 10 := by rw [IntKind.wrap_u8]; omega
      clear hd ih hl hc e48 h
      go_enter Tryd.func19, Tryd.ntmps19
      go_wp2_with fail
      go_region_law (first
        | (go_simp; go_at_call 19; (with_reducible refine (HI.out w.drew).mono ?_); rintro _ w1 ⟨rfl, hb1⟩; have cv1 := HCV.out w1)
        | (go_simp; go_at_call 19; (with_reducible refine (HI.out (w.alloc (.cells #[.int .u8 (48 + (n : Int) % 10)] 5)).drew).mono ?_); rintro _ w1 ⟨rfl, hb1⟩; have c1 := HCL.out w1 hb1))
      all_goals
        go_wp2
        go_ret
        first
          | exact ⟨by rw [HD.out, ← str_app]; rfl, ((Below.refl w.heap.size w).drew.trans hb1).alloc (Nat.le_trans (Nat.le_refl w.heap.size) hb1.size) _⟩
          | exact ⟨by rw [HD.out, ← str_app]; rfl, ((Below.refl w.heap.size w).alloc (Nat.le_refl _) _).drew.trans (hb1.mono (by simp))⟩
theorem decN (n : Nat) (w : World) (hn : n < 18446744073709551616) : Calls Tryd.prog 19 #[.int .u64 (n : Nat)] w fun e w' => e = .returned (.string (str (Lib.decDigits n))) ∧ Below w.heap.size w w' := decC n n w (Nat.le_refl _) hn
set_option maxHeartbeats 1000000 in
theorem numC (z : Int) (hz : I6 z) (w : World) : Calls Tryd.prog 18 #[.int .i64 z] w fun e w' => e = .returned (.string (str (Lib.itoa z))) ∧ Below w.heap.size w w' := by
  obtain ⟨h0, h1⟩ := hz
  by_cases h : z < 0
  · obtain ⟨u, hu⟩ : ∃ u : Nat, z = -(u : Int) := ⟨z.natAbs, by omega⟩
    have hc := decN u
    have e1 : Lib.itoa z = 45 :: Lib.decDigits u := by rw [hu]; exact Lib.itoa_neg u (by omega)
    have hl := dec_len u (by omega)
    have hsz : ¬ 9223372036854775807 < (⟨#[45]⟩ : ByteArray).size + (str (Lib.decDigits u)).size := by rw [str_size, show (⟨#[45]⟩ : ByteArray).size = 1 from rfl]; omega
    have HC : Hid (∀ W, Calls Tryd.prog 19 #[.int .u64 (-(z + 1) + 1)] W fun e w' => e = .returned (.string (str (Lib.decDigits u))) ∧ Below W.heap.size W w') := fun W => by
      rw [show -(z + 1) + 1 = (u : Int) by omega]
      exact hc W (by omega)
    have HE := Lib.hid e1
    clear e1 hu hc hl
    go_enter Tryd.func18, Tryd.ntmps18
    go_wp2_with fail
    refine (HC.out _).mono ?_
    rintro e w' ⟨rfl, hb⟩
    go_wp2_with fail
    go_ret
    exact ⟨by rw [HE.out, show (45 : UInt8) :: Lib.decDigits u = [45] ++ Lib.decDigits u from rfl, ← str_app]; rfl, hb⟩
  · obtain ⟨u, hu⟩ : ∃ u : Nat, z = (u : Int) := ⟨z.toNat, by omega⟩
    subst hu
    have hc := decN u w (by omega)
    rw [Lib.itoa_nonneg]
    go_enter Tryd.func18, Tryd.ntmps18
    go_wp2_with fail
    refine hc.mono ?_
    rintro e w' ⟨rfl, hb⟩
    go_wp2_with fail
    go_ret
    exact ⟨rfl, hb⟩
end Go.Proofs.YtegnheonncoodaaDoor.Scr
