/- The last blocks of the sum of layer 5, as a walk. -/
import Derived.Test.YtcgjoidfmigpnaaDoorHashStir
import Derived.WalkSpells
namespace Go.Proofs.YtcgjoidfmigpnaaDoor.Hash
set_option linter.unusedVariables false
open Go.ChangeShapes Go.WideShapes Go.ChangeAt Go.RowKit
open Go.Mem Sha
set_option maxHeartbeats 1000000 in
theorem withNumberC (base : Nat) (L : List Nat) (v : Value) (n : Nat) (w : World) (hv : Built ByteR w base 5 v L) (hL : L.length ≤ 200000) (hn : n < 18446744073709551616) (hb : base ≤ w.heap.size) :
    Calls Tryd.prog 22 #[v, .int .u64 n] w fun e w' => ∃ u, e = .returned u ∧ Built ByteR w' base 5 u (L ++ numB n 8) ∧ Below base w w' := by
  have HV := Lib.hid (show Built ByteR w base 5 v (L ++ (numB n 8).take 0) by simpa using hv)
  have HLL := Lib.hid hL
  clear hv hL
  go_enter Tryd.func22, Tryd.ntmps22
  go_wp2
  go_loopw [0, 5] (fun u c wr => ∃ r k : Nat, r + k = 8 ∧ c = .int .i64 (8 * (r : Int) - 8) ∧ Built ByteR wr base 5 u (L ++ (numB n 8).take k) ∧ Below base w wr) (fun _ c _ => (intOf c + 8).toNat)
  case atStart => exact ⟨8, 0, rfl, rfl, HV.out, Below.refl _ _⟩
  case round =>
    obtain ⟨r, k, hrk, rfl, hbu, hbr⟩ := hrel
    rcases r with _ | r
    · obtain rfl : k = 8 := by omega
      have HB := Lib.hid (show Built ByteR wr base 5 _ (L ++ numB n 8) by rw [List.take_of_length_le (by rw [numB_len]; omega)] at hbu; exact hbu)
      have HW := Lib.hid hbr
      clear hbu hbr
      go_wp2
      go_ret
      exact ⟨_, rfl, HB.out, HW.out⟩
    · obtain ⟨A5, C5, rfl, hc1, hc2⟩ := hbu.len
      have hlen : (L ++ (numB n 8).take k).length = L.length + k := by simp [numB_len]; omega
      have HN := Lib.hid hlen
      have HBU := Lib.hid hbu
      have HBR := Lib.hid hbr
      have HSN := Lib.hid (show L ++ (numB n 8).take (k + 1) = L ++ (numB n 8).take k ++ [n / 2 ^ (8 * r) % 256] by
        rw [numB_snoc (by omega), pow256, ← List.append_assoc, show 8 - 1 - k = r by omega])
      rw [hlen] at HBU hc1 ⊢
      obtain ⟨N, hN⟩ : ∃ N, L.length + k = N := ⟨_, rfl⟩
      rw [hN] at HBU HN hc1 ⊢
      have HNN := Lib.hid hN
      clear hlen hbu hbr hN
      have hy : n / 2 ^ (8 * r) % 256 < 256 := Nat.mod_lt _ (by omega)
      have HY := Lib.hid (show ((n : Int) / 2 ^ (8 * r) % 256) = ((n / 2 ^ (8 * r) % 256 : Nat) : Int) by simp)
      rw [show (8 * ((r + 1 : Nat) : Int) - 8) = 8 * (r : Int) by omega]
      have hr7 : r ≤ 7 := by omega
      go_wp2_with (at_builtin; refine wpList_append_built (R := ByteR) _ rfl (.tmp 10) (.tmp 15) 42 rfl base 5 (.int .u8 0) 1 Tryd.underlying42 infoByte rfl _ _ rfl HBU.out _ (n / 2 ^ (8 * r) % 256) _ rfl (by simp) rfl (fun _ _ => ⟨by rw [← HY.out], hy⟩) (by rw [HN.out]; have := HNN.out; have := HLL.out; omega) (Nat.le_trans hb HBR.out.size) ?_; intro v' w' hbu' hg' hb')
      go_roundw
      case rel => exact ⟨r, k + 1, by omega, rfl, by rw [HSN.out]; exact hbu', HBR.out.trans hb'⟩
      case measure => simp [intOf]; omega
set_option maxHeartbeats 1000000 in
theorem cloneC (l : List Nat) (v : Value) (w : World) (h : Bytes w v l) (hl : l.length ≤ 200000) :
    Calls Tryd.prog 45 #[v] w fun e w' => ∃ u, e = .returned u ∧ Built ByteR w' w.heap.size 5 u l ∧ Below w.heap.size w w' := by
  obtain ⟨A, C, rfl, h1, h2, h3⟩ := h.shape
  have hne := Lib.run_eql_slice_nil (P := Tryd.prog)
  rcases A with _ | ad
  · have hC := h3 rfl
    have hl0 : l = [] := List.length_eq_zero_iff.1 (by omega)
    subst hl0
    subst hC
    go_enter Tryd.func45, Tryd.ntmps45
    go_wp2_with fail
    go_ret
    exact ⟨_, rfl, Built.start _ _ _, Below.refl _ _⟩
  · have hal : Below w.heap.size w (w.alloc (.cells #[] 5)) := (Below.refl _ _).alloc (Nat.le_refl _) _
    have HB := Lib.hid (built_none (R := ByteR) (t := 5) w (Nat.le_refl _))
    have HL := Lib.hid (h.below hal)
    have HA := Lib.hid hal
    have HLL := Lib.hid hl
    clear hal h hl
    go_enter Tryd.func45, Tryd.ntmps45
    go_wp2_with (at_builtin; refine wpList_append_list byteR_world byteR_one _ rfl (.tmp 5) (.tmp 6) 42 rfl w.heap.size 5 (.int .u8 0) 1 Tryd.underlying42 infoByte rfl _ _ rfl HB.out _ _ _ _ rfl HL.out (by have := HLL.out; simp; omega) (by simp) ?_; intro v' w' hbu' hg' hb')
    go_ret
    exact ⟨_, rfl, hbu', HA.out.trans hb'⟩
set_option maxHeartbeats 2000000 in
theorem endingC (l : List Nat) (v : Value) (n : Nat) (w : World) (hl : Bytes w v l) (hn : l.length ≤ 100000) (hs : n ≤ 100000) :
    Calls Tryd.prog 31 #[v, .int .i64 n] w fun e w' => ∃ u, e = .returned u ∧ Built ByteR w' w.heap.size 5 u (l ++ [128] ++ List.replicate (zerosOf l.length) 0 ++ numB (n * 8) 8) ∧ Below w.heap.size w w' := by
  obtain ⟨L, hL⟩ : ∃ L, l.length = L := ⟨_, rfl⟩
  have hL5 : L ≤ 100000 := by omega
  have HLZ := Lib.hid (show ∀ k, (l ++ [128] ++ List.replicate k 0).length = L + 1 + k by intro k; simp [hL]; omega)
  rw [hL]
  have HL := Lib.hid hL
  have HV := Lib.hid hl
  clear hL hn hl
  go_enter Tryd.func31, Tryd.ntmps31
  go_wp2_with fail
  refine (cloneC l v w HV.out (by rw [HL.out]; omega)).mono ?_
  rintro _ w3 ⟨v3, rfl, hbu3, hb3⟩
  obtain ⟨v4, w4, hr4, hbu4, _, hb4⟩ := run_append_built (P := Tryd.prog) (R := ByteR) w3 w.heap.size 42 42 5 (.int .u8 0) 1 Tryd.underlying42 infoByte rfl v3 l hbu3 (.int .u8 128) 128 rfl (fun _ _ => ⟨rfl, by omega⟩) (by rw [HL.out]; omega) hb3.size
  have HR4 := Lib.hid hr4
  have HB4 := Lib.hid (show Built ByteR w4 w.heap.size 5 v4 (l ++ [128] ++ List.replicate 0 0) by simpa using hbu4)
  have HW := Lib.hid (hb3.trans hb4)
  clear hr4 hbu4 hb4 hbu3 hb3
  go_wp2_with (at_builtin; refine Lib.wpList_append_run _ rfl (.tmp 7) (.tmp 8) _ _ rfl _ _ rfl rfl _ _ HR4.out ?_)
  go_loopw [5] (fun v wr => ∃ k : Nat, k ≤ zerosOf L ∧ Built ByteR wr w.heap.size 5 v (l ++ [128] ++ List.replicate k 0) ∧ Below w.heap.size w wr) (fun v _ => L + 1 + zerosOf L - sliceLen v)
  case atStart => exact ⟨0, Nat.zero_le _, HB4.out, HW.out⟩
  case round =>
    obtain ⟨k, hk, hbu, hbr⟩ := hrel
    obtain ⟨A5, C5, rfl, hc1, hc2⟩ := hbu.len
    have hlen := HLZ.out k
    have hzb := zeros_bd L
    rw [hlen] at hc1 hbu ⊢
    have HN := Lib.hid hlen
    clear hlen
    obtain ⟨x, hne5⟩ : ∃ x, L + 1 + k = x := ⟨_, rfl⟩
    have hn5 : x ≤ 200000 := by omega
    have HBR := Lib.hid hbr
    by_cases hlt : k < zerosOf L
    · have HZ := Lib.hid (zeros_lt hlt)
      rw [hne5] at HZ hbu hc1 HN ⊢
      have ht : (((x : Nat) : Int) % 64 != 56) = true := by rw [bne_iff_ne]; exact HZ.out
      have HNE := Lib.hid hne5
      have HBU := Lib.hid hbu
      clear hne5 hbu hbr
      go_wp2_with (at_builtin; refine wpList_append_built (R := ByteR) _ rfl (.tmp 14) (.tmp 15) 42 rfl w.heap.size 5 (.int .u8 0) 1 Tryd.underlying42 infoByte rfl _ _ rfl HBU.out _ 0 _ rfl (by simp) rfl (fun _ _ => ⟨rfl, by omega⟩) (by rw [HN.out]; omega) HBR.out.size ?_; intro v' w' hbu' hg' hb')
      obtain ⟨A6, C6, rfl, hc6, hd6⟩ := hbu'.len
      go_roundw
      case rel => exact ⟨k + 1, by omega, by rw [← rep_snoc]; exact hbu', HBR.out.trans hb'⟩
      case measure =>
        have e : (l ++ [128] ++ List.replicate k 0 ++ [0]).length = x + 1 := by rw [List.length_append, HN.out]; rfl
        rw [e]
        show L + 1 + zerosOf L - (x + 1) < L + 1 + zerosOf L - x
        have := HNE.out
        omega
    · obtain rfl : k = zerosOf L := by omega
      have HZ := Lib.hid (zeros_eq L)
      rw [hne5] at HZ hbu hc1 HN ⊢
      have ht : (((x : Nat) : Int) % 64 != 56) = false := by rw [bne_eq_false_iff_eq]; exact HZ.out
      have HBU := Lib.hid hbu
      clear hne5 hbu hbr
      go_wp2_with fail
      refine (withNumberC w.heap.size _ _ (n * 8) wr HBU.out (by rw [HN.out]; omega) (by omega) HBR.out.size).mono ?_
      rintro _ w6 ⟨u6, rfl, hu6, hb6⟩
      have HU := Lib.hid hu6
      have HB := Lib.hid (HBR.out.trans hb6)
      clear hu6 hb6
      go_wp2_with fail
      go_ret
      exact ⟨_, rfl, HU.out, HB.out⟩
end Go.Proofs.YtcgjoidfmigpnaaDoor.Hash
