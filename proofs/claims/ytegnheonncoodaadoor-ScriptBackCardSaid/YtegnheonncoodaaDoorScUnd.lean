/- The program's bytes of digits. -/
import Derived.Test.YtegnheonncoodaaDoorScMem
import Derived.Test.YtegnheonncoodaaDoorScHex
namespace Go.Proofs.YtegnheonncoodaaDoor.Scr
set_option linter.unusedVariables false
open Go.ChangeShapes Go.WideShapes Go.ChangeAt Go.RowKit
open Go.Mem Sc
theorem infoByte : (Tryd.prog.info? 5).map (fun i => (i.zero, i.size, i.bytes)) = some (some (.int .u8 0), 1, 1) := by kernel_rfl
theorem p16C (c d : UInt8) (w : World) (hT : Tabs w) : Calls Tryd.prog 30 #[.string (str [c, d]), .int .i64 16, .int .i64 8] w (Num (.int .u64 ((hx c d).toNat : Nat)) w) := by
  have h16 := p16IC (str [c, d]) (by rw [str_size]; simp) (by rw [str_size]; simp) w
  rw [str_list] at h16
  have key : (∃ n : Nat, hexRes 0 [c, d] = .tuple #[.int .u64 (n : Nat), .nilIface] ∧ n = (hx c d).toNat) ∨ (hexRes 0 [c, d] = .tuple #[.int .u64 0, .iface 77 (.int .i64 2)] ∧ (hx c d).toNat = 0) := by
    unfold hx
    cases h1 : hv c with
    | none => exact .inr ⟨hexRes_none h1, rfl⟩
    | some a =>
      rw [hexRes_some h1]
      cases h2 : hv d with
      | none => exact .inr ⟨hexRes_none h2, rfl⟩
      | some b =>
        rw [hexRes_some h2]
        have := hv_lt h1
        have := hv_lt h2
        refine .inl ⟨_, rfl, ?_⟩
        show (0 * 16 + a) * 16 + b = (UInt8.ofNat (16 * a + b)).toNat
        rw [UInt8.toNat_ofNat']
        omega
  rcases key with ⟨n, hk, rfl⟩ | ⟨hk, hn⟩
  · rw [hk] at h16
    clear hk
    go_enter Tryd.func30, Tryd.ntmps30
    go_wp2_with (go_at_call 41; refine h16.mono ?_; rintro e w' ⟨rfl, hb⟩)
    go_ret2
    exact ⟨_, rfl, hb⟩
  · rw [hk] at h16
    rw [hn]
    obtain ⟨tp, p, hv⟩ := hT.syn
    have hsz : (str [c, d]).size ≤ 281474976710656 := by rw [str_size]; simp
    have HV := Lib.hid hv
    clear hv hk hn
    go_enter Tryd.func30, Tryd.ntmps30
    go_wp2_with (go_at_call 41; refine h16.mono ?_; rintro e w1 ⟨rfl, hb⟩)
    have hv1 : w1.cell? ⟨2, 0, none⟩ = some (.iface tp p) := by
      have h0 := World.var?_cell (P := Tryd.prog) (n := "strconv.ErrSyntax") (g := 2) (by kernel_rfl) (var_below HV.out hb) 0
      simpa using h0
    have HV1 := Lib.hid hv1
    clear hv1
    go_wp2_with (go_at_call 40; refine (Tryd.strconv_toError_syntax _ (str [c, d]) 16 8 (.iface tp p) w1 hsz HV1.out (.inr ⟨tp, p, rfl⟩)).mono ?_; rintro e w2 ⟨N, rfl, _, _, hb2⟩)
    go_ret2
    exact ⟨_, rfl, hb.trans (hb2.mono hb.size)⟩
theorem pairs_two (c d : UInt8) (r : List UInt8) : pairs (c :: d :: r) = hx c d :: pairs r := rfl
theorem pairs_end {r : List UInt8} (h : r.length < 2) : pairs r = [] := by
  match r, h with
  | [], _ => rfl
  | [_], _ => rfl
theorem pairs_len (r : List UInt8) : (pairs r).length ≤ r.length := by
  suffices h : ∀ (n : Nat) (r : List UInt8), r.length ≤ n → (pairs r).length ≤ r.length from h _ r (Nat.le_refl _)
  intro n
  induction n with
  | zero =>
    intro r hr
    rw [pairs_end (by omega)]
    simp
  | succ n ih =>
    intro r hr
    match r, hr with
    | [], _ => simp [pairs]
    | [_], _ => simp [pairs]
    | c :: d :: r, hr =>
      have := ih r (by simp at hr; omega)
      rw [pairs_two]
      simp; omega
theorem drop_two {l : List UInt8} {k : Nat} (h : k + 1 < l.length) : l.drop k = l[k] :: l[k + 1] :: l.drop (k + 2) := by
  rw [List.drop_eq_getElem_cons (by omega), List.drop_eq_getElem_cons (by omega)]
theorem nums_snoc (l : List UInt8) (c : UInt8) : nums l ++ [c.toNat] = nums (l ++ [c]) := by simp [nums]
set_option maxHeartbeats 4000000 in
set_option maxRecDepth 100000 in
theorem undigC (l : List UInt8) (hl : l.length ≤ 1000000) (w : World) (hT : Tabs w) : Calls Tryd.prog 31 #[.string (str l)] w fun e w' => ∃ V, e = .returned V ∧ Built ByteR w' w.heap.size 5 V (nums (undig l)) ∧ Below w.heap.size w w' := by
  have hs := str_size l
  go_enter Tryd.func31, Tryd.ntmps31
  go_wp2
  go_loopw [3, 4] (fun v i wr => ∃ (k : Nat) (L : List UInt8), i = .int .i64 (k : Nat) ∧ Built ByteR wr w.heap.size 5 v (nums L) ∧ Below w.heap.size w wr ∧ Hid (2 ≤ k ∧ L.length ≤ k ∧ k ≤ l.length + 2 ∧ L ++ pairs (l.drop (k - 1)) = undig l)) (fun _ i _ => l.length - (intOf i).toNat)
  case atStart => exact ⟨2, [], rfl, Built.start _ _ _, Below.refl _ _, by omega, by simp, by omega, rfl⟩
  case round =>
    obtain ⟨k, L, rfl, hbu, hW, hh⟩ := hrel
    obtain ⟨h2, hL, hkl, hu⟩ := hh.out
    clear hh
    obtain ⟨A, C, rfl, hc1, hc2⟩ := hbu.len
    rw [nums_len] at hc1 hbu ⊢
    by_cases hlt : k < l.length
    · have q1 : 0 ≤ (k : Int) - 1 := by omega
      have q2 : ((k : Int) - 1).toNat = k - 1 := by omega
      have q3 : ((k : Int) + 1).toNat = k + 1 := by omega
      have q4 : (k : Int) + 1 ≤ (l.length : Int) := by omega
      have q5 : (k : Int) - 1 ≤ (k : Int) + 1 := by omega
      have hd : l.drop (k - 1) = l[k - 1] :: l[k] :: l.drop (k + 1) := by
        have := drop_two (l := l) (k := k - 1) (by omega)
        rw [this]
        congr 2
        · congr 1; omega
        · congr 1; omega
      have he : (str l).extract (k - 1) (k + 1) = str [l[k - 1], l[k]] := by
        refine ByteArray.ext ?_
        apply Array.ext'
        rw [Lib.extract_data, str_list, str_list, hd, show k + 1 - (k - 1) = 2 by omega]
        rfl
      rw [hd, pairs_two] at hu
      generalize l[k - 1] = c at he hu
      generalize l[k] = d at he hu
      have hsl : ∀ W, (Instr.slice 9 (.string (str l)) (some (.int .i64 ((k : Int) - 1))) (some (.int .i64 ((k : Int) + 1))) none).run Tryd.prog W = .ok (.string (str [c, d])) W := fun W => by
        have h := run_slice_string (P := Tryd.prog) (w := W) 9 (str l) .i64 .i64 ((k : Int) - 1) ((k : Int) + 1) Tryd.underlying9 (by omega) (by omega) (by rw [hs]; omega)
        rw [h, q2, q3, he]
      have HU := Lib.hid hu
      have HBU := Lib.hid hbu
      have hT1 := hT.below hW
      have hlen : (nums L).length + 1 ≤ 1000000 + 4 := by rw [nums_len]; omega
      have HLEN := Lib.hid hlen
      clear hu hd hbu hlen he
      go_wp2_with fail
      refine (p16C c d _ hT1).mono ?_
      rintro e w1 ⟨E, rfl, hb1⟩
      have hx8 := (hx c d).toNat_lt
      have HB1 := Lib.hid (HBU.out.below hb1)
      have hs1 : w.heap.size ≤ w1.heap.size := Nat.le_trans hW.size hb1.size
      generalize hx c d = x at hx8 HU
      go_wp2_with (at_builtin; refine wpList_append_built (R := ByteR) _ rfl (.tmp 23) (.tmp 26) 33 rfl w.heap.size 5 (.int .u8 0) 1 Tryd.underlying33 infoByte rfl _ (nums L) rfl HB1.out _ x.toNat _ rfl rfl rfl (fun _ _ => ⟨rfl, by omega⟩) (by have := HLEN.out; omega) hs1 ?_; intro v' w' hbu' hg' hb')
      rw [nums_snoc] at hbu'
      obtain ⟨A6, C6, rfl, hc6, hd6⟩ := hbu'.len
      go_roundw
      case rel => exact ⟨k + 2, L ++ [x], by go_num, hbu', (hW.trans (hb1.mono hW.size)).trans hb', by omega, by simp; omega, by omega, by rw [← HU.out]; simp⟩
      case measure => simp [intOf]; omega
    · have he : pairs (l.drop (k - 1)) = [] := pairs_end (by rw [List.length_drop]; omega)
      rw [he, List.append_nil] at hu
      have HU := Lib.hid hu
      clear hu he
      go_wp2
      go_ret
      exact ⟨_, rfl, by rw [← HU.out]; exact hbu, hW⟩
end Go.Proofs.YtegnheonncoodaaDoor.Scr
