/- The law of layer 6 that of what is loose just what is kept lasts, as a walk. -/
import Derived.Test.YthlonnbafekjbaaDrvLaws
import Derived.Test.YthlonnbafekjbaaRefDr
namespace Drv
/-- the drive behind the first i writes -/
def kst (l : List Nat) (i : Nat) : St := ⟨List.replicate 8 [], (List.range i).map fun j => (l.getD j 0 % 8, [j + 1]), false⟩
/-- what slot k should have when i writes are looked at: a number, or nothing -/
def wantN (keep : Nat) (l : List Nat) : Nat → Nat → Nat
  | 0, _ => 0
  | i + 1, k => if kept keep i = true ∧ k = l.getD i 0 % 8 then i + 1 else wantN keep l i k
theorem wantN_le (keep : Nat) (l : List Nat) (k : Nat) : ∀ i, wantN keep l i k ≤ i
  | 0 => Nat.le_refl _
  | i + 1 => by
    have := wantN_le keep l k i
    rw [wantN]; split <;> omega
theorem kst_len (l : List Nat) (i : Nat) : (kst l i).loose.length = i := by simp [kst]
theorem kst_putE (l : List Nat) (i q : Nat) (hq : q < 8) : (kst l i).putE (q : Nat) 1 = 0 := by
  unfold St.putE St.check kst
  simp [show ¬ (8 : Int) ≤ (q : Int) by omega]
theorem kst_put (l : List Nat) (i : Nat) : (kst l i).put ((l.getD i 0 % 8 : Nat) : Int) [i + 1] = kst l (i + 1) := by
  have h := kst_putE l i (l.getD i 0 % 8) (Nat.mod_lt _ (by omega))
  unfold St.put
  rw [if_pos (show (kst l i).putE ((l.getD i 0 % 8 : Nat) : Int) [i + 1].length = 0 from h)]
  unfold kst
  simp only [List.range_succ, List.map_append, List.map_cons, List.map_nil, Int.toNat_natCast]
theorem wantN_yes {keep : Nat} {l : List Nat} {i k : Nat} (hb : kept keep i = true) (hq : k = l.getD i 0 % 8) : wantN keep l (i + 1) k = i + 1 := by rw [wantN, if_pos ⟨hb, hq⟩]
theorem wantN_no {keep : Nat} {l : List Nat} {i k : Nat} (h : ¬ (kept keep i = true ∧ k = l.getD i 0 % 8)) : wantN keep l (i + 1) k = wantN keep l i k := by rw [wantN, if_neg h]
theorem kst_crashN (keep : Nat) (l : List Nat) {n : Nat} (k : Nat) (hk : k < 8) : ∀ i, i ≤ n → ((kst l n).crashN keep i).getD k [] = if wantN keep l i k = 0 then [] else [wantN keep l i k]
  | 0, _ => by
    rw [St.crashN, wantN, if_pos rfl]
    unfold kst
    simp only [List.getD_eq_getElem?_getD, List.getElem?_replicate, if_pos hk]
    rfl
  | i + 1, h => by
    have ih := kst_crashN keep l (n := n) k hk i (by omega)
    have hg : (kst l n).loose.getD i (0, []) = (l.getD i 0 % 8, [i + 1]) := by
      unfold kst
      simp [List.getD_eq_getElem?_getD, show i < n by omega]
    have hlen : ((kst l n).crashN keep i).length = 8 := by rw [crashN_len]; simp [kst]
    rw [St.crashN, hg]
    by_cases hb : kept keep i = true
    · rw [if_pos hb]
      by_cases hq : k = l.getD i 0 % 8
      · rw [wantN_yes hb hq, if_neg (by omega), ← hq]
        rw [List.getD_eq_getElem?_getD, List.getElem?_set_self (by rw [hlen]; exact hk)]
        rfl
      · rw [wantN_no (fun q => hq q.2), ← ih]
        rw [List.getD_eq_getElem?_getD, List.getElem?_set_ne (fun q => hq q.symm), ← List.getD_eq_getElem?_getD]
    · rw [if_neg hb, wantN_no (fun q => hb q.1), ih]
theorem kst_crash (keep : Nat) (l : List Nat) (n k : Nat) (hk : k < 8) : ((kst l n).crash keep).check (k : Nat) = 0 ∧ ((kst l n).crash keep).get ((k : Nat) : Int).toNat = (if wantN keep l n k = 0 then [] else [wantN keep l n k]) ∧ ((kst l n).crash keep).loose.length = 0 := by
  have hlen : ((kst l n).crashN keep n).length = 8 := by rw [crashN_len]; simp [kst]
  refine ⟨?_, ?_, rfl⟩
  · unfold St.check St.crash
    rw [kst_len, hlen]
    simp [kst, show ¬ (8 : Int) ≤ (k : Int) by omega]
  · rw [← kst_crashN keep l (n := n) k hk n (Nat.le_refl _)]
    unfold St.crash St.get St.getN
    simp [kst_len]
end Drv
namespace Go.Proofs.Ythlonnbafekjbaa.Drive
set_option linter.unusedVariables false
open Go.ChangeShapes Go.WideShapes Go.ChangeAt Go.RowKit
open Go.Mem Drv Same
/-- .. and keeps away from blocks that are the call's own -/
def MineN (PD : Thing) (W w : World) (p : Nat) (s : St) (N : Nat → Prop) : Prop := ∃ F, PD w F p s ∧ (∀ b, F b → W.heap.size ≤ b) ∧ Below W.heap.size W w ∧ (∀ b, N b → ¬ F b ∧ b < w.heap.size ∧ W.heap.size ≤ b)
variable {PD : Thing} {W w w' : World} {p : Nat} {s s' : St} {N : Nat → Prop}
theorem MineN.mine (h : MineN PD W w p s N) : Mine PD W w p s := by
  obtain ⟨F, h1, h2, h3, _⟩ := h
  exact ⟨F, h1, h2, h3⟩
theorem MineN.bel (h : MineN PD W w p s N) : Below W.heap.size W w := h.mine.bel
theorem MineN.turned (I : Iface PD) (h : MineN PD W w p s N) (ht : Turned N w w') : MineN PD W w' p s N := by
  obtain ⟨F, h1, h2, h3, h4⟩ := h
  exact ⟨F, I.turned h1 ht (fun b hb => (h4 b hb).1), h2, h3.trans (ht.below (fun b hb => (h4 b hb).2.2) h3.size), fun b hb => ⟨(h4 b hb).1, Nat.lt_of_lt_of_le (h4 b hb).2.1 ht.size, (h4 b hb).2.2⟩⟩
theorem MineN.below (I : Iface PD) (h : MineN PD W w p s N) (hb : Below w.heap.size w w') : MineN PD W w' p s N := h.turned I (Turned.of_below N hb)
theorem MineN.does {F : Nat → Prop} (I : Iface PD) (h1 : PD w F p s) (h2 : ∀ b, F b → W.heap.size ≤ b) (h3 : Below W.heap.size W w) (h4 : ∀ b, N b → ¬ F b ∧ b < w.heap.size ∧ W.heap.size ≤ b) (hd : Does PD F p s' w w') :
    MineN PD W w' p s' N ∧ ∀ b, N b → w'.heap[b]? = w.heap[b]? := by
  obtain ⟨F', k1, k2, k3⟩ := hd
  refine ⟨⟨F', k1, fun b hb => ?_, h3.trans (k2.below h2 h3.size), fun b hb => ⟨fun q => ?_, Nat.lt_of_lt_of_le (h4 b hb).2.1 k2.size, (h4 b hb).2.2⟩⟩, fun b hb => k2.block b (h4 b hb).2.1 (h4 b hb).1⟩
  · rcases k3 b hb with q | q
    · exact h2 b q
    · have := h3.size; omega
  · rcases k3 b q with x | x
    · exact (h4 b hb).1 x
    · have := (h4 b hb).2.1; omega
theorem MineN.write (I : Iface PD) (h : MineN PD W w p s N) (i : Int) (l : List Nat) (u : Value) (l0 : -9223372036854775808 ≤ i) (u0 : i ≤ 9223372036854775807) (hu : Bytes w u l) (hl : l.length ≤ 100000) (hs : s.loose.length ≤ 1000) :
    Calls Try.prog 11 #[.pointer (some ⟨p, 0, none⟩), .int .i64 i, u] w fun e w' => e = .returned (.int .i64 (s.putE i l.length)) ∧ MineN PD W w' p (s.put i l) N ∧ ∀ b, N b → w'.heap[b]? = w.heap[b]? := by
  obtain ⟨F, h1, h2, h3, h4⟩ := h
  exact (I.write h1 i l u l0 u0 hu hl hs).mono fun e w' hh => ⟨hh.1, MineN.does I h1 h2 h3 h4 hh.2⟩
theorem MineN.crash (I : Iface PD) (h : MineN PD W w p s N) (hs : s.loose.length ≤ 1000) (keep : Nat) (hk : keep < 18446744073709551616) : Calls Try.prog 15 #[.pointer (some ⟨p, 0, none⟩), .int .u64 keep] w fun e w' => e = .returned (.tuple #[]) ∧ MineN PD W w' p (s.crash keep) N ∧ ∀ b, N b → w'.heap[b]? = w.heap[b]? := by
  obtain ⟨F, h1, h2, h3, h4⟩ := h
  exact (I.crash h1 hs keep hk).mono fun e w' hh => ⟨hh.1, MineN.does I h1 h2 h3 h4 hh.2⟩
theorem MineN.of_new (h : Mine PD W w p s) (I : Iface PD) (o : Obj) : MineN PD W (w.alloc o) p s (fun b => b = w.heap.size) := by
  obtain ⟨F, h1, h2, h3⟩ := h
  have hb : Below w.heap.size w (w.alloc o) := (Below.refl _ _).alloc (Nat.le_refl _) _
  refine ⟨F, I.turned h1 (Turned.of_below (fun _ => False) hb) (fun _ q => q.elim), h2, h3.trans (hb.mono h3.size), fun b hb => ?_⟩
  subst hb
  exact ⟨fun q => by have := I.lt h1 _ q; omega, by simp, h3.size⟩
set_option maxHeartbeats 8000000 in
theorem DriveKeepsC (I : Iface PD) (l : List Nat) (v : Value) (keep : Int) (lk : 0 ≤ keep) (uk : keep ≤ 18446744073709551615) (w : World) (hl : Bytes w v l) :
    Calls Try.prog 6 #[v, .int .u64 keep] w fun e w' => e = .returned (.bool true) ∧ Below w.heap.size w w' := by
  obtain ⟨K, rfl⟩ := Int.eq_ofNat_of_zero_le lk
  obtain ⟨A, C, rfl, h1, h2, _⟩ := hl.shape
  obtain ⟨n, hn⟩ : ∃ n, l.length = n := ⟨_, rfl⟩
  rw [hn] at h1 hl ⊢
  have HL := Lib.hid hl
  have HN := Lib.hid hn
  clear hl hn
  by_cases hlong : 70 < n
  · have hd : (70 : Int) < (n : Int) := by omega
    go_enter Try.func6, Try.ntmps6
    go_wp2_with fail
    refine (answersC I w).mono ?_
    rintro _ w1 ⟨rfl, hb1⟩
    go_wp2_with fail
    go_ret
    exact ⟨rfl, hb1⟩
  · have hd : ¬ (70 : Int) < (n : Int) := by omega
    go_enter Try.func6, Try.ntmps6
    go_wp2_with fail
    refine (Mine.new I 8 w (W := w) (Below.refl _ _) (by omega) (by omega)).mono ?_
    rintro _ w1 ⟨p, rfl, hm1⟩
    have HM1 := Lib.hid (MineN.of_new hm1 I (.cells #[.int .i64 0, .int .i64 0, .int .i64 0, .int .i64 0, .int .i64 0, .int .i64 0, .int .i64 0, .int .i64 0] 49))
    have HR1 := Lib.hid (World.rowIs_alloc w1 #[.int .i64 0, .int .i64 0, .int .i64 0, .int .i64 0, .int .i64 0, .int .i64 0, .int .i64 0, .int .i64 0] 49 (fun k => .int .i64 (wantN K l 0 k : Nat)) (fun k hk => by
      have : k < 8 := hk
      rcases (by omega : k = 0 ∨ k = 1 ∨ k = 2 ∨ k = 3 ∨ k = 4 ∨ k = 5 ∨ k = 6 ∨ k = 7) with rfl | rfl | rfl | rfl | rfl | rfl | rfl | rfl <;> rfl))
    clear hm1
    go_upto_region 5 with (fail)
    generalize hw2 : w1.alloc (.cells #[.int .i64 0, .int .i64 0, .int .i64 0, .int .i64 0, .int .i64 0, .int .i64 0, .int .i64 0, .int .i64 0] 49) = w2 at HM1 HR1
    obtain ⟨Q, hQ⟩ : ∃ Q, w1.heap.size = Q := ⟨_, rfl⟩
    rw [hQ] at HM1 HR1 ⊢
    have HS0 := Lib.hid (show MineN PD w w2 p (kst l 0) (fun b => b = Q) from HM1.out)
    clear hw2 hQ
    go_wp2_with fail
    go_loopw [7] (fun c wr => ∃ i : Nat, i ≤ n ∧ c = .int .i64 i ∧ MineN PD w wr p (kst l i) (fun b => b = Q) ∧ wr.rowIs Q 49 8 (fun k => .int .i64 (wantN K l i k : Nat))) (fun c _ => n - (intOf c).toNat)
    case atStart => exact ⟨0, Nat.zero_le _, rfl, HS0.out, HR1.out⟩
    case round =>
      obtain ⟨i, hi, rfl, hmn, hrw⟩ := hrel
      have HMN := Lib.hid hmn
      have HRW := Lib.hid hrw
      clear hmn hrw
      by_cases hlt : i < n
      · obtain ⟨b, o, rfl, hc, hx⟩ := (HL.out.below HMN.out.bel).at (i := i) (by rw [HN.out]; exact hlt)
        have HG := Lib.hid (show l.getD i 0 = l[i]'(by rw [HN.out]; exact hlt) by simp [HN.out, hlt])
        obtain ⟨x, hxe⟩ : ∃ x, l[i]'(by rw [HN.out]; exact hlt) = x := ⟨_, rfl⟩
        rw [hxe] at hc hx HG
        obtain ⟨q, hq⟩ : ∃ q, q = x % 8 := ⟨_, rfl⟩
        have q8 : q < 8 := by omega
        have eq1 : (x : Int) % 8 = (q : Nat) := by omega
        have HGQ := Lib.hid (show l.getD i 0 % 8 = q by rw [HG.out, hq])
        have l0 : (q : Int) < 8 := by omega
        have l1 : (i : Int) < (n : Int) := by omega
        have l2 : (i : Int) + 1 < 256 := by omega
        clear hxe hq
        go_wp2_with fail
        have hal : Below wr.heap.size wr (wr.alloc (.cells #[.int .u8 ((i : Int) + 1)] 5)) := (Below.refl _ _).alloc (Nat.le_refl _) _
        have ha := const_bytes wr 5 (0, 0) [i + 1] (by simp) (by intro y hy; simp at hy; omega)
        have ha' : Bytes (wr.alloc (.cells #[.int .u8 ((i : Int) + 1)] 5)) (.slice (some ⟨wr.heap.size, 0, none⟩) 1 1) [i + 1] := by simpa using ha
        refine (MineN.write I (HMN.out.below I hal) q [i + 1] _ (by omega) (by omega) ha' (by simp) (by rw [kst_len]; omega)).mono ?_
        rintro _ w3 ⟨rfl, hm3, hn3⟩
        rw [show (kst l i).putE (q : Nat) [i + 1].length = 0 from kst_putE l i q q8]
        have HM3 := Lib.hid (show MineN PD w w3 p (kst l (i + 1)) (fun b => b = Q) by rw [← kst_put l i, HGQ.out]; exact hm3)
        have hQs : Q < wr.heap.size := HRW.out.lt
        have HR3 := Lib.hid (HRW.out.of_block ((hn3 Q rfl).trans (heap_alloc_old _ _ hQs)))
        clear ha ha' hal hm3 hn3 hQs
        have HKD := Lib.hid (show kept K i = (decide (i < 64) && decide (K / 2 ^ i % 2 = 1)) from rfl)
        have hcw := HR3.out.cell (i := q) q8
        have hfw := HR3.out.frozen q
        by_cases h64 : i < 64
        · have e64 : decide ((i : Int) < 64) = true := by simp; omega
          have h640 : (i : Int) < 64 := by omega
          by_cases hbit : K / 2 ^ i % 2 = 1
          · have hb := bit_true hbit
            have HK1 := Lib.hid (show kept K i = true by rw [HKD.out]; simp [h64, hbit])
            have HST := Lib.hid (show MineN PD w (w3.setCell ⟨Q, q, none⟩ (.int .i64 ((i : Int) + 1))) p (kst l (i + 1)) (fun b => b = Q) from HM3.out.turned I (Turned.set _ rfl))
            have HRT := Lib.hid ((HR3.out.set q (.int .i64 ((i : Int) + 1))).congr (g := fun k => .int .i64 (wantN K l (i + 1) k : Nat)) fun k hk => by
              by_cases e : k = q
              · rw [if_pos e, wantN_yes HK1.out (by rw [HGQ.out]; exact e)]; simp
              · rw [if_neg e, wantN_no (fun z => e (by rw [z.2, HGQ.out]))])
            clear hbit
            go_wp2
            go_roundw
            case rel => exact ⟨i + 1, by omega, by go_num, HST.out, HRT.out⟩
            case measure => simp [intOf]; omega
          · have hb := bit_false hbit
            have HRT := Lib.hid (HR3.out.congr (g := fun k => .int .i64 (wantN K l (i + 1) k : Nat)) fun k hk => by rw [wantN_no (fun z => by have := z.1; rw [HKD.out] at this; simp [hbit] at this)])
            clear hbit
            go_wp2
            go_roundw
            case rel => exact ⟨i + 1, by omega, by go_num, HM3.out, HRT.out⟩
            case measure => simp [intOf]; omega
        · have e64 : decide ((i : Int) < 64) = false := by simp; omega
          have h640 : ¬ (i : Int) < 64 := by omega
          have HRT := Lib.hid (HR3.out.congr (g := fun k => .int .i64 (wantN K l (i + 1) k : Nat)) fun k hk => by rw [wantN_no (fun z => by have := z.1; rw [HKD.out] at this; simp [h64] at this)])
          go_wp2
          go_roundw
          case rel => exact ⟨i + 1, by omega, by go_num, HM3.out, HRT.out⟩
          case measure => simp [intOf]; omega
      · obtain rfl : i = n := by omega
        go_wp2_with fail
        refine (Mine.loose I HMN.out.mine).mono ?_
        rintro _ w3 ⟨rfl, rfl⟩
        rw [kst_len]
        have ht : ((i : Int) != (i : Int)) = false := by simp
        go_wp2_with fail
        refine (MineN.crash I HMN.out (by rw [kst_len]; omega) K (by omega)).mono ?_
        rintro _ w3 ⟨rfl, hm3, hn3⟩
        have HM3 := Lib.hid hm3
        have HR3 := Lib.hid (HRW.out.of_block (hn3 Q rfl))
        clear hm3 hn3 ht
        go_wp2_with fail
        go_loopw [9] (fun c wr => ∃ k : Nat, k ≤ 8 ∧ c = .int .i64 k ∧ MineN PD w wr p ((kst l i).crash K) (fun b => b = Q) ∧ wr.rowIs Q 49 8 (fun k => .int .i64 (wantN K l i k : Nat))) (fun c _ => 8 - (intOf c).toNat)
        case atStart => exact ⟨0, Nat.zero_le _, rfl, HM3.out, HR3.out⟩
        case round =>
          obtain ⟨k, hk, rfl, hmn, hrw⟩ := hrel
          have HMK := Lib.hid hmn
          have HRK := Lib.hid hrw
          clear hmn hrw
          by_cases hlt : k < 8
          · have HCK := Lib.hid (kst_crash K l i k hlt)
            go_wp2_with fail
            refine (Mine.read I HMK.out.mine (by rw [HCK.out.2.2]; omega) k (by omega) (by omega)).mono ?_
            rintro _ w4 ⟨u4, rfl, hu4, hm4, hb4⟩
            rw [if_pos HCK.out.1, HCK.out.2.1] at hu4
            rw [HCK.out.1]
            have HM4 := Lib.hid (HMK.out.below I hb4)
            have HR4 := Lib.hid (HRK.out.of_block (hb4.block Q HRK.out.lt))
            have hcw := HR4.out.cell (i := k) hlt
            have hwl := wantN_le K l k i
            have l0 : (k : Int) < 8 := by omega
            obtain ⟨x, hx⟩ : ∃ x, wantN K l i k = x := ⟨_, rfl⟩
            rw [hx] at hu4 hcw hwl
            clear hm4 hb4 hx
            by_cases hx0 : x = 0
            · subst hx0
              rw [if_pos rfl] at hu4
              obtain ⟨A4, C4, rfl, _, _, _⟩ := hu4.1.shape
              rw [show ([] : List Nat).length = 0 from rfl]
              clear hu4
              go_wp2_with fail
              go_quiet (fail)
              go_wp2
              go_roundw
              case rel => exact ⟨k + 1, by omega, by go_num, HM4.out.below I (below_drewN _ _ _), HR4.out.of_block rfl⟩
              case measure => simp [intOf]; omega
            · rw [if_neg hx0] at hu4
              obtain ⟨b4, o4, hA4, hc4, _⟩ : ∃ b4 o4, (∃ C4, u4 = .slice (some ⟨b4, o4, none⟩) 1 C4) ∧ w4.cell? ⟨b4, o4, none⟩ = some (.int .u8 (x : Nat)) ∧ True := by
                obtain ⟨A4, C4, rfl, _, _, _⟩ := hu4.1.shape
                obtain ⟨b4, o4, rfl, h0, _⟩ := hu4.1.at (i := 0) (by simp)
                exact ⟨b4, o4, ⟨C4, rfl⟩, h0, trivial⟩
              obtain ⟨C4, rfl⟩ := hA4
              clear hu4
              have hxp : 0 < (x : Int) := by omega
              have hx1 : decide ((0 : Int) < (x : Int)) = true := by simp; omega
              have hx2 : ((x : Int) == 0) = false := by rw [beq_eq_false_iff_ne]; omega
              have hx3 : ((x : Int) != (x : Int)) = false := by simp
              have hx4 : (x : Int) < 256 := by omega
              have hx5 : IntKind.u8.wrap (x : Int) = (x : Int) := by rw [IntKind.wrap_u8]; omega
              have hx6 : 0 < x := by omega
              have hx7 : decide (0 < x) = true := by simpa using hx6
              go_wp2_with fail
              go_quiet (fail)
              go_wp2
              go_roundw
              case rel => exact ⟨k + 1, by omega, by go_num, HM4.out.below I (below_drewN _ _ _), HR4.out.of_block rfl⟩
              case measure => simp [intOf]; omega
          · obtain rfl : k = 8 := by omega
            go_wp2_with fail
            refine (answersC I wr).mono ?_
            rintro _ w5 ⟨rfl, hb5⟩
            have HM5 := Lib.hid (HMK.out.below I hb5)
            clear hb5
            go_wp2_with fail
            refine (Mine.loose I HM5.out.mine).mono ?_
            rintro _ w6 ⟨rfl, rfl⟩
            rw [show (((kst l i).crash K).loose.length : Int) = 0 from rfl]
            go_wp2_with fail
            go_ret
            exact ⟨rfl, HM5.out.bel⟩
end Go.Proofs.Ythlonnbafekjbaa.Drive
