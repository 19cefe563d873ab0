/- Each of some drives is the nearest one of some stripe: the law, as a walk. -/
import Derived.Test.YtcgjoidfmigpnaaDoorRkNear
namespace Go.Proofs.YtcgjoidfmigpnaaDoor.Rk
set_option linter.unusedVariables false
open Go.ChangeShapes Go.WideShapes Go.ChangeAt Go.RowKit
open Go.Mem Sha Hash Rec
theorem made_rowZ (w : World) (t n : Nat) : RowZ (w.alloc (.cells (madeCells #[.int .i64 0] n) t)) w.heap.size (List.replicate n 0) := by
  have hm : (madeCells #[.int .i64 0] n : Array Value).size = n := size_madeCells _ _
  have h := World.rowIs_alloc w (madeCells #[.int .i64 0] n) t (fun _ => .int .i64 0) (fun i hi => by
    have hi' : i < n := by rw [hm] at hi; exact hi
    simp [madeCells, hi', Nat.mod_one])
  refine ⟨fun i hi => ?_, fun i _ => h.frozen i⟩
  have hi' : i < n := by simpa using hi
  rw [h.cell (i := i) (by rw [hm]; exact hi')]
  simp [List.getD, hi']
def onesTo (n k : Nat) : List Int := List.replicate k 1 ++ List.replicate (n - k) 0
theorem onesTo_len {n k : Nat} (h : k ≤ n) : (onesTo n k).length = n := by simp [onesTo]; omega
theorem onesTo_set {n k : Nat} (h : k < n) : (onesTo n k).set k 1 = onesTo n (k + 1) := by
  unfold onesTo
  rw [List.set_append_right _ _ (by simp), List.length_replicate, Nat.sub_self, show n - k = (n - (k + 1)) + 1 by omega, List.replicate_succ, List.set_cons_zero, List.replicate_succ', List.append_assoc]
  rfl
/-- how often each one was the nearest: at least once, where there was a stripe -/
def CntAt (k s : Nat) (cnt : List Int) : Prop := cnt.length = k ∧ ∀ i, i < k → 0 ≤ cnt.getD i 0 ∧ cnt.getD i 0 ≤ s ∧ ∀ s' : Nat, s' < s → tgt s' (List.replicate k 1) 1 = [(i : Int)] → 1 ≤ cnt.getD i 0
theorem CntAt.start (k : Nat) : CntAt k 0 (List.replicate k 0) := ⟨by simp, fun i hi => ⟨by simp [List.getD, hi], by simp [List.getD, hi], fun s' h => absurd h (by omega)⟩⟩
theorem CntAt.next {k s x : Nat} {cnt : List Int} (h : CntAt k s cnt) (hx : x < k) (ht : tgt s (List.replicate k 1) 1 = [(x : Int)]) : CntAt k (s + 1) (cnt.set x (cnt.getD x 0 + 1)) := by
  obtain ⟨h1, h2⟩ := h
  refine ⟨by simpa using h1, fun i hi => ?_⟩
  obtain ⟨k1, k2, k3⟩ := h2 i hi
  have e : (cnt.set x (cnt.getD x 0 + 1)).getD i 0 = if i = x then cnt.getD x 0 + 1 else cnt.getD i 0 := by
    by_cases q : i = x
    · subst q; rw [if_pos rfl]; simp [List.getD, show i < cnt.length by omega]
    · rw [if_neg q]; simp [List.getD, Ne.symm q]
  rw [e]
  by_cases q : i = x
  · subst q
    rw [if_pos rfl]
    exact ⟨by omega, by omega, fun _ _ _ => by omega⟩
  · rw [if_neg q]
    refine ⟨k1, by omega, fun s' hs' ht' => ?_⟩
    by_cases e : s' = s
    · subst e
      rw [ht] at ht'
      have := (List.cons.inj ht').1
      omega
    · exact k3 s' (by omega) ht'
theorem tgt_ones {k : Nat} (hk : 2 ≤ k) (s : Int) : tgtOk (List.replicate k 1) 1 = true ∧ ∃ x : Nat, x < k ∧ tgt s (List.replicate k 1) 1 = [(x : Int)] := by
  have hok : tgtOk (List.replicate k 1) 1 = true := by
    unfold tgtOk
    rw [insOf_ones]
    simp [upTo]
    omega
  refine ⟨hok, ?_⟩
  have hl := tgt_len (s := s) hok
  rw [tgt_yes hok] at hl ⊢
  cases ho : (ord s (insOf (List.replicate k 1))).take (1 : Int).toNat with
  | nil => rw [ho] at hl; simp at hl
  | cons a m =>
    rw [ho] at hl
    have hm : m = [] := List.length_eq_zero_iff.1 (by simpa using hl)
    subst hm
    have ha : a ∈ ord s (insOf (List.replicate k 1)) := List.mem_of_mem_take (i := (1 : Int).toNat) (by rw [ho]; simp)
    rw [ord_mem, insOf_ones] at ha
    obtain ⟨x, hx, rfl⟩ := List.mem_map.1 ha
    exact ⟨x, List.mem_range.1 hx, rfl⟩
/-- both rows, and all that is older -/
structure SprAt (W : World) (K g1 g2 : Nat) (m cnt : List Int) (w : World) : Prop where
  one : RowZ w g1 m
  two : RowZ w g2 cnt
  bel : Below W.heap.size W w
set_option maxHeartbeats 8000000 in
theorem RankSpreadsC {T : World → Prop} (I : RankI T) (a : Int) (ha0 : 0 ≤ a) (ha1 : a ≤ 255) (W : World) (hT : T W) :
    Calls Tryd.prog 7 #[.int .u8 a] W fun e w' => e = .returned (.bool true) ∧ Below W.heap.size W w' := by
  have HT := Lib.hid hT
  obtain ⟨K, hK⟩ : ∃ K : Nat, a % 6 + 2 = (K : Int) := ⟨(a % 6 + 2).toNat, by omega⟩
  have hK2 : 2 ≤ K := by omega
  have hK7 : K ≤ 7 := by omega
  have hmk := run_make_row' (P := Tryd.prog) 22 3 (.int .i64 0) 8 Tryd.underlying22 infoInt rfl .i64 .i64 K (by omega) (by omega)
  have hal : Below W.heap.size W (W.alloc (.cells (madeCells #[.int .i64 0] K) 3)) := (Below.refl _ _).alloc (Nat.le_refl _) _
  have HST := Lib.hid (show RowZ (W.alloc (.cells (madeCells #[.int .i64 0] K) 3)) W.heap.size (onesTo K 0) by
    have := made_rowZ W 3 K
    simpa [onesTo] using this)
  have HAL := Lib.hid hal
  clear hT hal
  go_enter Tryd.func7, Tryd.ntmps7
  go_wp2
  go_loopw [5] (fun c wr => ∃ k : Nat, k ≤ K ∧ c = .int .i64 k ∧ RowZ wr W.heap.size (onesTo K k) ∧ Below W.heap.size W wr) (fun c _ => K - (intOf c).toNat)
  case atStart => exact ⟨0, Nat.zero_le _, rfl, HST.out, HAL.out⟩
  case round =>
    obtain ⟨k, hk, rfl, hro, hbl⟩ := hrel
    by_cases hlt : k < K
    · have q1 : (k : Int) < (K : Int) := by omega
      have q2 : (0 : Int) ≤ (k : Int) := by omega
      have hll := onesTo_len hk
      have fr := hro.free k (by rw [hll]; exact hlt)
      have cc := hro.cell k (by rw [hll]; exact hlt)
      have HN := Lib.hid (show RowZ (wr.setCell ⟨W.heap.size, k, none⟩ (.int .i64 1)) W.heap.size (onesTo K (k + 1)) ∧ Below W.heap.size W (wr.setCell ⟨W.heap.size, k, none⟩ (.int .i64 1)) from ⟨by rw [← onesTo_set hlt]; exact hro.set k 1, hbl.setCell (Nat.le_refl _) _⟩)
      clear hro hbl hll
      go_wp2
      go_roundw
      case rel => exact ⟨k + 1, by omega, by go_num, HN.out.1, HN.out.2⟩
      case measure => simp [intOf]; omega
    · obtain rfl : k = K := by omega
      have hone : onesTo k k = List.replicate k 1 := by simp [onesTo]
      rw [hone] at hro
      have hlt0 := hro.lt (by simp; omega)
      have hal : Below wr.heap.size wr (wr.alloc (.cells (madeCells #[.int .i64 0] k) 3)) := (Below.refl _ _).alloc (Nat.le_refl _) _
      obtain ⟨g2, hg2⟩ : ∃ g2, wr.heap.size = g2 := ⟨_, rfl⟩
      have HG2 := Lib.hid hg2
      have hgg : W.heap.size < g2 := by omega
      have HS0 := Lib.hid (show SprAt W k W.heap.size wr.heap.size (List.replicate k 1) (List.replicate k 0) (wr.alloc (.cells (madeCells #[.int .i64 0] k) 3)) from ⟨hro.below (by simp; omega) hal, made_rowZ wr 3 k, hbl.trans (hal.mono (by omega))⟩)
      have HS1 := Lib.hid (show ∃ cnt, SprAt W k W.heap.size wr.heap.size (List.replicate k 1) cnt (wr.alloc (.cells (madeCells #[.int .i64 0] k) 3)) ∧ CntAt k 0 cnt from ⟨_, HS0.out, CntAt.start k⟩)
      have HWZ := Lib.hid (show W.heap.size ≤ wr.heap.size from hbl.size)
      clear hro hbl hone hlt0 hal hg2
      obtain ⟨w0, hw0⟩ : ∃ w0 : World, w0 = wr := ⟨_, rfl⟩
      subst hw0
      go_wp2
      go_loopw [7] (fun c wr => ∃ s : Nat, s ≤ 400 ∧ c = .int .i64 s ∧ ∃ cnt, SprAt W k W.heap.size w0.heap.size (List.replicate k 1) cnt wr ∧ CntAt k s cnt) (fun c _ => 400 - (intOf c).toNat)
      case atStart => exact ⟨0, by omega, rfl, HS1.out⟩
      case round =>
        obtain ⟨s, hs, rfl, cnt, hsp, hcn⟩ := hrel
        have HSP := Lib.hid hsp
        have HCN := Lib.hid hcn
        by_cases hs4 : s < 400
        · have q1 : (s : Int) < 400 := by omega
          have HI := Lib.hid (show Ints wr (.slice (some ⟨W.heap.size, 0, none⟩) k k) (List.replicate k 1) by
            have := hsp.one.ints (C := k) (fun x hx => by have := List.eq_of_mem_replicate hx; subst this; exact ⟨by omega, by omega⟩) (by simp) (by omega)
            rw [List.length_replicate] at this
            exact this)
          obtain ⟨hok, x, hx, htg⟩ := tgt_ones (k := k) hK2 s
          have HOK := Lib.hid hok
          have HTG := Lib.hid htg
          clear hsp hcn hok htg
          go_wp2_with fail
          refine (I.targets _ s _ _ 1 (I.keep _ _ HT.out HSP.out.bel) HI.out ⟨by omega, by omega⟩ ⟨by omega, by omega⟩ (by simp; omega)).mono ?_
          rintro _ w2 ⟨u, rfl, hu, hb2⟩
          rw [HOK.out]
          rw [HTG.out] at hu
          obtain ⟨A, C, rfl, -⟩ := hu.shape
          obtain ⟨b, o, rfl, hc, -⟩ := hu.at (i := 0) (by simp)
          simp only [List.getElem_cons_zero, Nat.add_zero, List.length_cons, List.length_nil, Nat.zero_add] at hc ⊢
          have h1 := HSP.out.one.below (by simp; omega) hb2
          have h2 := HSP.out.two.below (by rw [HCN.out.1]; omega) hb2
          have hb3 := HSP.out.bel.trans (hb2.mono HSP.out.bel.size)
          obtain ⟨c0, c1, -⟩ := HCN.out.2 x hx
          have hcc := h2.cell x (by rw [HCN.out.1]; exact hx)
          have hff := h2.free x (by rw [HCN.out.1]; exact hx)
          obtain ⟨cv, hcv⟩ : ∃ cv, cnt.getD x 0 = cv := ⟨_, rfl⟩
          have HNX := Lib.hid (show ∃ cnt', SprAt W k W.heap.size w0.heap.size (List.replicate k 1) cnt' (w2.setCell ⟨w0.heap.size, x, none⟩ (.int .i64 (cv + 1))) ∧ CntAt k (s + 1) cnt' from
            ⟨_, ⟨h1.keep (Below.heap_setCell _ _ _ _ (fun q => by have h9 : W.heap.size = w0.heap.size := q; have := HG2.out; omega)), by rw [← hcv]; exact h2.set x _, hb3.setCell HWZ.out _⟩, HCN.out.next hx HTG.out⟩)
          rw [hcv] at hcc c0 c1
          have q3 : (0 : Int) ≤ (x : Int) := by omega
          have q4 : (x : Int) < (k : Int) := by omega
          clear hu hb2 h1 h2 hb3 hcv
          go_wp2
          go_roundw
          case rel => exact ⟨s + 1, by omega, by go_num, HNX.out⟩
          case measure => simp [intOf]; omega
        · obtain rfl : s = 400 := by omega
          have HALL := Lib.hid (show ∀ i, i < k → ∃ c : Int, 1 ≤ c ∧ c ≤ 400 ∧ wr.cell? ⟨w0.heap.size, i, none⟩ = some (.int .i64 c) from fun i hi => by
            obtain ⟨z0, z1, z2⟩ := hcn.2 i hi
            obtain ⟨s', hs', ht⟩ := spread hK2 hK7 hi
            exact ⟨_, z2 s' hs' ht, by omega, hsp.two.cell i (by rw [hcn.1]; exact hi)⟩)
          clear hsp hcn
          go_wp2
          go_loop [10] (fun c => ∃ i : Nat, i ≤ k ∧ c = .int .i64 i) (fun c => k - (intOf c).toNat)
          case atStart => exact ⟨0, Nat.zero_le _, rfl⟩
          case round =>
            obtain ⟨i, hi, rfl⟩ := hrel
            by_cases hik : i < k
            · obtain ⟨c, c0, c1, hcc⟩ := HALL.out i hik
              have q5 : (i : Int) < (k : Int) := by omega
              have q6 : (0 : Int) ≤ (i : Int) := by omega
              have q7 : (c == 0) = false := by simp; omega
              go_wp2
              go_round
              case rel => exact ⟨i + 1, by omega, by go_num⟩
              case measure => simp [intOf]; omega
            · obtain rfl : i = k := by omega
              have q5 : ¬ (i : Int) < (i : Int) := by omega
              go_wp2_with fail
              refine (answersC I _ (I.keep _ _ HT.out HSP.out.bel)).mono ?_
              rintro _ w4 ⟨rfl, hb4⟩
              have HB4 := Lib.hid (below_nxt HSP.out.bel hb4 (Nat.le_refl _))
              clear hb4
              go_wp2
              go_ret
              exact ⟨rfl, HB4.out⟩
end Go.Proofs.YtcgjoidfmigpnaaDoor.Rk
