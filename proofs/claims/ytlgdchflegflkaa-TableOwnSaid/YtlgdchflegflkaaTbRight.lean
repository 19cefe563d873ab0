/- The document's answers whether a stripe is right, and an object, as walks. -/
import Derived.Test.YtlgdchflegflkaaTbMoves
namespace Tb
open Go Go.Mem Kl
/-- the first i places are right, and unlike -/
def OkTo (l : List Int) (i : Nat) : Prop := (∀ j (h : j < l.length), j < i → 0 ≤ l[j] ∧ l[j] ≤ 11) ∧ ∀ a b (ha : a < l.length) (hb : b < l.length), a < b → b < i → l[a] ≠ l[b]
theorem okTo_zero (l : List Int) : OkTo l 0 := ⟨fun _ _ h => absurd h (by omega), fun _ _ _ _ _ h => absurd h (by omega)⟩
theorem okTo_succ {l : List Int} {i : Nat} (hi : i < l.length) (h : OkTo l i) (h0 : 0 ≤ l[i]) (h1 : l[i] ≤ 11) (h2 : ∀ a (ha : a < l.length), a < i → l[i] ≠ l[a]) : OkTo l (i + 1) := by
  refine ⟨fun j hj q => ?_, fun a b ha hb hab q => ?_⟩
  · by_cases e : j = i
    · subst e; exact ⟨h0, h1⟩
    · exact h.1 j hj (by omega)
  · by_cases e : b = i
    · subst e; exact fun z => h2 a ha hab z.symm
    · exact h.2 a b ha hb hab (by omega)
theorem okTo_all {n : Int} {s : StpD} (h0 : 0 ≤ s.ep) (h1 : s.ep ≤ 1073741824) (h2 : (s.locs.length : Int) = n) (h : OkTo s.locs s.locs.length) : decide (StpOk n s) = true := by
  apply decide_eq_true
  refine ⟨h0, h1, h2, fun x hx => ?_, ?_⟩
  · obtain ⟨j, hj, rfl⟩ := List.getElem_of_mem hx
    exact h.1 j hj hj
  · exact List.pairwise_iff_getElem.2 fun a b ha hb hab => h.2 a b ha hb hab hb
theorem stp_low {n : Int} {s : StpD} (h : s.ep < 0) : decide (StpOk n s) = false := decide_eq_false fun q => by have := q.1; omega
theorem stp_high {n : Int} {s : StpD} (h : 1073741824 < s.ep) : decide (StpOk n s) = false := decide_eq_false fun q => by have := q.2.1; omega
theorem stp_len {n : Int} {s : StpD} (h : ¬ (s.locs.length : Int) = n) : decide (StpOk n s) = false := decide_eq_false fun q => h q.2.2.1
theorem stp_loc {n : Int} {s : StpD} {i : Nat} (hi : i < s.locs.length) (h : ¬ (0 ≤ s.locs[i] ∧ s.locs[i] ≤ 11)) : decide (StpOk n s) = false := decide_eq_false fun q => h (q.2.2.2.1 _ (List.getElem_mem hi))
theorem stp_two {n : Int} {s : StpD} {i k : Nat} (hi : i < s.locs.length) (hk : k < s.locs.length) (hki : k < i) (h : s.locs[i] = s.locs[k]) : decide (StpOk n s) = false :=
  decide_eq_false fun q => List.pairwise_iff_getElem.1 q.2.2.2.2 k i hk hi hki h.symm
end Tb
namespace Go.Proofs.Ytlgdchflegflkaa.Tbl
set_option linter.unusedVariables false
open Go.ChangeShapes Go.WideShapes Go.ChangeAt Go.RowKit
open Go.Mem RecM
set_option maxHeartbeats 4000000 in
theorem rightC {w : World} {p : Nat} {k m : Int} (ck : w.cell? ⟨p, 0, none⟩ = some (.int .i64 k)) (cm : w.cell? ⟨p, 1, none⟩ = some (.int .i64 m)) (k0 : 0 ≤ k) (k1 : k ≤ 1000) (m0 : 0 ≤ m) (m1 : m ≤ 1000) (s : StpD) (V : Value) (hV : StpIs w V s) :
    Calls Try.prog 31 #[.pointer (some ⟨p, 0, none⟩), V] w fun e w' => e = .returned (.bool (decide (Tb.StpOk (k + m) s))) ∧ Below w.heap.size w w' := by
  obtain ⟨A, C, rfl, hi, i0, i1, i2⟩ := hV
  obtain ⟨sid, ep, l⟩ := s
  dsimp only at hi i0 i1 i2 ⊢
  obtain ⟨w1, hw1⟩ : ∃ w1, w1 = w.alloc (.cells #[.int .i64 sid, .int .i64 ep, .slice A l.length C] 42) := ⟨_, rfl⟩
  have hx : Below w.heap.size w w1 := by rw [hw1]; exact (Below.refl _ _).alloc (Nat.le_refl _) _
  have b1 : w1.cell? ⟨w.heap.size, 1, none⟩ = some (.int .i64 ep) := by rw [hw1]; exact cells_of w _ _ (i := 1) (by simp)
  have b2 : w1.cell? ⟨w.heap.size, 2, none⟩ = some (.slice A l.length C) := by rw [hw1]; exact cells_of w _ _ (i := 2) (by simp)
  have c0 := below_cell hx _ _ ck
  have c1 := below_cell hx _ _ cm
  have HI := Lib.hid (hi.below hx)
  obtain ⟨gA1, gA2⟩ : l.length ≤ C ∧ C ≤ 9223372036854775807 := by
    obtain ⟨A', C', e, g1, g2, -⟩ := hi.shape
    cases e
    exact ⟨g1, g2⟩
  have HW1 := Lib.hid hw1
  have HLOW := Lib.hid (fun q => Tb.stp_low (n := k + m) (s := ⟨sid, ep, l⟩) q)
  have HHIGH := Lib.hid (fun q => Tb.stp_high (n := k + m) (s := ⟨sid, ep, l⟩) q)
  have HLEN := Lib.hid (show ¬ (l.length : Int) = k + m → _ from fun q => Tb.stp_len (n := k + m) (s := ⟨sid, ep, l⟩) q)
  have HALL := Lib.hid (show 0 ≤ ep → ep ≤ 1073741824 → (l.length : Int) = k + m → Tb.OkTo l l.length → _ from fun a b c d => Tb.okTo_all (n := k + m) (s := ⟨sid, ep, l⟩) a b c d)
  have HLOC := Lib.hid (show ∀ i (hi : i < l.length), ¬ (0 ≤ l[i] ∧ l[i] ≤ 11) → _ from fun i hi q => Tb.stp_loc (n := k + m) (s := ⟨sid, ep, l⟩) hi q)
  have HTWO := Lib.hid (show ∀ i j (hi : i < l.length) (hj : j < l.length), j < i → l[i] = l[j] → _ from fun i j hi hj hij q => Tb.stp_two (n := k + m) (s := ⟨sid, ep, l⟩) hi hj hij q)
  obtain ⟨N, hN⟩ : ∃ N, l.length = N := ⟨_, rfl⟩
  have HN := Lib.hid hN
  obtain ⟨B, hB⟩ : ∃ B, w.heap.size = B := ⟨_, rfl⟩
  have HBE := Lib.hid hB
  obtain ⟨r, hr⟩ : ∃ r, decide (Tb.StpOk (k + m) ⟨sid, ep, l⟩) = r := ⟨_, rfl⟩
  rw [hB] at b1 b2
  rw [hN] at b2 HI gA1 HLEN HALL
  rw [hr] at HLOW HHIGH HLEN HALL HLOC HTWO ⊢
  have j1 : ep ≤ 9223372036854775807 := i1.2
  have j0 : -9223372036854775808 ≤ ep := i1.1
  have HFIN := Lib.hid (fun (n : Nat) => (show Below w.heap.size w (w1.drewN n) from hx.trans (below_drewN _ _ _)))
  rw [hN] at hw1
  have HW1 := Lib.hid hw1
  clear ck cm hi i0 i1 i2 hx hB hw1 hr
  rw [hN]
  clear hN
  by_cases e0 : ep < 0
  · have HR := Lib.hid (HLOW.out e0)
    have d0 : decide (ep < 0) = true := decide_eq_true e0
    clear e0
    go_enter Try.func31, Try.ntmps31
    go_wp2_with fail
    rw [← HW1.out, HBE.out]
    go_quiet (fail)
    go_wp2
    go_ret
    exact ⟨by rw [HR.out]; rfl, HFIN.out _⟩
  have d0 : decide (ep < 0) = false := decide_eq_false e0
  by_cases e1 : 1073741824 < ep
  · have HR := Lib.hid (HHIGH.out e1)
    have d1 : decide (1073741824 < ep) = true := decide_eq_true e1
    clear e1 e0
    go_enter Try.func31, Try.ntmps31
    go_wp2_with fail
    rw [← HW1.out, HBE.out]
    go_quiet (fail)
    go_wp2
    go_ret
    exact ⟨by rw [HR.out]; rfl, HFIN.out _⟩
  have d1 : decide (1073741824 < ep) = false := decide_eq_false e1
  by_cases e2 : (N : Int) = k + m
  · have HA := Lib.hid (fun q => HALL.out (by omega) (by omega) e2 q)
    have d2 : ((N : Int) != k + m) = false := by rw [e2]; simp
    have HN2 := Lib.hid e2
    have hn2 : N ≤ 2000 := by omega
    clear e2 e1 e0
    go_enter Try.func31, Try.ntmps31
    go_wp2_with fail
    rw [← HW1.out, HBE.out]
    go_quiet (fail)
    go_wp2_with fail
    clear d0 d1 d2
    go_loopw [5] (fun c wr => ∃ i : Nat, i ≤ N ∧ c = .int .i64 i ∧ Tb.OkTo l i ∧ ∃ n, wr = w1.drewN n) (fun c _ => N - (intOf c).toNat)
    case atStart => exact ⟨0, Nat.zero_le _, rfl, Tb.okTo_zero _, _, rfl⟩
    case round =>
      obtain ⟨i, hi, rfl, hs, n, rfl⟩ := hrel
      have HS := Lib.hid hs
      by_cases hlt : i < N
      · have hil : i < l.length := by rw [HN.out]; exact hlt
        obtain ⟨b, o, rfl, hc, hcb⟩ := HI.out.at hil
        have HLO := Lib.hid (HLOC.out i hil)
        have HTW := Lib.hid (fun j hj hij => HTWO.out i j hil hj hij)
        have HNX := Lib.hid (fun q0 q1 q2 => Tb.okTo_succ hil hs q0 q1 q2)
        obtain ⟨x, hx⟩ : ∃ x, l[i] = x := ⟨_, rfl⟩
        rw [hx] at hc hcb HLO HTW HNX
        have q1 : (0 : Int) ≤ (i : Int) := by omega
        have q2 : (i : Int) < (N : Int) := by omega
        clear hx hs
        by_cases d1 : x < 0
        · have HE := Lib.hid (HLO.out (by omega))
          have e1 : decide (x < 0) = true := decide_eq_true d1
          go_wp2
          go_ret
          exact ⟨by rw [HE.out]; rfl, HFIN.out _⟩
        have e1 : decide (x < 0) = false := decide_eq_false d1
        by_cases d2 : 11 < x
        · have HE := Lib.hid (HLO.out (by omega))
          have e2 : decide (11 < x) = true := decide_eq_true d2
          go_wp2
          go_ret
          exact ⟨by rw [HE.out]; rfl, HFIN.out _⟩
        have e2 : decide (11 < x) = false := decide_eq_false d2
        have HNY := Lib.hid (fun q => HNX.out (by omega) (by omega) q)
        clear d1 d2
        go_wp2_with fail
        go_loopw [6] (fun c wr => ∃ j : Nat, j ≤ i ∧ c = .int .i64 j ∧ (∀ a (ha : a < l.length), a < j → ¬ x = l[a]) ∧ ∃ n, wr = w1.drewN n) (fun c _ => i - (intOf c).toNat)
        case atStart => exact ⟨0, Nat.zero_le _, rfl, fun _ _ q => absurd q (by omega), _, rfl⟩
        case round =>
          obtain ⟨j, hj, rfl, hs2, n2, rfl⟩ := hrel
          have HS2 := Lib.hid hs2
          by_cases hlt2 : j < i
          · have hjl : j < l.length := by omega
            have hcj := (HI.out.here hjl).1
            have HT2 := Lib.hid (HTW.out j hjl hlt2)
            have HNZ := Lib.hid (show ¬ x = l[j] → ∀ a (ha : a < l.length), a < j + 1 → ¬ x = l[a] from fun q a ha hq => by
              by_cases e : a = j
              · subst e; exact q
              · exact hs2 a ha (by omega))
            obtain ⟨y, hy⟩ : ∃ y, l[j] = y := ⟨_, rfl⟩
            rw [hy] at hcj HT2 HNZ
            have q3 : (0 : Int) ≤ (j : Int) := by omega
            have q4 : (j : Int) < (N : Int) := by omega
            clear hy hs2
            by_cases hxy : x = y
            · have HE := Lib.hid (HT2.out hxy)
              have f1 : (x == y) = true := by rw [hxy]; simp
              clear hxy
              go_wp2_with fail
              go_quiet (fail)
              go_wp2
              go_ret
              exact ⟨by rw [HE.out]; rfl, by rw [World.drewN_drewN]; exact HFIN.out _⟩
            · have HE := Lib.hid (HNZ.out hxy)
              have f1 : (x == y) = false := beq_eq_false_iff_ne.2 hxy
              clear hxy
              go_wp2_with fail
              go_quiet (fail)
              go_wp2
              go_roundw
              case rel => exact ⟨j + 1, by omega, by go_num, HE.out, _, rfl⟩
              case measure => simp [intOf]; omega
          · obtain rfl : j = i := by omega
            clear hlt2 hs2
            go_wp2
            go_roundw
            case rel => exact ⟨j + 1, by omega, by go_num, HNY.out (fun a ha q => HS2.out a ha q), _, rfl⟩
            case measure => simp [intOf]; omega
      · obtain rfl : i = N := by omega
        have HE := Lib.hid (HA.out HS.out)
        clear hlt hs
        go_wp2
        go_ret
        exact ⟨by rw [HE.out]; rfl, HFIN.out _⟩
  · have HR := Lib.hid (HLEN.out e2)
    have d2 : ((N : Int) != k + m) = true := by rw [bne_iff_ne]; exact e2
    clear e2 e1 e0
    go_enter Try.func31, Try.ntmps31
    go_wp2_with fail
    rw [← HW1.out, HBE.out]
    go_quiet (fail)
    go_wp2
    go_ret
    exact ⟨by rw [HR.out]; rfl, HFIN.out _⟩
end Go.Proofs.Ytlgdchflegflkaa.Tbl
