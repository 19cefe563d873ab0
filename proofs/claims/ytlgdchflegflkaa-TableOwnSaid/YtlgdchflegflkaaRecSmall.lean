/- The document's answer whether a record is small, as a walk. -/
import Derived.Test.YtlgdchflegflkaaRecSame2
namespace Go.Proofs.Ytlgdchflegflkaa.Rec
set_option linter.unusedVariables false
open Go.ChangeShapes Go.WideShapes Go.ChangeAt Go.RowKit
open Go.Mem RecM
theorem locsSum_take_succ {L : List StpD} {k : Nat} (h : k < L.length) : locsSum (L.take (k + 1)) = locsSum (L.take k) + L[k].locs.length := by
  unfold locsSum
  rw [List.take_succ_eq_append_getElem h, List.map_append, List.sum_append]
  simp
theorem locsSum_take_le (L : List StpD) (k : Nat) : locsSum (L.take k) ≤ locsSum L := by
  conv => rhs; rw [← List.take_append_drop k L]
  unfold locsSum
  rw [List.map_append, List.sum_append]
  omega
theorem objSum_take_succ {L : List ObjD} {k : Nat} (h : k < L.length) : objSum (L.take (k + 1)) = objSum (L.take k) + (L[k].stripes.length + locsSum L[k].stripes) := by
  unfold objSum
  rw [List.take_succ_eq_append_getElem h, List.map_append, List.sum_append]
  simp
theorem objSum_take_le (L : List ObjD) (k : Nat) : objSum (L.take k) ≤ objSum L := by
  conv => rhs; rw [← List.take_append_drop k L]
  unfold objSum
  rw [List.map_append, List.sum_append]
  omega
/-- how far the count has come behind k objects -/
def Far (r : RecD) (k n : Nat) : Prop := n = base r + locsSum r.stripes + objSum (r.objects.take k) ∨ 4000 ≤ n ∧ 4000 ≤ items r
theorem small_no {r : RecD} (h : 400 < base r) : small r = false := by unfold small; simp; omega
theorem small_far {r : RecD} {n : Nat} (h0 : base r ≤ 400) (h : Far r r.objects.length n) : decide ((n : Int) < 4000) = small r := by
  unfold small
  rw [decide_eq_true h0, Bool.true_and]
  unfold Far items at *
  rw [List.take_length] at h
  rw [decide_eq_decide]
  omega
theorem small_cut {r : RecD} {n k : Nat} (h0 : base r ≤ 400) (h : Far r k n) (hn : 4000 ≤ n) : decide ((n : Int) < 4000) = small r := by
  have := objSum_take_le r.objects k
  unfold small
  rw [decide_eq_true h0, Bool.true_and]
  unfold Far items at *
  rw [decide_eq_decide]
  omega
theorem far_next {r : RecD} {k m j : Nat} (hk : k < r.objects.length) (hm : m = base r + locsSum r.stripes + objSum (r.objects.take k) + r.objects[k].stripes.length + locsSum (r.objects[k].stripes.take j))
    (hj : r.objects[k].stripes.length ≤ j ∨ 4000 ≤ m) : Far r (k + 1) m := by
  have h1 := objSum_take_succ hk
  have h2 := objSum_take_le r.objects (k + 1)
  have h3 := locsSum_take_le r.objects[k].stripes j
  unfold Far
  rcases hj with hj | hj
  · left
    rw [List.take_of_length_le hj] at hm
    omega
  · right
    refine ⟨hj, ?_⟩
    unfold items
    omega
set_option maxRecDepth 100000 in
set_option maxHeartbeats 4000000 in
theorem refSmall {W : World} {V : Value} {r : RecD} (h : RecV W V r) :
    Calls Try.prog 21 #[V] W (Saw W (small r)) := by
  obtain ⟨As, Ao, Ad, Cs, Co, Cd, rfl, h⟩ := h
  unfold recVal
  have hbw : Below W.heap.size W (W.alloc (.cells #[.int .i64 r.kind, .int .i64 r.id, .int .i64 r.size, .string r.key, .slice As r.stripes.length Cs, .slice Ao r.objects.length Co, .slice Ad r.drives.length Cd] 36)) := (Below.refl _ _).alloc (Nat.le_refl _) _
  have HS := Lib.hid ((h.below hbw).s)
  have HO := Lib.hid ((h.below hbw).o)
  have HB := Lib.hid hbw
  have l0 := h.ls
  have l1 := h.lo
  have l2 := h.ld
  unfold LenOk at l0 l1 l2
  have HBS := Lib.hid (show base r = r.stripes.length + r.objects.length + r.drives.length from rfl)
  obtain ⟨NS, hNS⟩ : ∃ NS, r.stripes.length = NS := ⟨_, rfl⟩
  obtain ⟨NO, hNO⟩ : ∃ NO, r.objects.length = NO := ⟨_, rfl⟩
  obtain ⟨ND, hND⟩ : ∃ ND, r.drives.length = ND := ⟨_, rfl⟩
  simp only [hNS, hNO, hND] at l0 l1 l2 HBS HS HO HB ⊢
  have HNS := Lib.hid hNS
  have HNO := Lib.hid hNO
  clear h hbw hNS hNO hND
  by_cases hbig : 400 < NS + NO + ND
  · have HE := Lib.hid (small_no (r := r) (by rw [HBS.out]; exact hbig))
    have hd : decide ((400 : Int) < (NS : Int) + (NO : Int) + (ND : Int)) = true := by simp; omega
    clear hbig
    go_enter Try.func21, Try.ntmps21
    go_wp2
    go_ret
    exact ⟨by rw [HE.out]; rfl, HB.out⟩
  · have hsm : base r ≤ 400 := by rw [HBS.out]; omega
    have HSM := Lib.hid hsm
    have hd : decide ((400 : Int) < (NS : Int) + (NO : Int) + (ND : Int)) = false := by simp; omega
    have hb4 : NS + NO + ND ≤ 400 := by omega
    clear hbig hsm
    go_enter Try.func21, Try.ntmps21
    go_wp2
    go_loop [3, 4] (fun t c => ∃ k m : Nat, k ≤ NS ∧ c = .int .i64 k ∧ t = .int .i64 m ∧ m = base r + locsSum (r.stripes.take k) ∧ m ≤ 400 + k * 140737488351232) (fun _ c => NS - (intOf c).toNat)
    case atStart => exact ⟨0, NS + NO + ND, Nat.zero_le _, rfl, by simp, by rw [HBS.out]; simp [locsSum], by omega⟩
    case round =>
      obtain ⟨k, m, hk, rfl, rfl, hm, hmb⟩ := hrel
      by_cases hlt : k < NS
      · have hk' : k < r.stripes.length := by rw [HNS.out]; exact hlt
        obtain ⟨b, oo, A', C', rfl, -, -, c2, -, -, -, hlen⟩ := HS.out.at hk'
        have HSU := Lib.hid (locsSum_take_succ hk')
        have HM := Lib.hid hm
        obtain ⟨x, hx⟩ : ∃ x, r.stripes[k].locs.length = x := ⟨_, rfl⟩
        rw [hx] at c2 HSU hlen
        unfold LenOk at hlen
        have q1 : (0 : Int) ≤ (k : Int) := by omega
        have q2 : (k : Int) < (NS : Int) := by omega
        clear hx hm hk'
        go_wp2
        go_round
        case rel => exact ⟨k + 1, m + x, by omega, by go_num, by go_num, by rw [HSU.out, HM.out]; omega, by omega⟩
        case measure => simp [intOf]; omega
      · obtain rfl : k = NS := by omega
        have hm2 : m = base r + locsSum r.stripes := by rw [hm, List.take_of_length_le (Nat.le_of_eq HNS.out)]
        have HF := Lib.hid (show Far r 0 m from .inl (by rw [hm2]; simp [objSum]))
        have hm60 : m ≤ 100000000000000000 := by omega
        clear hm hm2
        go_wp2
        go_loop [3, 5] (fun t c => ∃ k n : Nat, k ≤ NO ∧ c = .int .i64 k ∧ t = .int .i64 n ∧ Far r k n ∧ n ≤ 200000000000000000) (fun _ c => NO - (intOf c).toNat)
        case atStart => exact ⟨0, m, Nat.zero_le _, rfl, rfl, HF.out, by omega⟩
        case round =>
          obtain ⟨j, n, hj, rfl, rfl, hfar, hnb⟩ := hrel
          by_cases hjt : j < NO
          · by_cases hn4 : n < 4000
            · have hj' : j < r.objects.length := by rw [HNO.out]; exact hjt
              obtain ⟨b, oo, A', C', rfl, -, -, -, c3, hst, -, -, -, hlen⟩ := HO.out.at hj'
              have HFN := Lib.hid (fun m i => far_next (r := r) (k := j) (m := m) (j := i) hj')
              have HN := Lib.hid (show n = base r + locsSum r.stripes + objSum (r.objects.take j) from hfar.elim id (fun q => by omega))
              have HST := Lib.hid hst
              obtain ⟨x, hx⟩ : ∃ x, r.objects[j] = x := ⟨_, rfl⟩
              rw [hx] at c3 HFN HST hlen
              obtain ⟨NX, hNX⟩ : ∃ NX, x.stripes.length = NX := ⟨_, rfl⟩
              rw [hNX] at c3 HFN HST hlen
              have HNX := Lib.hid hNX
              unfold LenOk at hlen
              have q1 : (0 : Int) ≤ (j : Int) := by omega
              have q2 : (j : Int) < (NO : Int) := by omega
              clear hx hNX hj' hfar hst
              go_wp2
              go_loop [3, 6] (fun t c => ∃ i y : Nat, i ≤ NX ∧ c = .int .i64 i ∧ t = .int .i64 y ∧ y = n + NX + locsSum (x.stripes.take i) ∧ y ≤ 4000 + 2 * 140737488351232) (fun _ c => NX - (intOf c).toNat)
              case atStart => exact ⟨0, n + NX, Nat.zero_le _, rfl, by simp, by simp [locsSum], by omega⟩
              case round =>
                obtain ⟨i, y, hi, rfl, rfl, hy, hyb⟩ := hrel
                by_cases hit : i < NX
                · by_cases hy4 : y < 4000
                  · have hi' : i < x.stripes.length := by rw [HNX.out]; exact hit
                    obtain ⟨b2, o2, A2, C2, rfl, -, -, d2, -, -, -, hlen2⟩ := HST.out.at hi'
                    have HSU := Lib.hid (locsSum_take_succ hi')
                    have HY := Lib.hid hy
                    obtain ⟨z, hz⟩ : ∃ z, x.stripes[i].locs.length = z := ⟨_, rfl⟩
                    rw [hz] at d2 HSU hlen2
                    unfold LenOk at hlen2
                    have q3 : (0 : Int) ≤ (i : Int) := by omega
                    have q4 : (i : Int) < (NX : Int) := by omega
                    clear hz hy hi'
                    go_wp2
                    go_round
                    case rel => exact ⟨i + 1, y + z, by omega, by go_num, by go_num, by rw [HSU.out, HY.out]; omega, by omega⟩
                    case measure => simp [intOf]; omega
                  · have HF2 := Lib.hid (HFN.out y i (by rw [hy, HN.out]) (.inr (by omega)))
                    have hd4 : decide ((y : Int) < 4000) = false := by simp; omega
                    clear hy
                    go_wp2
                    go_round
                    case rel => exact ⟨j + 1, y, by omega, by go_num, rfl, HF2.out, by omega⟩
                    case measure => simp [intOf]; omega
                · obtain rfl : i = NX := by omega
                  have HF2 := Lib.hid (HFN.out y i (by rw [hy, HN.out]) (.inl (Nat.le_refl _)))
                  clear hy
                  go_wp2
                  go_round
                  case rel => exact ⟨j + 1, y, by omega, by go_num, rfl, HF2.out, by omega⟩
                  case measure => simp [intOf]; omega
            · have HE := Lib.hid (small_cut HSM.out hfar (by omega))
              have hd4 : decide ((n : Int) < 4000) = false := by simp; omega
              clear hfar
              go_wp2
              go_ret
              exact ⟨by rw [← HE.out, hd4]; rfl, HB.out⟩
          · obtain rfl : j = NO := by omega
            have HE := Lib.hid (small_far (n := n) HSM.out (by rw [HNO.out]; exact hfar))
            clear hfar
            go_wp2
            go_ret
            exact ⟨by rw [← HE.out]; rfl, HB.out⟩
end Go.Proofs.Ytlgdchflegflkaa.Rec
