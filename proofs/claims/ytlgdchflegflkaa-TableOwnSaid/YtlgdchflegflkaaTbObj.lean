/- The document's answer whether an object is right, as a walk. -/
import Derived.Test.YtlgdchflegflkaaTbRight
import Derived.Deep.Cut
import Derived.Deep.RegionHeld3
namespace Tb
open Go Go.Mem Kl
/-- so many stripes as are needed, and no more -/
theorem nStp_is {k size : Int} {n : Nat} (hk : 1 ≤ k) (h0 : 0 ≤ size) (h1 : size ≤ n * k * 8) (h2 : n = 0 ∨ ((n : Int) - 1) * k * 8 < size) : (n : Int) = nStp k size := by
  unfold nStp
  have e : (n : Int) * k * 8 = n * (8 * k) := by rw [Int.mul_assoc, Int.mul_comm k 8]
  have e' : ((n : Int) - 1) * k * 8 = n * (8 * k) - 8 * k := by rw [Int.mul_assoc, Int.mul_comm k 8, Int.sub_mul, Int.one_mul]
  rw [e] at h1
  rw [e'] at h2
  have hp : 0 < 8 * k := by omega
  generalize 8 * k = d at *
  symm
  refine Int.le_antisymm (Int.le_of_lt_add_one (Int.ediv_lt_of_lt_mul hp ?_)) (Int.le_ediv_of_mul_le hp ?_)
  · rw [Int.add_mul, Int.one_mul]; omega
  · rcases h2 with rfl | h2
    · simp; omega
    · omega
theorem mul_up {n : Nat} {k : Int} (hn : n ≤ 100) (h0 : 0 ≤ k) (h1 : k ≤ 1000) : 0 ≤ (n : Int) * k ∧ (n : Int) * k ≤ 100000 := by
  refine ⟨Int.mul_nonneg (by omega) h0, ?_⟩
  have a : (n : Int) * k ≤ 100 * k := Int.mul_le_mul_of_nonneg_right (by omega) h0
  omega
theorem mul_low {n : Nat} {k : Int} (h0 : 1 ≤ k) : (n : Int) ≤ n * k := by
  have := Int.mul_le_mul_of_nonneg_left h0 (show (0 : Int) ≤ n by omega)
  rwa [Int.mul_one] at this
/-- the first i stripes are -/
def GoodTo (N n : Int) (l : List StpD) (i : Nat) : Prop := ∀ j (h : j < l.length), j < i → l[j].id = n + j ∧ StpOk N l[j]
theorem goodTo_zero (N n : Int) (l : List StpD) : GoodTo N n l 0 := fun _ _ h => absurd h (by omega)
theorem goodTo_succ {N n : Int} {l : List StpD} {i : Nat} (hi : i < l.length) (h : GoodTo N n l i) (h0 : l[i].id = n + i) (h1 : StpOk N l[i]) : GoodTo N n l (i + 1) := fun j hj q => by
  by_cases e : j = i
  · subst e; exact ⟨h0, h1⟩
  · exact h j hj (by omega)
theorem numbered_iff : ∀ {l : List StpD} {n : Int}, Numbered n l ↔ ∀ j (h : j < l.length), l[j].id = n + j
  | [], n => ⟨fun _ j h => absurd h (by simp), fun _ => trivial⟩
  | s :: l, n => by
    unfold Numbered
    rw [numbered_iff]
    constructor
    · rintro ⟨h1, h2⟩ j hj
      cases j with
      | zero => simpa using h1
      | succ j =>
        have := h2 j (by simpa using hj)
        simp only [List.getElem_cons_succ]
        omega
    · intro h
      refine ⟨by have := h 0 (by simp); rw [List.getElem_cons_zero] at this; omega, fun j hj => ?_⟩
      have := h (j + 1) (by simpa using hj)
      simp only [List.getElem_cons_succ] at this
      omega
theorem goodTo_all {k N : Int} {o : ObjD} (h1 : 1 ≤ o.key.size) (h2 : o.key.size ≤ 16) (h3 : 1 ≤ o.id) (h4 : o.id ≤ 33554432) (h5 : 0 ≤ o.size) (h6 : o.size ≤ 96) (h7 : (o.stripes.length : Int) = nStp k o.size) (h : GoodTo N (16 * o.id) o.stripes o.stripes.length) : decide (ObjOk k N o) = true := by
  apply decide_eq_true
  refine ⟨h1, h2, h3, h4, h5, h6, h7, numbered_iff.2 fun j hj => (h j hj hj).1, fun s hs => ?_⟩
  obtain ⟨j, hj, rfl⟩ := List.getElem_of_mem hs
  exact (h j hj hj).2
theorem obj_len {k N : Int} {o : ObjD} (h : ¬ (o.stripes.length : Int) = nStp k o.size) : decide (ObjOk k N o) = false := decide_eq_false fun q => h q.2.2.2.2.2.2.1
theorem obj_num {k N : Int} {o : ObjD} {i : Nat} (hi : i < o.stripes.length) (h : ¬ o.stripes[i].id = 16 * o.id + i) : decide (ObjOk k N o) = false := decide_eq_false fun q => h (numbered_iff.1 q.2.2.2.2.2.2.2.1 i hi)
theorem obj_stp {k N : Int} {o : ObjD} {i : Nat} (hi : i < o.stripes.length) (h : ¬ StpOk N o.stripes[i]) : decide (ObjOk k N o) = false := decide_eq_false fun q => h (q.2.2.2.2.2.2.2.2 _ (List.getElem_mem hi))
end Tb
namespace Go.Proofs.Ytlgdchflegflkaa.Tbl
set_option linter.unusedVariables false
open Go.ChangeShapes Go.WideShapes Go.ChangeAt Go.RowKit
open Go.Mem RecM
set_option maxHeartbeats 8000000 in
theorem rightObjC {w : World} {p : Nat} {k m : Int} (ck : w.cell? ⟨p, 0, none⟩ = some (.int .i64 k)) (cm : w.cell? ⟨p, 1, none⟩ = some (.int .i64 m)) (k0 : 1 ≤ k) (k1 : k ≤ 1000) (m0 : 0 ≤ m) (m1 : m ≤ 1000) (o : ObjD) (V : Value) (hV : ObjIs w V o) :
    Calls Try.prog 30 #[.pointer (some ⟨p, 0, none⟩), V] w fun e w' => e = .returned (.bool (decide (Tb.ObjOk k (k + m) o))) ∧ Below w.heap.size w w' := by
  obtain ⟨A, C, rfl, hi, i0, i1, i2, i3⟩ := hV
  obtain ⟨key, id, size, l⟩ := o
  dsimp only at hi i0 i1 i2 i3 ⊢
  obtain ⟨w1, hw1⟩ : ∃ w1, w1 = w.alloc (.cells #[.string key, .int .i64 id, .int .i64 size, .slice A l.length C] 46) := ⟨_, rfl⟩
  have hx : Below w.heap.size w w1 := by rw [hw1]; exact (Below.refl _ _).alloc (Nat.le_refl _) _
  have b0 : w1.cell? ⟨w.heap.size, 0, none⟩ = some (.string key) := by rw [hw1]; exact cells_of w _ _ (i := 0) (by simp)
  have b1 : w1.cell? ⟨w.heap.size, 1, none⟩ = some (.int .i64 id) := by rw [hw1]; exact cells_of w _ _ (i := 1) (by simp)
  have b2 : w1.cell? ⟨w.heap.size, 2, none⟩ = some (.int .i64 size) := by rw [hw1]; exact cells_of w _ _ (i := 2) (by simp)
  have b3 : w1.cell? ⟨w.heap.size, 3, none⟩ = some (.slice A l.length C) := by rw [hw1]; exact cells_of w _ _ (i := 3) (by simp)
  have c0 := below_cell hx _ _ ck
  have c1 := below_cell hx _ _ cm
  have HI := Lib.hid (hi.below hx)
  obtain ⟨gA1, gA2⟩ : l.length ≤ C ∧ C ≤ 9223372036854775807 := by
    obtain ⟨A', C', e, g1, g2, -⟩ := hi.shape
    cases e
    exact ⟨g1, g2⟩
  have HX := Lib.hid hx
  have HG0 := Lib.hid (show (key.size : Int) < 1 → decide (Tb.ObjOk k (k + m) ⟨key, id, size, l⟩) = false from fun z => decide_eq_false fun q => by have := q.1; dsimp only at this; omega)
  have HG1 := Lib.hid (show 16 < (key.size : Int) → decide (Tb.ObjOk k (k + m) ⟨key, id, size, l⟩) = false from fun z => decide_eq_false fun q => by have := q.2.1; dsimp only at this; omega)
  have HG2 := Lib.hid (show id < 1 → decide (Tb.ObjOk k (k + m) ⟨key, id, size, l⟩) = false from fun z => decide_eq_false fun q => by have := q.2.2.1; dsimp only at this; omega)
  have HG3 := Lib.hid (show 33554432 < id → decide (Tb.ObjOk k (k + m) ⟨key, id, size, l⟩) = false from fun z => decide_eq_false fun q => by have := q.2.2.2.1; dsimp only at this; omega)
  have HG4 := Lib.hid (show size < 0 → decide (Tb.ObjOk k (k + m) ⟨key, id, size, l⟩) = false from fun z => decide_eq_false fun q => by have := q.2.2.2.2.1; dsimp only at this; omega)
  have HG5 := Lib.hid (show 96 < size → decide (Tb.ObjOk k (k + m) ⟨key, id, size, l⟩) = false from fun z => decide_eq_false fun q => by have := q.2.2.2.2.2.1; dsimp only at this; omega)
  have HLEN := Lib.hid (show ¬ (l.length : Int) = Tb.nStp k size → _ from fun q => Tb.obj_len (k := k) (N := k + m) (o := ⟨key, id, size, l⟩) q)
  have HNUM := Lib.hid (show ∀ i (hi : i < l.length), ¬ l[i].id = 16 * id + i → _ from fun i hi q => Tb.obj_num (k := k) (N := k + m) (o := ⟨key, id, size, l⟩) hi q)
  have HSTP := Lib.hid (show ∀ i (hi : i < l.length), ¬ Tb.StpOk (k + m) l[i] → _ from fun i hi q => Tb.obj_stp (k := k) (N := k + m) (o := ⟨key, id, size, l⟩) hi q)
  have HALL := Lib.hid (show 1 ≤ key.size → key.size ≤ 16 → 1 ≤ id → id ≤ 33554432 → 0 ≤ size → size ≤ 96 → (l.length : Int) = Tb.nStp k size → Tb.GoodTo (k + m) (16 * id) l l.length → _ from fun a b c d e f g h => Tb.goodTo_all (k := k) (N := k + m) (o := ⟨key, id, size, l⟩) a b c d e f g h)
  obtain ⟨N, hN⟩ : ∃ N, l.length = N := ⟨_, rfl⟩
  have HN := Lib.hid hN
  obtain ⟨B, hB⟩ : ∃ B, w.heap.size = B := ⟨_, rfl⟩
  have HBE := Lib.hid hB
  obtain ⟨r, hr⟩ : ∃ r, decide (Tb.ObjOk k (k + m) ⟨key, id, size, l⟩) = r := ⟨_, rfl⟩
  rw [hB] at b0 b1 b2 b3
  rw [hN] at b3 HI gA1 HLEN HALL hw1
  rw [hr] at HG0 HG1 HG2 HG3 HG4 HG5 HLEN HALL HNUM HSTP ⊢
  have j0 : -9223372036854775808 ≤ id := i0.1
  have j1 : id ≤ 9223372036854775807 := i0.2
  have j2 : -9223372036854775808 ≤ size := i1.1
  have j3 : size ≤ 9223372036854775807 := i1.2
  have j4 : (key.size : Int) ≤ 140737488351232 := by unfold KeyOk at i2; omega
  have HFIN := Lib.hid (fun (w' : World) (q : Below w1.heap.size w1 w') => (show Below w.heap.size w w' from hx.trans (q.mono hx.size)))
  have HW1 := Lib.hid hw1
  clear ck cm hi i0 i1 i2 i3 hx hB hw1 hr
  rw [hN]
  clear hN
  by_cases e0 : (key.size : Int) < 1
  · have HR := Lib.hid (HG0.out e0)
    have d0 : decide ((key.size : Int) < 1) = true := decide_eq_true e0
    clear e0
    go_enter Try.func30, Try.ntmps30
    go_wp2_with fail
    rw [← HW1.out]
    go_ret
    exact ⟨by rw [HR.out]; rfl, HFIN.out _ (Below.refl _ _)⟩
  have d0 : decide ((key.size : Int) < 1) = false := decide_eq_false e0
  by_cases e1 : 16 < (key.size : Int)
  · have HR := Lib.hid (HG1.out e1)
    have d1 : decide (16 < (key.size : Int)) = true := decide_eq_true e1
    clear e0 e1
    go_enter Try.func30, Try.ntmps30
    go_wp2_with fail
    rw [← HW1.out]
    go_ret
    exact ⟨by rw [HR.out]; rfl, HFIN.out _ (Below.refl _ _)⟩
  have d1 : decide (16 < (key.size : Int)) = false := decide_eq_false e1
  by_cases e2 : id < 1
  · have HR := Lib.hid (HG2.out e2)
    have d2 : decide (id < 1) = true := decide_eq_true e2
    clear e0 e1 e2
    go_enter Try.func30, Try.ntmps30
    go_wp2_with fail
    rw [← HW1.out]
    go_ret
    exact ⟨by rw [HR.out]; rfl, HFIN.out _ (Below.refl _ _)⟩
  have d2 : decide (id < 1) = false := decide_eq_false e2
  by_cases e3 : 33554432 < id
  · have HR := Lib.hid (HG3.out e3)
    have d3 : decide (33554432 < id) = true := decide_eq_true e3
    clear e0 e1 e2 e3
    go_enter Try.func30, Try.ntmps30
    go_wp2_with fail
    rw [← HW1.out]
    go_ret
    exact ⟨by rw [HR.out]; rfl, HFIN.out _ (Below.refl _ _)⟩
  have d3 : decide (33554432 < id) = false := decide_eq_false e3
  by_cases e4 : size < 0
  · have HR := Lib.hid (HG4.out e4)
    have d4 : decide (size < 0) = true := decide_eq_true e4
    clear e0 e1 e2 e3 e4
    go_enter Try.func30, Try.ntmps30
    go_wp2_with fail
    rw [← HW1.out]
    go_ret
    exact ⟨by rw [HR.out]; rfl, HFIN.out _ (Below.refl _ _)⟩
  have d4 : decide (size < 0) = false := decide_eq_false e4
  by_cases e5 : 96 < size
  · have HR := Lib.hid (HG5.out e5)
    have d5 : decide (96 < size) = true := decide_eq_true e5
    clear e0 e1 e2 e3 e4 e5
    go_enter Try.func30, Try.ntmps30
    go_wp2_with fail
    rw [← HW1.out]
    go_ret
    exact ⟨by rw [HR.out]; rfl, HFIN.out _ (Below.refl _ _)⟩
  have d5 : decide (96 < size) = false := decide_eq_false e5
  go_enter Try.func30, Try.ntmps30
  go_upto_region 3 with (fail)
  rw [← HW1.out, HBE.out]
  clear d0 d1 d2 d3 d4 d5
  go_wp2_with fail
  go_loopw [5] (fun c wr => ∃ n : Nat, n ≤ 97 ∧ c = .int .i64 n ∧ (n = 0 ∨ ((n : Int) - 1) * k * 8 < size) ∧ ∃ z, wr = w1.drewN z) (fun c _ => 97 - (intOf c).toNat)
  case atStart => exact ⟨0, by omega, rfl, .inl rfl, 0, rfl⟩
  case round =>
    obtain ⟨n, hn, rfl, hlow, z, rfl⟩ := hrel
    obtain ⟨p0, p1⟩ := Tb.mul_up (n := n) (k := k) (by omega) (by omega) k1
    have hml := Tb.mul_low (n := n) k0
    have hms : ((n : Int) + 1 - 1) * k * 8 = n * k * 8 := by rw [Int.add_sub_cancel]
    have HMS := Lib.hid hms
    clear hms
    have q3 : IntKind.i64.wrap ((n : Int) * k) = (n : Int) * k := IntWalk.i64_in _ (by omega)
    have q4 : IntKind.i64.wrap ((n : Int) * k * 8) = (n : Int) * k * 8 := IntWalk.i64_in _ (by omega)
    by_cases hlt : (n : Int) * k * 8 < size
    · have e6 : decide ((n : Int) * k * 8 < size) = true := decide_eq_true hlt
      have hn2 : n + 1 ≤ 97 := by omega
      have HLT := Lib.hid hlt
      clear hlt hlow
      go_wp2_with fail
      go_quiet (fail)
      clear q3 q4 e6
      go_wp2
      go_roundw
      case rel => exact ⟨n + 1, hn2, by go_num, .inr (by have := HMS.out; have := HLT.out; push_cast; omega), _, rfl⟩
      case measure => simp [intOf]; omega
    · have e6 : decide ((n : Int) * k * 8 < size) = false := decide_eq_false hlt
      have HNS := Lib.hid (Tb.nStp_is k0 (show 0 ≤ size by omega) (by omega) hlow)
      clear hlt hlow hml
      go_wp2_with fail
      go_quiet (fail)
      clear q3 q4 e6 p0 p1
      by_cases hln : (N : Int) = n
      · have e7 : ((N : Int) != (n : Int)) = false := by rw [hln]; simp
        have hNn : N = n := by omega
        clear hln
        subst hNn
        have HA := Lib.hid (HALL.out (by omega) (by omega) (by omega) (by omega) (by omega) (by omega) HNS.out)
        have HB0 := Lib.hid (And.intro c0 (And.intro c1 (And.intro b1 b3)))
        have id0 : 1 ≤ id := by omega
        have id1 : id ≤ 33554432 := by omega
        have n97 : (N : Int) ≤ 97 := by omega
        clear e0 e1 e2 e3 e4 e5 c0 c1 b0 b1 b2
        go_wp2_with fail
        go_loopw [6] (fun c wr => ∃ i : Nat, i ≤ N ∧ c = .int .i64 i ∧ Tb.GoodTo (k + m) (16 * id) l i ∧ Below w1.heap.size w1 wr) (fun c _ => N - (intOf c).toNat)
        case atStart => exact ⟨0, Nat.zero_le _, rfl, Tb.goodTo_zero _ _ _, below_drewN _ _ _⟩
        case round =>
          obtain ⟨i, hi, rfl, hs, hb⟩ := hrel
          have HS := Lib.hid hs
          have HB := Lib.hid hb
          by_cases hlt : i < N
          · have hil : i < l.length := by rw [HN.out]; exact hlt
            obtain ⟨b, o, A', C', rfl, a0, a1, a2, a3, a4⟩ := (HI.out.below hb).at hil
            have HST := Lib.hid (show StpIs wr.drew (.agg #[.int .i64 l[i].id, .int .i64 l[i].ep, .slice A' l[i].locs.length C']) l[i] from ⟨A', C', rfl, a3.below (below_drewN _ _ 1), a4⟩)
            have HNO := Lib.hid (HNUM.out i hil)
            have HNS2 := Lib.hid (HSTP.out i hil)
            have HNX := Lib.hid (fun q0 q1 => Tb.goodTo_succ hil hs q0 q1)
            obtain ⟨x, hx⟩ : ∃ x, l[i] = x := ⟨_, rfl⟩
            rw [hx] at a0 a1 a2 HST HNO HNS2 HNX
            have c0 := below_cell hb _ _ HB0.out.1
            have c1 := below_cell hb _ _ HB0.out.2.1
            have b1 := below_cell hb _ _ HB0.out.2.2.1
            have b4 := below_cell hb _ _ HB0.out.2.2.2
            have HRC := Lib.hid (rightC (w := wr.drew) c0 c1 (by omega) k1 m0 m1 x _ HST.out)
            have q1 : (0 : Int) ≤ (i : Int) := by omega
            have q2 : (i : Int) < (N : Int) := by omega
            have q3 : IntKind.i64.wrap (16 * id) = 16 * id := IntWalk.i64_in _ (by omega)
            have q4 : IntKind.i64.wrap (16 * id + (i : Int)) = 16 * id + (i : Int) := IntWalk.i64_in _ (by omega)
            have hd0 : Below wr.heap.size wr wr.drew := below_drewN _ wr 1
            have z0 := below_cell hd0 _ _ a0
            have z1 := below_cell hd0 _ _ a1
            have z2 := below_cell hd0 _ _ a2
            have z3 := below_cell hd0 _ _ b1
            have z4 := below_cell hd0 _ _ b4
            clear hx hil hs hb a3 a4 b3
            by_cases hid : x.id = 16 * id + (i : Int)
            · have e8 : (x.id != 16 * id + (i : Int)) = false := by rw [hid]; simp
              have HID := Lib.hid hid
              clear hid
              by_cases hok : Tb.StpOk (k + m) x
              · have HE := Lib.hid (HNX.out HID.out hok)
                rw [decide_eq_true hok] at HRC
                clear hok
                go_wp2_with fail
                go_region_held3 (fun w' => Below wr.heap.size wr w' ∧ w'.cell? ⟨b, o + i * 3, none⟩ = some (.int .i64 x.id) ∧ w'.cell? ⟨b, o + i * 3 + 1, none⟩ = some (.int .i64 x.ep) ∧ w'.cell? ⟨b, o + i * 3 + 2, none⟩ = some (.slice A' x.locs.length C') ∧ w'.cell? ⟨B, 1, none⟩ = some (.int .i64 id) ∧ w'.cell? ⟨B, 3, none⟩ = some (.slice (some ⟨b, o, none⟩) N C))
                  (first | exact ⟨hd1, y0, y1, y2, y3, y4⟩ | exact ⟨hd0, z0, z1, z2, z3, z4⟩)
                  ((go_at_call 31; (with_reducible refine HRC.out.mono ?_); rintro _ w5 ⟨rfl, hb5⟩; have hd1 := nxt hd0 hb5 (Nat.le_refl _); have y0 := below_cell hb5 _ _ z0; have y1 := below_cell hb5 _ _ z1; have y2 := below_cell hb5 _ _ z2; have y3 := below_cell hb5 _ _ z3; have y4 := below_cell hb5 _ _ z4; clear hb5))
                all_goals
                  have HB5 := Lib.hid (nxt HB.out hd1 (Nat.le_refl _))
                  clear a0 a1 a2 c0 c1 b1 b4 q3 q4 e8 z0 z1 z2 z3 z4 y0 y1 y2 y3 y4 hd0 hd1
                  go_wp2
                  go_roundw
                  case rel => exact ⟨i + 1, by omega, by go_num, HE.out, HB5.out⟩
                  case measure => simp [intOf]; omega
              · have HR := Lib.hid (HNS2.out hok)
                rw [decide_eq_false hok] at HRC
                clear hok
                go_wp2_with fail
                go_region_held3 (fun w' => Below wr.heap.size wr w' ∧ w'.cell? ⟨b, o + i * 3, none⟩ = some (.int .i64 x.id) ∧ w'.cell? ⟨b, o + i * 3 + 1, none⟩ = some (.int .i64 x.ep) ∧ w'.cell? ⟨b, o + i * 3 + 2, none⟩ = some (.slice A' x.locs.length C') ∧ w'.cell? ⟨B, 1, none⟩ = some (.int .i64 id) ∧ w'.cell? ⟨B, 3, none⟩ = some (.slice (some ⟨b, o, none⟩) N C))
                  (first | exact ⟨hd1, y0, y1, y2, y3, y4⟩ | exact ⟨hd0, z0, z1, z2, z3, z4⟩)
                  ((go_at_call 31; (with_reducible refine HRC.out.mono ?_); rintro _ w5 ⟨rfl, hb5⟩; have hd1 := nxt hd0 hb5 (Nat.le_refl _); have y0 := below_cell hb5 _ _ z0; have y1 := below_cell hb5 _ _ z1; have y2 := below_cell hb5 _ _ z2; have y3 := below_cell hb5 _ _ z3; have y4 := below_cell hb5 _ _ z4; clear hb5))
                all_goals
                  have HB5 := Lib.hid (nxt HB.out hd1 (Nat.le_refl _))
                  clear a0 a1 a2 c0 c1 b1 b4 q3 q4 e8 z0 z1 z2 z3 z4 y0 y1 y2 y3 y4 hd0 hd1
                  go_wp2
                  go_ret
                  exact ⟨by rw [HR.out]; rfl, HFIN.out _ HB5.out⟩
            · have HR := Lib.hid (HNO.out hid)
              have e8 : (x.id != 16 * id + (i : Int)) = true := by rw [bne_iff_ne]; exact hid
              clear hid
              go_wp2_with fail
              go_quiet (fail)
              go_wp2
              go_ret
              exact ⟨by rw [HR.out]; rfl, HFIN.out _ (HB.out.trans (below_drewN _ _ _))⟩
          · obtain rfl : i = N := by omega
            have HE := Lib.hid (HA.out (HN.out ▸ HS.out))
            clear hlt hs hb
            go_wp2
            go_ret
            exact ⟨by rw [HE.out]; rfl, HFIN.out _ HB.out⟩
      · have HR := Lib.hid (HLEN.out (by rw [← HNS.out]; exact hln))
        have e7 : ((N : Int) != (n : Int)) = true := by rw [bne_iff_ne]; exact hln
        clear hln
        go_wp2
        go_ret
        exact ⟨by rw [HR.out]; rfl, HFIN.out _ (below_drewN _ _ _)⟩
end Go.Proofs.Ytlgdchflegflkaa.Tbl
