/- Each drive is nearer than the next one: the law, as a walk. -/
import Derived.Test.YtcgjoidfmigpnaaDoorRkI
import Derived.Test.YtcgjoidfmigpnaaDoorRkMath2
namespace Go.Proofs.YtcgjoidfmigpnaaDoor.Rk
set_option linter.unusedVariables false
open Go.ChangeShapes Go.WideShapes Go.ChangeAt Go.RowKit
open Go.Mem Sha Hash Rec
theorem upTo_succ (k : Nat) : upTo (k + 1) = upTo k ++ [(k : Int)] := by simp [upTo, List.range_succ]
theorem upTo_len (k : Nat) : (upTo k).length = k := by simp [upTo]
def UpAt (k : Nat) (W : World) (v : Value) (wr : World) : Prop := Built IntR wr W.heap.size 3 v (upTo k) ∧ Below W.heap.size W wr
theorem ord_near {s : Int} {l : List Int} {j : Nat} (h : j + 1 < (ord s l).length) : wt s (ord s l)[j + 1] ≤ wt s (ord s l)[j] := by
  have := List.pairwise_iff_getElem.1 (ord_is s l).2 j (j + 1) (by omega) h (by omega)
  unfold near at this
  omega
set_option maxHeartbeats 4000000 in
theorem RankNearC {T : World → Prop} (I : RankI T) (s : Int) (hs0 : -9223372036854775808 ≤ s) (hs1 : s ≤ 9223372036854775807) (a : Int) (ha0 : 0 ≤ a) (ha1 : a ≤ 255) (W : World) (hT : T W) :
    Calls Tryd.prog 6 #[.int .i64 s, .int .u8 a] W fun e w' => e = .returned (.bool true) ∧ Below W.heap.size W w' := by
  have HT := Lib.hid hT
  have HWT := Lib.hid (fun (x : Int) (w : World) => (show Calls Tryd.prog 14 #[.int .i64 s, .int .i64 x] w fun e w' => e = .returned (.int .u64 (wt s x : Nat)) ∧ Below w.heap.size w w' from refWeightC s x w))
  obtain ⟨M, hM⟩ : ∃ M : Nat, a % 20 = (M : Int) := ⟨(a % 20).toNat, by omega⟩
  have hM20 : M < 20 := by omega
  clear hT
  go_enter Tryd.func6, Tryd.ntmps6
  go_wp2
  go_loopw [5, 6] (fun v c wr => ∃ k : Nat, k ≤ M ∧ c = .int .i64 k ∧ UpAt k W v wr) (fun _ c _ => M - (intOf c).toNat)
  case atStart => exact ⟨0, Nat.zero_le _, rfl, Built.start _ _ _, Below.refl _ _⟩
  case round =>
    obtain ⟨k, hk, rfl, hbu, hbl⟩ := hrel
    have HBU := Lib.hid hbu
    have HBL := Lib.hid hbl
    by_cases hlt : k < M
    · have q1 : (k : Int) < (M : Int) := by omega
      obtain ⟨A1, C1, e1, hl1, hl2⟩ := hbu.len
      rw [upTo_len] at e1 hl1
      subst e1
      clear hbu hbl
      go_wp2_with (at_builtin; refine wpList_append_built (R := IntR) _ rfl (.tmp 16) (.tmp 18) 22 rfl W.heap.size 3 (.int .i64 0) 8 Tryd.underlying22 infoInt rfl _ _ rfl HBU.out _ (k : Int) _ rfl rfl rfl (fun _ _ => ⟨rfl, by omega, by omega⟩) (by rw [upTo_len]; omega) HBL.out.size ?_; intro v' w' hbu' hg' hb'; have HX := Lib.hid (show UpAt (k + 1) W v' w' from ⟨by rw [upTo_succ]; exact hbu', HBL.out.trans hb'⟩); obtain ⟨A2, C2, e2, _⟩ := hbu'.len; obtain ⟨L2, hL2⟩ : ∃ L2, (upTo k ++ [(k : Int)]).length = L2 := ⟨_, rfl⟩; rw [hL2] at e2; subst e2; clear hbu' hg' hb' hL2)
      go_roundw
      case rel => exact ⟨k + 1, by omega, by go_num, HX.out⟩
      case measure => simp [intOf]; omega
    · obtain rfl : k = M := by omega
      have HI := Lib.hid (show Ints wr _ (upTo k) from hbu.slice)
      obtain ⟨A1, C1, e1, hl1, hl2⟩ := hbu.len
      rw [upTo_len] at e1 hl1
      subst e1
      clear hbu hbl
      go_wp2_with fail
      refine (I.order _ s _ (upTo k) (I.keep _ _ HT.out HBL.out) HI.out ⟨hs0, hs1⟩ (by rw [upTo_len]; omega)).mono ?_
      rintro _ w2 ⟨u, rfl, hu, hb2⟩
      have HB2 := Lib.hid (below_nxt HBL.out hb2 (Nat.le_refl _))
      obtain ⟨A2, C2, rfl, k1, k2, -⟩ := hu.shape
      have HOL := Lib.hid (show (ord s (upTo k)).length = k by rw [ord_len, upTo_len])
      rw [HOL.out] at hu k1 ⊢
      have HU := Lib.hid hu
      clear hu hb2
      obtain ⟨w0, hw0⟩ : ∃ w0 : World, w0 = wr := ⟨_, rfl⟩
      subst hw0
      go_wp2
      go_loopw [8] (fun c wr => ∃ J : Nat, 1 ≤ J ∧ c = .int .i64 J ∧ Ints wr (.slice A2 k C2) (ord s (upTo k)) ∧ Below W.heap.size W wr) (fun c _ => k - (intOf c).toNat)
      case atStart => exact ⟨1, Nat.le_refl _, rfl, HU.out, HB2.out⟩
      case round =>
        obtain ⟨J, hJ, rfl, hu, hbl⟩ := hrel
        have HUR := Lib.hid hu
        have HBR := Lib.hid hbl
        by_cases hjk : J < k
        · obtain ⟨j1, hJe⟩ : ∃ j1, J = j1 + 1 := ⟨J - 1, by omega⟩
          have hJl : J < (ord s (upTo k)).length := by rw [HOL.out]; exact hjk
          have hjl : j1 < (ord s (upTo k)).length := by rw [HOL.out]; omega
          obtain ⟨b, o, rfl, cb, -⟩ := hu.at hJl
          have ca := (hu.here hjl).1
          have hnear : wt s (ord s (upTo k))[J] ≤ wt s (ord s (upTo k))[j1] := by
            subst hJe; exact ord_near hJl
          obtain ⟨x, hx⟩ : ∃ x, (ord s (upTo k))[j1] = x := ⟨_, rfl⟩
          obtain ⟨y, hy⟩ : ∃ y, (ord s (upTo k))[J] = y := ⟨_, rfl⟩
          rw [hx, hy] at hnear
          rw [hx] at ca
          rw [hy] at cb
          have hd0 : Below wr.heap.size wr wr.drew := below_drewN _ wr 1
          have ca0 := below_cell hd0 _ _ ca
          have cb0 := below_cell hd0 _ _ cb
          have hwj : IntKind.i64.wrap ((J : Int) - 1) = (j1 : Int) := by rw [IntWalk.i64_in _ (by omega)]; omega
          have q2 : (J : Int) < (k : Int) := by omega
          have q3 : (j1 : Int) < (k : Int) := by omega
          have q6 : (0 : Int) ≤ (j1 : Int) := by omega
          have q7 : (0 : Int) ≤ (J : Int) := by omega
          obtain ⟨wA, hwA⟩ : ∃ wA, wt s x = wA := ⟨_, rfl⟩
          obtain ⟨wB, hwB⟩ : ∃ wB, wt s y = wB := ⟨_, rfl⟩
          have HWA := Lib.hid (fun w => by have := HWT.out x w; rw [hwA] at this; exact this)
          have HWB := Lib.hid (fun w => by have := HWT.out y w; rw [hwB] at this; exact this)
          rw [hwA, hwB] at hnear
          have e1 : decide (wA < wB) = false := by simp; omega
          have i1 : J ≤ j1 + 1 := by omega
          have i2 : j1 + 1 ≤ J := by omega
          clear hJe hu hbl hx hy hwA hwB ca cb hJl hjl
          go_wp2
          go_region_held3 (fun w' => Below wr.heap.size wr w' ∧ w'.cell? ⟨b, o + j1, none⟩ = some (.int .i64 x) ∧ w'.cell? ⟨b, o + J, none⟩ = some (.int .i64 y))
            (first | exact ⟨hd2, ca2, cb2⟩ | exact ⟨hd1, ca1, cb1⟩ | exact ⟨hd0, ca0, cb0⟩)
            (first
              | (go_at_call 14; (with_reducible refine (HWA.out _).mono ?_); rintro _ wa1 ⟨rfl, hx1⟩; first | (have hd2 := below_nxt hd1 hx1 (Nat.le_refl _); have ca2 := below_cell hx1 _ _ ca1; have cb2 := below_cell hx1 _ _ cb1; clear hx1) | (have hd1 := below_nxt hd0 hx1 (Nat.le_refl _); have ca1 := below_cell hx1 _ _ ca0; have cb1 := below_cell hx1 _ _ cb0; clear hx1))
              | (go_at_call 14; (with_reducible refine (HWB.out _).mono ?_); rintro _ wa1 ⟨rfl, hx1⟩; first | (have hd2 := below_nxt hd1 hx1 (Nat.le_refl _); have ca2 := below_cell hx1 _ _ ca1; have cb2 := below_cell hx1 _ _ cb1; clear hx1) | (have hd1 := below_nxt hd0 hx1 (Nat.le_refl _); have ca1 := below_cell hx1 _ _ ca0; have cb1 := below_cell hx1 _ _ cb0; clear hx1)))
          all_goals
            have HBE := Lib.hid (below_nxt HBR.out hd2 (Nat.le_refl _))
            have HUE := Lib.hid (HUR.out.below hd2)
            clear hd0 hd1 hd2 ca0 ca1 ca2 cb0 cb1 cb2
            go_wp2
            go_roundw
            case rel => exact ⟨J + 1, by omega, by go_num, HUE.out, HBE.out⟩
            case measure => simp [intOf]; omega
        · have q2 : ¬ (J : Int) < (k : Int) := by omega
          clear hu hbl
          go_wp2_with fail
          refine (answersC I _ (I.keep _ _ HT.out HBR.out)).mono ?_
          rintro _ w4 ⟨rfl, hb4⟩
          have HB4 := Lib.hid (below_nxt HBR.out hb4 (Nat.le_refl _))
          have hq : ((k : Int) == (k : Int)) = true := by simp
          clear hb4
          go_wp2
          go_ret
          exact ⟨rfl, HB4.out⟩
end Go.Proofs.YtcgjoidfmigpnaaDoor.Rk
