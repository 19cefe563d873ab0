/- The laws of layer 21: a history that is none; a call ends once. -/
import Derived.Test.YtcljpniknpgmpaaHsLaw
namespace Hs
open Go Go.Mem
def xC : StepD := ⟨1, 2, ⟨#[107]⟩, [], 0⟩
def aC (t : Int) : AnsD := ⟨0, t, false, 0, [], []⟩
def xR (t : Int) : StepD := ⟨2, t, ⟨#[]⟩, [], 0⟩
def aD (t : Int) : AnsD := ⟨0, t, true, 1, [], []⟩
def aE : AnsD := ⟨7, 0, true, 2, [], []⟩
def callO (t : Int) (i : Nat) : CallD := ⟨t, 2, ⟨#[107]⟩, [], 3 * (i : Nat) + 1, 3 * (i : Nat) + 2, 3 * (i : Nat) + 2, 0, [], []⟩
def once (t : Int) : Nat → St
  | 0 => zero
  | i + 1 => (((once t i).add xC (aC t)).add (xR t) (aD t)).add (xR t) aE
structure OnceOk (t : Int) (i : Nat) (s : St) : Prop where
  calls : s.calls = (List.range i).map (callO t)
  mom : s.mom = 3 * i
  none : s.find t = none
  uniq : s.Uniq
theorem once_ok (t : Int) : ∀ i, OnceOk t i (once t i)
  | 0 => ⟨rfl, rfl, rfl, St.zero_uniq⟩
  | i + 1 => by
    obtain ⟨h1, h2, h3, h4⟩ := once_ok t i
    obtain ⟨s, hs⟩ : ∃ s, once t i = s := ⟨_, rfl⟩
    have hlen : s.calls.length = i := by rw [← hs, h1]; simp
    rw [hs] at h1 h2 h3 h4
    show OnceOk t (i + 1) (((((once t i).add xC (aC t)).add (xR t) (aD t)).add (xR t) aE))
    rw [hs]
    have e1 : s.add xC (aC t) = s.tick.start xC t := rfl
    have u1 : (s.tick.start xC t).Uniq := St.start_uniq (St.tick_uniq h4) xC t
    have f1 : (s.tick.start xC t).tick.find t = some i := by
      rw [St.tick_find, St.start_find (St.tick_uniq h4), if_pos rfl]
      show some s.calls.length = some i
      rw [hlen]
    have e2 : (s.tick.start xC t).add (xR t) (aD t) = (s.tick.start xC t).tick.hit i (aD t) := by
      show (s.tick.start xC t).tick.run t (aD t) = _
      unfold St.run
      rw [f1]
    have f2 : ((s.tick.start xC t).tick.hit i (aD t)).tick.find t = none := by
      rw [St.tick_find, St.hit_find (St.tick_uniq u1) f1, if_pos ⟨rfl, rfl⟩]
    have e3 : ((s.tick.start xC t).tick.hit i (aD t)).add (xR t) aE = ((s.tick.start xC t).tick.hit i (aD t)).tick := by
      show ((s.tick.start xC t).tick.hit i (aD t)).tick.run t aE = _
      unfold St.run
      rw [f2]
    rw [e1, e2, e3]
    refine ⟨?_, ?_, f2, St.tick_uniq (St.hit_uniq (St.tick_uniq u1) _ _)⟩
    · show (s.calls ++ [fresh (s.mom + 1) xC t]).set i (touch (s.mom + 1 + 1) (aD t) ((s.calls ++ [fresh (s.mom + 1) xC t]).getD i noCall)) = _
      have hg : (s.calls ++ [fresh (s.mom + 1) xC t]).getD i noCall = fresh (s.mom + 1) xC t := by
        rw [List.getD_eq_getElem?_getD, List.getElem?_append_right (by omega), hlen, Nat.sub_self]
        rfl
      rw [hg, List.range_succ, List.map_append, ← h1, List.set_append_right _ _ (by omega), hlen, Nat.sub_self]
      have hc : touch (s.mom + 1 + 1) (aD t) (fresh (s.mom + 1) xC t) = callO t i := by
        unfold callO
        have m1 : ((s.mom + 1 : Nat) : Int) = 3 * (i : Nat) + 1 := by omega
        have m2 : ((s.mom + 1 + 1 : Nat) : Int) = 3 * (i : Nat) + 2 := by omega
        rw [← m1, ← m2]
        rfl
      rw [hc]
      rfl
    · show s.mom + 1 + 1 + 1 = 3 * (i + 1)
      omega
theorem once_few (t : Int) {i : Nat} (hi : i ≤ 9) : (once t i).calls.length ≤ 9 ∧ (once t i).mom ≤ 27 := by
  have h := once_ok t i
  rw [h.calls, h.mom]
  simp
  omega
theorem once_at (t : Int) {i k : Nat} (hk : k < (once t i).calls.length) : (once t i).calls[k] = callO t k := by
  have h := (once_ok t i).calls
  have e : (once t i).calls[k]? = some (callO t k) := by
    rw [h, List.getElem?_map, List.getElem?_range (by rw [h] at hk; simpa using hk)]
    rfl
  rw [List.getElem?_eq_getElem hk] at e
  injection e
end Hs
namespace Go.Proofs.Ytcljpniknpgmpaa.Hst
set_option linter.unusedVariables false
open Go.ChangeShapes Go.WideShapes Go.ChangeAt Go.RowKit
open Go.Mem Hs
theorem fit_nil {x : StepD} {a : AnsD} (hx : x.data = []) (ha : a.data = []) (hk : a.keys = []) : Fit x a := ⟨by rw [hx]; simp, by rw [ha]; simp, by rw [hk]; simp⟩
set_option maxRecDepth 100000 in
set_option maxHeartbeats 2000000 in
theorem HistNoneC {PD : Thing} (I : HsI PD) (N : NoHist) (x : StepD) (a : AnsD) (X A : Value) (W : World) (tX : StepV W X x) (tA : AnsV W A a) :
    Calls Try.prog 5 #[X, A] W fun e w' => e = .returned (.bool true) ∧ Below W.heap.size W w' := by
  have TX := Lib.hid tX
  have TA := Lib.hid tA
  obtain ⟨AX, CX, rfl, -⟩ := tX
  obtain ⟨AD, CD, AK, CK, rfl, -⟩ := tA
  unfold stepVal at TX ⊢
  unfold ansVal at TA ⊢
  obtain ⟨NX, hNX⟩ : ∃ N, x.data.length = N := ⟨_, rfl⟩
  obtain ⟨ND, hND⟩ : ∃ N, a.data.length = N := ⟨_, rfl⟩
  obtain ⟨NK, hNK⟩ : ∃ N, a.keys.length = N := ⟨_, rfl⟩
  rw [hNX] at TX ⊢
  rw [hND, hNK] at TA ⊢
  have ha1 : Below W.heap.size W (W.alloc (.cells #[.int .i64 x.kind, .int .i64 x.a, .string x.key, .slice AX NX CX, .int .u64 x.keep] TStep)) := (Below.refl _ _).alloc (Nat.le_refl _) _
  have hr1 : (W.alloc (.cells #[.int .i64 x.kind, .int .i64 x.a, .string x.key, .slice AX NX CX, .int .u64 x.keep] TStep)).rowIs W.heap.size TStep 5 (fun i => #[Value.int .i64 x.kind, .int .i64 x.a, .string x.key, .slice AX NX CX, .int .u64 x.keep].getD i undef) := row_of W _ _
  obtain ⟨w1, hw1⟩ : ∃ w1, W.alloc (.cells #[.int .i64 x.kind, .int .i64 x.a, .string x.key, .slice AX NX CX, .int .u64 x.keep] TStep) = w1 := ⟨_, rfl⟩
  have hs1 : w1.heap.size = W.heap.size + 1 := by rw [← hw1]; simp
  rw [hw1] at ha1 hr1
  obtain ⟨w2, hw2⟩ : ∃ w2, w1.alloc (.cells #[.int .i64 a.e, .int .i64 a.task, .bool a.done, .int .i64 a.mark, .slice AD ND CD, .slice AK NK CK] TAns) = w2 := ⟨_, rfl⟩
  have ha2 : Below w1.heap.size w1 w2 := by rw [← hw2]; exact (Below.refl _ _).alloc (Nat.le_refl _) _
  have hr2 : w2.rowIs w1.heap.size TAns 6 (fun i => #[Value.int .i64 a.e, .int .i64 a.task, .bool a.done, .int .i64 a.mark, .slice AD ND CD, .slice AK NK CK].getD i undef) := by rw [← hw2]; exact row_of w1 _ _
  have hr1' := hr1.of_block (ha2.block W.heap.size hr1.lt)
  obtain ⟨B, hB⟩ : ∃ B, W.heap.size = B := ⟨_, rfl⟩
  rw [hs1, hB] at hr2
  rw [hB] at hr1'
  have HB2 := Lib.hid (ha1.trans (ha2.mono ha1.size))
  have HW1 := Lib.hid hw1
  have HW2 := Lib.hid hw2
  have HBE := Lib.hid hB
  have x0 : w2.cell? ⟨B, 0, none⟩ = some (.int .i64 x.kind) := hr1'.cell (i := 0) (by omega)
  have x1 : w2.cell? ⟨B, 1, none⟩ = some (.int .i64 x.a) := hr1'.cell (i := 1) (by omega)
  have x2 : w2.cell? ⟨B, 2, none⟩ = some (.string x.key) := hr1'.cell (i := 2) (by omega)
  have x3 : w2.cell? ⟨B, 3, none⟩ = some (.slice AX NX CX) := hr1'.cell (i := 3) (by omega)
  have x4 : w2.cell? ⟨B, 4, none⟩ = some (.int .u64 x.keep) := hr1'.cell (i := 4) (by omega)
  have y0 : w2.cell? ⟨B + 1, 0, none⟩ = some (.int .i64 a.e) := hr2.cell (i := 0) (by omega)
  have y1 : w2.cell? ⟨B + 1, 1, none⟩ = some (.int .i64 a.task) := hr2.cell (i := 1) (by omega)
  have y2 : w2.cell? ⟨B + 1, 2, none⟩ = some (.bool a.done) := hr2.cell (i := 2) (by omega)
  have y3 : w2.cell? ⟨B + 1, 3, none⟩ = some (.int .i64 a.mark) := hr2.cell (i := 3) (by omega)
  have y4 : w2.cell? ⟨B + 1, 4, none⟩ = some (.slice AD ND CD) := hr2.cell (i := 4) (by omega)
  have y5 : w2.cell? ⟨B + 1, 5, none⟩ = some (.slice AK NK CK) := hr2.cell (i := 5) (by omega)
  have HNA := Lib.hid (N.add w2 x a _ _ (TX.out.below HB2.out) (TA.out.below HB2.out))
  clear hNX hND hNK ha1 hr1 hw1 hs1 hw2 ha2 hr2 hr1' hB
  go_enter Try.func5, Try.ntmps5
  go_upto_region 1 with fail
  rw [HW1.out, HW2.out, HBE.out]
  go_wp2_with fail
  refine HNA.out.mono ?_
  rintro _ w3 ⟨rfl, hb3⟩
  have HB3 := Lib.hid (HB2.out.trans (hb3.mono HB2.out.size))
  clear hb3
  go_wp2_with fail
  refine (answersC I _).mono ?_
  rintro _ w4 ⟨rfl, hb4⟩
  have HB4 := Lib.hid (HB3.out.trans (hb4.mono HB3.out.size))
  clear hb4
  go_wp2_with fail
  refine (N.calls _).mono ?_
  rintro _ w5 ⟨rfl, rfl⟩
  go_wp2
  go_ret
  exact ⟨rfl, HB4.out⟩
set_option maxRecDepth 100000 in
set_option maxHeartbeats 4000000 in
theorem HistOnceC {PD : Thing} (I : HsI PD) (a0 a1 : Int) (la0 : 0 ≤ a0) (ua0 : a0 ≤ 255) (la1 : -9223372036854775808 ≤ a1) (ua1 : a1 ≤ 9223372036854775807) (W : World) :
    Calls Try.prog 6 #[.int .u8 a0, .int .i64 a1] W fun e w' => e = .returned (.bool true) ∧ Below W.heap.size W w' := by
  have HI1 := Lib.hid (show I64 a1 from ⟨la1, ua1⟩)
  have HXC := Lib.hid (stepV_nil W xC rfl (small (by decide)) (small (by decide)))
  have HAC := Lib.hid (ansV_nil W (aC a1) rfl rfl (show I64 (0 : Int) from small (by decide)) ⟨la1, ua1⟩ (show I64 (0 : Int) from small (by decide)))
  have HXR := Lib.hid (stepV_nil W (xR a1) rfl (show I64 (2 : Int) from small (by decide)) ⟨la1, ua1⟩)
  have HAD := Lib.hid (ansV_nil W (aD a1) rfl rfl (show I64 (0 : Int) from small (by decide)) ⟨la1, ua1⟩ (show I64 (1 : Int) from small (by decide)))
  have HAE := Lib.hid (ansV_nil W aE rfl rfl (small (by decide)) (small (by decide)) (small (by decide)))
  obtain ⟨k, hk, hk9⟩ : ∃ k : Nat, a0 % 9 + 1 = (k : Int) ∧ k ≤ 9 := ⟨(a0 % 9 + 1).toNat, by omega, by omega⟩
  have HK := Lib.hid hk
  have HF := Lib.hid (fun i (hi : i ≤ k) => once_few a1 (i := i) (by omega))
  clear hk
  go_enter Try.func6, Try.ntmps6
  go_wp2_with fail
  refine (newM I (Below.refl _ _)).mono ?_
  rintro _ w1 ⟨p, rfl, h1⟩
  have H1 := Lib.hid h1
  clear h1
  go_upto_region 3 with fail
  rw [HK.out]
  go_wp2
  go_loopw [7] (fun c wr => ∃ i : Nat, i ≤ k ∧ c = .int .i64 i ∧ Mine PD W wr p (once a1 i)) (fun c _ => k - (intOf c).toNat)
  case atStart => exact ⟨0, Nat.zero_le _, rfl, H1.out⟩
  case round =>
    obtain ⟨i, hi, rfl, hm⟩ := hrel
    have HM := Lib.hid hm
    have hf := HF.out i hi
    have F0 := Lib.hid (show Few (once a1 i) from ⟨by omega, by omega⟩)
    have F1 := Lib.hid (show Few ((once a1 i).add xC (aC a1)) from ⟨by have := St.add_len (s := once a1 i) xC (aC a1); omega, by rw [St.add_mom]; omega⟩)
    have F2 := Lib.hid (show Few (((once a1 i).add xC (aC a1)).add (xR a1) (aD a1)) from ⟨by have := St.add_len (s := once a1 i) xC (aC a1); have := St.add_len (s := (once a1 i).add xC (aC a1)) (xR a1) (aD a1); omega, by rw [St.add_mom, St.add_mom]; omega⟩)
    clear hm hf
    by_cases hlt : i < k
    · go_wp2_with fail
      refine (addM I HM.out F0.out HXC.out HAC.out (fit_nil rfl rfl rfl)).mono ?_
      rintro _ w2 ⟨rfl, h2⟩
      have H2 := Lib.hid h2
      clear h2
      go_wp2_with fail
      refine (addM I H2.out F1.out HXR.out HAD.out (fit_nil rfl rfl rfl)).mono ?_
      rintro _ w3 ⟨rfl, h3⟩
      have H3 := Lib.hid h3
      clear h3
      go_wp2_with fail
      refine (addM I H3.out F2.out HXR.out HAE.out (fit_nil rfl rfl rfl)).mono ?_
      rintro _ w4 ⟨rfl, h4⟩
      have H4 := Lib.hid (show Mine PD W w4 p (once a1 (i + 1)) from h4)
      clear h4
      go_wp2
      go_roundw
      case rel => exact ⟨i + 1, by omega, by go_num, H4.out⟩
      case measure => simp [intOf]; omega
    · obtain rfl : i = k := by omega
      have HO := Lib.hid (fun j (hj : j < (once a1 i).calls.length) => once_at a1 hj)
      have HL := Lib.hid (show (once a1 i).calls.length = i by rw [(once_ok a1 i).calls]; simp)
      go_wp2_with fail
      refine (callsM I HM.out F0.out).mono ?_
      rintro _ w5 ⟨V, rfl, h5, hb5⟩
      have h5' := calls_w h5
      obtain ⟨A, C, rfl, hC1, hC2, -⟩ := calls_shape h5'
      have H5 := Lib.hid h5'
      have HB5 := Lib.hid (HM.out.bel.trans (hb5.mono HM.out.bel.size))
      rw [HL.out] at H5 hC1 ⊢
      clear h5 h5' hb5
      go_wp2
      go_loopw [9] (fun c wr => ∃ j : Nat, j ≤ i ∧ c = .int .i64 j ∧ Below w5.heap.size w5 wr) (fun c _ => i - (intOf c).toNat)
      case atStart => exact ⟨0, Nat.zero_le _, rfl, Below.refl _ _⟩
      case round =>
        obtain ⟨j, hj, rfl, hb⟩ := hrel
        have HBJ := Lib.hid hb
        by_cases hjt : j < i
        · have hjl : j < (once a1 i).calls.length := by rw [HL.out]; exact hjt
          obtain ⟨b, o, A3, C3, A8, C8, A9, C9, rfl, -, -, -, -, c4, c5, c6, c7, -⟩ := calls_at (Cells.mono H5.out (below_cell hb) (fun _ _ q => ⟨q.r0, q.r1, q.r2, q.r3.below hb, q.r4, q.r5, q.r6, q.r7, q.r8.below hb, q.r9.below hb, q.ok⟩)) hjl
          rw [HO.out j hjl] at c4 c5 c6 c7
          have c4' : wr.cell? ⟨b, o + j * 10 + 4, none⟩ = some (.int .i64 (3 * (j : Nat) + 1)) := c4
          have c5' : wr.cell? ⟨b, o + j * 10 + 5, none⟩ = some (.int .i64 (3 * (j : Nat) + 2)) := c5
          have c6' : wr.cell? ⟨b, o + j * 10 + 6, none⟩ = some (.int .i64 (3 * (j : Nat) + 2)) := c6
          have c7' : wr.cell? ⟨b, o + j * 10 + 7, none⟩ = some (.int .i64 0) := c7
          clear hb c4 c5 c6 c7 hjl
          go_wp2
          go_roundw
          case rel => exact ⟨j + 1, by omega, by go_num, HBJ.out⟩
          case measure => simp [intOf]; omega
        · obtain rfl : j = i := by omega
          have HBE := Lib.hid (HB5.out.trans (hb.mono HB5.out.size))
          clear hb
          go_wp2_with fail
          refine (answersC I _).mono ?_
          rintro _ w6 ⟨rfl, hb6⟩
          have HB6 := Lib.hid (HBE.out.trans (hb6.mono HBE.out.size))
          clear hb6
          go_wp2
          go_ret
          exact ⟨rfl, HB6.out⟩
end Go.Proofs.Ytcljpniknpgmpaa.Hst
