/- The document's writer of records' bytes, as walks: lists of numbers, stripes. -/
import Derived.Test.YtjhlcddmpkalfaaRecOut
namespace Go.Proofs.Ytjhlcddmpkalfaa.Rec
set_option linter.unusedVariables false
open Go.ChangeShapes Go.WideShapes Go.ChangeAt Go.RowKit
open Go.Mem RecM
/-- in the midst of a loop: the state behind k rounds -/
def MidO {α : Type} (f : α → Out → Out) (l : List α) (o1 : Out) (F : Nat → Prop) (p : Nat) (w : World) (k : Nat) (wr : World) : Prop := Wrote F p (each f (l.take k) o1) w wr
theorem MidO.start {α : Type} {f : α → Out → Out} {l : List α} {o1 : Out} {F : Nat → Prop} {p : Nat} {w w1 : World} (h : Wrote F p o1 w w1) : MidO f l o1 F p w 0 w1 := h
theorem MidO.next {α : Type} {f : α → Out → Out} {l : List α} {o1 : Out} {F F' : Nat → Prop} {p : Nat} {w wr w' : World} {k : Nat} (hk : k < l.length) (hb : (each f (l.take k) o1).bad = false) (ht : Turned F w wr) (hg : Grown F F' w)
    (h : Wrote F' p (f l[k] (each f (l.take k) o1)) wr w') : MidO f l o1 F p w (k + 1) w' := by
  unfold MidO
  rw [each_step l o1 hk hb]
  exact h.trans ht hg
theorem MidO.done {α : Type} {f : α → Out → Out} {l : List α} {o1 : Out} {F : Nat → Prop} {p : Nat} {w wr : World} {k : Nat} (h : MidO f l o1 F p w k wr) (hk : l.length ≤ k ∨ (each f (l.take k) o1).bad = true) : Wrote F p (each f l o1) w wr := by
  unfold MidO at h
  rcases hk with hk | hk
  · rwa [each_all l o1 hk] at h
  · rwa [← each_rest l o1 hk] at h
theorem le_take {α : Type} (c : α → Nat) : ∀ (l : List α) (k : Nat), ((l.take k).map c).sum ≤ (l.map c).sum
  | [], k => by simp
  | x :: l, 0 => by simp
  | x :: l, k + 1 => by
    have := le_take c l k
    simp only [List.take_succ_cons, List.map_cons, List.sum_cons]
    omega
theorem ints_upto (l : List Int) (o1 : Out) (k : Nat) : (each int1 (l.take k) o1).l.length ≤ o1.l.length + 4 * l.length := by
  have h1 := each_len (f := int1) (c := fun _ => 4) (fun x o => num_len x 4 _ o) (l.take k) o1
  have h2 := le_take (fun _ : Int => 4) l k
  rw [sum_const 4 l] at h2
  omega
theorem stps_upto (L : List StpD) (o1 : Out) (k : Nat) : (each stp (L.take k) o1).l.length ≤ o1.l.length + 9 * L.length + 4 * locsSum L := by
  have h1 := each_len (f := stp) (c := fun s => 9 + 4 * s.locs.length) stp_len (L.take k) o1
  have h2 := le_take (fun s : StpD => 9 + 4 * s.locs.length) L k
  rw [stp_sum L] at h2
  omega
theorem f_true {b : Bool} (h : b = false) : (!b) = true := by rw [h]; rfl
theorem f_false {b : Bool} (h : b = true) : (!b) = false := by rw [h]; rfl
set_option maxHeartbeats 1000000 in
theorem outInts {W0 w : World} {F : Nat → Prop} {p : Nat} {o : Out} (h : ROut w F p o) (hF : ∀ b, F b → W0.heap.size ≤ b) (h0 : Below W0.heap.size W0 w) (l : List Int) (v : Value) (hI : Ints W0 v l) (hl : Fine (o.l.length + 1 + 4 * l.length)) :
    Calls Try.prog 20 #[.pointer (some ⟨p, 0, none⟩), v] w fun e w' => e = .returned (.tuple #[]) ∧ Wrote F p (ints l o) w w' := by
  obtain ⟨A, C, rfl, g1, g2, -⟩ := hI.shape
  unfold Fine at hl
  have HE := Lib.hid (show ints l o = each int1 l (num l.length 1 255 o) from rfl)
  have hln := num_len l.length 1 255 o
  have HI := Lib.hid hI
  obtain ⟨L, hL⟩ : ∃ L, l.length = L := ⟨_, rfl⟩
  have HL := Lib.hid hL
  rw [hL] at g1 hl hln HE HI ⊢
  clear hL hI
  go_enter Try.func20, Try.ntmps20
  go_wp2_with fail
  refine (outNum h L 1 255 ⟨by omega, by omega⟩ (by omega) (by omega) (by omega) (by unfold Fine; omega)).mono ?_
  rintro _ w1 ⟨rfl, hw1⟩
  obtain ⟨o1, ho1⟩ : ∃ o1, num L 1 255 o = o1 := ⟨_, rfl⟩
  rw [ho1] at hw1 hln HE
  have HW1 := Lib.hid (MidO.start (f := int1) (l := l) hw1)
  clear hw1 ho1 h
  go_wp2
  go_loopw [4] (fun c wr => ∃ k : Nat, k ≤ L ∧ c = .int .i64 k ∧ MidO int1 l o1 F p w k wr) (fun c _ => L - (intOf c).toNat)
  case atStart => exact ⟨0, Nat.zero_le _, rfl, HW1.out⟩
  case round =>
    obtain ⟨k, hk, rfl, hmid⟩ := hrel
    have HM := Lib.hid hmid
    obtain ⟨F', ⟨v', hat⟩, ht, hg⟩ := hmid
    obtain ⟨-, c1⟩ := hat.cells
    have hup := ints_upto l o1 k
    rw [HL.out] at hup
    by_cases hlt : k < L
    · have hk' : k < l.length := by rw [HL.out]; exact hlt
      cases hb : (each int1 (l.take k) o1).bad with
      | false =>
        have HB := Lib.hid hb
        rw [hb] at c1
        obtain ⟨b, oo, rfl, hcc, hz⟩ := HI.out.at hk'
        have hc := below_cell (h0.trans (ht.below hF h0.size)) _ _ hcc
        obtain ⟨x, hx⟩ : ∃ x, l[k] = x := ⟨_, rfl⟩
        rw [hx] at hc hz
        clear hcc
        have HN := Lib.hid (fun w' => MidO.next (f := int1) (l := l) (o1 := o1) (w' := w') (p := p) hk' hb ht hg)
        rw [hx] at HN
        have HAT := Lib.hid hat
        have q1 : (0 : Int) ≤ (k : Int) := by omega
        have q2 : (k : Int) < (L : Int) := by omega
        clear hb hat ht hg hx hk'
        go_wp2_with fail
        refine (outNum ⟨v', HAT.out⟩ x 4 1073741824 hz (by omega) (by omega) (by omega) (by unfold Fine; omega)).mono ?_
        rintro _ w2 ⟨rfl, hw2⟩
        have HW2 := Lib.hid (HN.out w2 hw2)
        clear hw2
        go_wp2
        go_roundw
        case rel => exact ⟨k + 1, by omega, by go_num, HW2.out⟩
        case measure => simp [intOf]; omega
      | true =>
        rw [hb] at c1
        have HD := Lib.hid (HM.out.done (.inr hb))
        clear hb hat ht hg
        go_wp2
        go_end0
        exact ⟨rfl, by rw [HE.out]; exact HD.out⟩
    · obtain rfl : k = L := by omega
      have HD := Lib.hid (HM.out.done (.inl (Nat.le_of_eq HL.out)))
      clear hat ht hg
      go_wp2
      go_end0
      exact ⟨rfl, by rw [HE.out]; exact HD.out⟩
set_option maxHeartbeats 2000000 in
theorem outStps {W0 w : World} {F : Nat → Prop} {p : Nat} {o : Out} (h : ROut w F p o) (hF : ∀ b, F b → W0.heap.size ≤ b) (h0 : Below W0.heap.size W0 w) (l : List StpD) (v : Value) (hI : Stps W0 v l) (hl : Fine (o.l.length + 20 + 9 * l.length + 8 * locsSum l)) :
    Calls Try.prog 19 #[.pointer (some ⟨p, 0, none⟩), v] w fun e w' => e = .returned (.tuple #[]) ∧ Wrote F p (stps l o) w w' := by
  obtain ⟨A, C, rfl, g1, g2, -⟩ := hI.shape
  unfold Fine at hl
  have HE := Lib.hid (show stps l o = each stp l (num l.length 1 255 o) from rfl)
  have hln := num_len l.length 1 255 o
  have HI := Lib.hid hI
  obtain ⟨L, hL⟩ : ∃ L, l.length = L := ⟨_, rfl⟩
  have HL := Lib.hid hL
  rw [hL] at g1 hl hln HE HI ⊢
  clear hL hI
  go_enter Try.func19, Try.ntmps19
  go_wp2_with fail
  refine (outNum h L 1 255 ⟨by omega, by omega⟩ (by omega) (by omega) (by omega) (by unfold Fine; omega)).mono ?_
  rintro _ w1 ⟨rfl, hw1⟩
  obtain ⟨o1, ho1⟩ : ∃ o1, num L 1 255 o = o1 := ⟨_, rfl⟩
  rw [ho1] at hw1 hln HE
  have HW1 := Lib.hid (MidO.start (f := stp) (l := l) hw1)
  clear hw1 ho1 h
  go_wp2
  go_loopw [4] (fun c wr => ∃ k : Nat, k ≤ L ∧ c = .int .i64 k ∧ MidO stp l o1 F p w k wr) (fun c _ => L - (intOf c).toNat)
  case atStart => exact ⟨0, Nat.zero_le _, rfl, HW1.out⟩
  case round =>
    obtain ⟨k, hk, rfl, hmid⟩ := hrel
    have HM := Lib.hid hmid
    obtain ⟨F', ⟨v', hat⟩, ht, hg⟩ := hmid
    obtain ⟨-, c1⟩ := hat.cells
    have hup := stps_upto l o1 k
    rw [HL.out] at hup
    by_cases hlt : k < L
    · have hk' : k < l.length := by rw [HL.out]; exact hlt
      cases hb : (each stp (l.take k) o1).bad with
      | false =>
        have HB := Lib.hid hb
        rw [hb] at c1
        obtain ⟨b, oo, A', C', rfl, hc0, hc1, hc2, hi, z0, z1, -⟩ := HI.out.at hk'
        have hbw := h0.trans (ht.below hF h0.size)
        have hsum := locsSum_mem (List.getElem_mem hk')
        obtain ⟨x, hx⟩ : ∃ x, l[k] = x := ⟨_, rfl⟩
        rw [hx] at hc0 hc1 hc2 hi z0 z1 hsum
        have k0 := below_cell hbw _ _ hc0
        have HC1 := Lib.hid hc1
        have HC2 := Lib.hid hc2
        have HBW := Lib.hid hbw
        have HN := Lib.hid (fun w' => MidO.next (f := stp) (l := l) (o1 := o1) (w' := w') (p := p) hk' hb ht hg)
        rw [hx] at HN
        have HAT := Lib.hid hat
        obtain ⟨ok, hok⟩ : ∃ ok, each stp (l.take k) o1 = ok := ⟨_, rfl⟩
        rw [hok] at HN HAT hup
        have HF' := Lib.hid (show ∀ b, F' b → W0.heap.size ≤ b from fun b q => (hg b q).elim (hF b) (fun q => Nat.le_trans h0.size q))
        have HI2 := Lib.hid hi
        have e1 := num_len x.id 4 1073741824 ok
        have e2 := num_len x.ep 4 1073741824 (int1 x.id ok)
        have HX := Lib.hid (show stp x ok = ints x.locs (int1 x.ep (int1 x.id ok)) from rfl)
        have q1 : (0 : Int) ≤ (k : Int) := by omega
        have q2 : (k : Int) < (L : Int) := by omega
        clear hb hat ht hg hx hk' hi hc0 hc1 hc2 hok hbw
        go_wp2_with fail
        refine (outNum ⟨v', HAT.out⟩ x.id 4 1073741824 z0 (by omega) (by omega) (by omega) (by unfold Fine; omega)).mono ?_
        rintro _ w2 ⟨rfl, F2, h2, ht2, hg2⟩
        have hb2 := HBW.out.trans (ht2.below HF'.out HBW.out.size)
        have HF2 := Lib.hid (show ∀ b, F2 b → W0.heap.size ≤ b from fun b q => (hg2 b q).elim (HF'.out b) (fun q => Nat.le_trans HBW.out.size q))
        have k1 := below_cell hb2 _ _ HC1.out
        have HB2 := Lib.hid hb2
        have HT2 := Lib.hid ht2
        have HG2 := Lib.hid hg2
        have H2 := Lib.hid h2
        clear k0 hb2 ht2 hg2 h2
        go_wp2_with fail
        refine (outNum H2.out x.ep 4 1073741824 z1 (by omega) (by omega) (by omega) (by unfold Fine; unfold int1 at *; omega)).mono ?_
        rintro _ w3 ⟨rfl, F3, h3, ht3, hg3⟩
        have hb3 := HB2.out.trans (ht3.below HF2.out HB2.out.size)
        have HF3 := Lib.hid (show ∀ b, F3 b → W0.heap.size ≤ b from fun b q => (hg3 b q).elim (HF2.out b) (fun q => Nat.le_trans HB2.out.size q))
        have k2 := below_cell hb3 _ _ HC2.out
        have HB3 := Lib.hid hb3
        have HT3 := Lib.hid (HT2.out.trans ht3 HG2.out)
        have HG3 := Lib.hid (HG2.out.trans hg3 HT2.out.size)
        have H3 := Lib.hid h3
        clear k1 hb3 ht3 hg3 h3
        go_wp2_with fail
        refine (outInts H3.out HF3.out HB3.out x.locs _ HI2.out (by unfold Fine; unfold int1 at *; omega)).mono ?_
        rintro _ w4 ⟨rfl, hw4⟩
        have HW4 := Lib.hid (HN.out w4 (by rw [HX.out]; exact hw4.trans HT3.out HG3.out))
        clear k2 hw4
        go_wp2
        go_roundw
        case rel => exact ⟨k + 1, by omega, by go_num, HW4.out⟩
        case measure => simp [intOf]; omega
      | true =>
        rw [hb] at c1
        have HD := Lib.hid (HM.out.done (.inr hb))
        clear hb hat ht hg
        go_wp2
        go_end0
        exact ⟨rfl, by rw [HE.out]; exact HD.out⟩
    · obtain rfl : k = L := by omega
      have HD := Lib.hid (HM.out.done (.inl (Nat.le_of_eq HL.out)))
      clear hat ht hg
      go_wp2
      go_end0
      exact ⟨rfl, by rw [HE.out]; exact HD.out⟩
end Go.Proofs.Ytjhlcddmpkalfaa.Rec
