/- The law of layer 21 that what is told, and was handed in, is memory of its own. -/
import Derived.Test.YtcljpniknpgmpaaHsOnce
import Derived.Test.YtcljpniknpgmpaaAppSrc
namespace Go.Proofs.Ytcljpniknpgmpaa.Hst
set_option linter.unusedVariables false
open Go.ChangeShapes Go.WideShapes Go.ChangeAt Go.RowKit
open Go.Mem Hs
/-- the data of a call that was told whatever becomes of X lies outside of X, and may be written -/
theorem calls_new {X : Nat → Prop} {w : World} {A : Option Addr} {n C : Nat} {L : List CallD} (h : Sure X w (fun w' => Cells 10 CallW w' (.slice A n C) L)) {i : Nat} (hi : i < L.length) (hd : 0 < L[i].data.length) :
    ∃ b o b3 o3 C3, A = some ⟨b, o, none⟩ ∧ w.cell? ⟨b, o + i * 10 + 3, none⟩ = some (.slice (some ⟨b3, o3, none⟩) L[i].data.length C3) ∧ ¬ X b3 ∧ b3 < w.heap.size ∧ (∀ j, w.frozen? ⟨b3, j, none⟩ = false) ∧ Bytes w (.slice (some ⟨b3, o3, none⟩) L[i].data.length C3) L[i].data := by
  obtain ⟨b, o, A3, C3, A8, C8, A9, C9, rfl, c0, -, -, c3, -, -, -, -, -, -, r3, -⟩ := calls_at (calls_w h.here) hi
  have hXb : ¬ X b := fun q => by
    have ht : Turned X w (w.setCell ⟨b, o + i * 10, none⟩ (.bool true)) := Turned.set _ q
    obtain ⟨b', o', _, _, _, _, _, _, e, d0, -⟩ := calls_at (calls_w (h _ ht)) hi
    cases e
    rw [World.cell?_setCell_same w ⟨b, o + i * 10, none⟩ _ c0] at d0
    cases d0
  have hlt : b < w.heap.size := World.block_lt_of_cell? _ _ c0
  have hs : Sure X w (fun w' => Bytes w' (.slice A3 L[i].data.length C3) L[i].data) := fun w' t => by
    obtain ⟨b', o', A3', C3', _, _, _, _, e, -, -, -, d3, -, -, -, -, -, -, q3, -⟩ := calls_at (calls_w (h w' t)) hi
    cases e
    rw [World.cell?_of_block (w := w) (a := ⟨b, o + i * 10 + 3, none⟩) (t.block b hlt hXb), c3] at d3
    injection d3 with d3
    injection d3 with d1 _ d2
    rw [d1, d2]
    exact q3
  obtain ⟨b3, o3, rfl, hX3, hl3⟩ := bytes_away hs hd
  refine ⟨b, o, b3, o3, C3, rfl, c3, hX3, hl3, ?_, r3⟩
  obtain ⟨A', n', C', h1, _, _, _, _, h6⟩ := h.here
  cases h1
  obtain ⟨b', o', f, e, hc, q⟩ := h6 i hi
  cases e
  have e3 := hc 3 (by omega)
  rw [c3] at e3
  injection e3 with e3
  exact q.2 b3 o3 _ _ e3.symm
def xO (l : List Nat) : StepD := ⟨1, 1, ⟨#[]⟩, l, 0⟩
def aO : AnsD := ⟨0, 0, false, 0, [], []⟩
theorem own_calls (l : List Nat) : (Hs.zero.add (xO l) aO).calls = [⟨0, 1, ⟨#[]⟩, l, 1, 0, 0, 0, [], []⟩] := by rfl
theorem own_few (l : List Nat) : Few (Hs.zero.add (xO l) aO) := by
  constructor
  · rw [own_calls]; simp
  · rw [St.add_mom]; decide
set_option maxRecDepth 100000 in
set_option maxHeartbeats 4000000 in
theorem HistOwnC {PD : Thing} (I : HsI PD) (l : List Nat) (v : Value) (W : World) (h : Bytes W v l) :
    Calls Try.prog 4 #[v] W fun e w' => e = .returned (.bool true) ∧ Below W.heap.size W w' := by
  have H := Lib.hid h
  obtain ⟨A, C, rfl, h1, h2, h3⟩ := h.shape
  obtain ⟨n, hn⟩ : ∃ n, l.length = n := ⟨_, rfl⟩
  have HN := Lib.hid hn
  rw [hn] at H h1 ⊢
  clear h hn
  by_cases h0 : n = 0
  · have q0 : ((n : Int) == (0 : Int)) = true := by rw [h0]; rfl
    clear h0
    go_enter Try.func4, Try.ntmps4
    go_wp2_with fail
    refine (answersC I _).mono ?_
    rintro _ w2 ⟨rfl, hb2⟩
    have HB := Lib.hid hb2
    clear hb2
    go_wp2
    go_ret
    exact ⟨rfl, HB.out⟩
  · have q0 : ((n : Int) == (0 : Int)) = false := by
      have : ¬ ((n : Int) = 0) := by omega
      simpa using this
    by_cases h100 : 100 < n
    · have q1 : decide ((100 : Int) < (n : Int)) = true := by
        have : (100 : Int) < (n : Int) := by omega
        simpa using this
      have q2 : decide (100 < n) = true := by simpa using h100
      clear h0 h100
      go_enter Try.func4, Try.ntmps4
      go_wp2_with fail
      refine (answersC I _).mono ?_
      rintro _ w2 ⟨rfl, hb2⟩
      have HB := Lib.hid hb2
      clear hb2
      go_wp2
      go_ret
      exact ⟨rfl, HB.out⟩
    · have q1 : decide ((100 : Int) < (n : Int)) = false := by
        have : ¬ (100 : Int) < (n : Int) := by omega
        simpa using this
      have q2 : decide (100 < n) = false := by simpa using h100
      have hn1 : 1 ≤ n := by omega
      have hn100 : n ≤ 100 := by omega
      clear h0 h100
      go_enter Try.func4, Try.ntmps4
      go_wp2_with fail
      refine (I.new _).mono ?_
      rintro _ w1 ⟨F, p, rfl, hp, hF, hb1⟩
      have HP := Lib.hid hp
      have HF := Lib.hid hF
      have HB1 := Lib.hid hb1
      have hal : Below w1.heap.size w1 (w1.alloc (.cells #[] 5)) := (Below.refl _ _).alloc (Nat.le_refl _) _
      have HBN := Lib.hid (built_none (R := ByteR) (t := 5) w1 (Nat.le_refl _))
      have HL := Lib.hid ((H.out.below hb1).below hal)
      have HA := Lib.hid hal
      clear hp hF hb1 hal
      go_upto_region 5 with (at_builtin; refine wpList_append_src _ rfl (.tmp 16) (.tmp 17) 28 28 rfl w1.heap.size 5 Try.underlying28 (by kernel_rfl) _ _ rfl HBN.out _ _ rfl (BSrc.ofBytes Try.underlying28 HL.out) (by rw [HN.out]; simp; omega) (by simp) ?_; intro vi w2 hbu hg hb2 hat)
      rw [List.nil_append] at hbu
      obtain ⟨g, cap, rfl, hg1, hgl⟩ : ∃ g cap, vi = .slice (some ⟨g, 0, none⟩) l.length cap ∧ w1.heap.size ≤ g ∧ g < w2.heap.size := by
        obtain ⟨xs, hr, -⟩ := hbu
        have hlt := hr.lt
        rcases hr.2 with ⟨_, e0⟩ | ⟨g, cap, cur, e, e1, -⟩
        · have := HN.out; omega
        · exact ⟨g, cap, e, e1, (hlt g (by rw [e]; rfl)).2⟩
      have hb12 : Below w1.heap.size w1 w2 := HA.out.trans hb2
      have hfz : ∀ i, w2.frozen? ⟨g, i, none⟩ = false := by
        obtain ⟨xs, hr, -⟩ := hbu
        exact fun i => hr.frozenAt i
      have hx0 := Bytes.here hbu.slice (i := 0) (by have := HN.out; omega)
      obtain ⟨x0, hx0e⟩ : ∃ x, l[0]'(by have := HN.out; omega) = x := ⟨_, rfl⟩
      rw [hx0e] at hx0
      have hP2 : PD w2 F p Hs.zero := I.turned HP.out (Turned.of_below (fun _ => False) hb12) (fun _ q => q.elim)
      have hgF : ¬ F g := fun q => by have := I.lt HP.out g q; omega
      have hVI := slice_on byteR_world hbu
      have hXs : Sure F w2 (fun w' => StepV w' (.agg #[.int .i64 1, .int .i64 1, .string ⟨#[]⟩, .slice (some ⟨g, 0, none⟩) l.length cap, .int .u64 0]) (xO l)) := fun w' t =>
        ⟨some ⟨g, 0, none⟩, cap, rfl, hVI w' (t.mono fun b q z => by injection z with z; rw [← z] at q; exact hgF q), (show I64 (1 : Int) from small (by decide)), (show I64 (1 : Int) from small (by decide))⟩
      have hAs : Sure F w2 (fun w' => AnsV w' (.agg #[.int .i64 0, .int .i64 0, .bool false, .int .i64 0, .slice none 0 0, .slice none 0 0]) aO) := fun w' t => ansV_nil w' aO rfl rfl (small (by decide)) (small (by decide)) (small (by decide))
      have HADD := Lib.hid (I.add hP2 ⟨by decide, by decide⟩ (xO l) aO _ _ hXs hAs ⟨by show l.length ≤ 200; have := HN.out; omega, by decide, by decide⟩)
      rw [HN.out] at HADD ⊢
      have HFW := Lib.hid (fun b (q : F b) => HF.out b q)
      have HBW := Lib.hid (HB1.out.trans (hb12.mono HB1.out.size))
      have hlt2 := I.lt hP2
      have HLT2 := Lib.hid hlt2
      have HFZ := Lib.hid hfz
      have HX0 := Lib.hid hx0
      have HGF := Lib.hid hgF
      have hgW : W.heap.size ≤ g := by have := HB1.out.size; omega
      clear hbu hg hb2 hat hb12 hfz hx0 hx0e hP2 hVI hXs hAs hlt2 hgF
      go_wp2_with fail
      refine HADD.out.mono ?_
      rintro _ w3 ⟨rfl, F3, hp3, ht3, hg3⟩
      have hblk := ht3.block g hgl HGF.out
      have c0 : w3.cell? ⟨g, 0, none⟩ = some (.int .u8 (x0 : Nat)) := (World.cell?_of_block (w := w2) (a := ⟨g, 0, none⟩) hblk).trans (by simpa using HX0.out.1)
      have f0 : w3.frozen? ⟨g, 0, none⟩ = false := (World.frozen?_of_block (w := w2) (a := ⟨g, 0, none⟩) hblk).trans (HFZ.out 0)
      have hx256 := HX0.out.2
      have i1 : (1 : Int) ≤ (n : Int) := by omega
      have hnF3 : ¬ F3 g := fun q => by
        rcases hg3 g q with z | z
        · exact HGF.out z
        · omega
      have HP3 := Lib.hid hp3
      have HG3 := Lib.hid (fun b (q : F3 b) => show W.heap.size ≤ b by
        rcases hg3 b q with z | z
        · exact HFW.out b z
        · exact Nat.le_trans HBW.out.size z)
      have HB3 := Lib.hid (HBW.out.trans (ht3.below HFW.out HBW.out.size))
      have HNF3 := Lib.hid hnF3
      clear hp3 ht3 hg3 hblk hnF3
      go_upto_region 7 with fail
      have ht4 : Turned (fun b => b = g) w3 (w3.setCell ⟨g, 0, none⟩ (.int .u8 (((x0 : Nat) + 1) % 256))) := Turned.set _ rfl
      obtain ⟨w4, hw4⟩ : ∃ w4, w3.setCell ⟨g, 0, none⟩ (.int .u8 (((x0 : Nat) + 1) % 256)) = w4 := ⟨_, rfl⟩
      rw [hw4] at ht4 ⊢
      have hP4 := I.turned HP3.out ht4 (fun b q => by subst q; exact HNF3.out)
      have HP4 := Lib.hid hP4
      have HLT4 := Lib.hid (I.lt hP4)
      have HB4 := Lib.hid (HB3.out.trans (ht4.below (fun b q => by subst q; exact hgW) HB3.out.size))
      have HFEW := Lib.hid (own_few l)
      clear c0 f0 hP4 ht4 hw4
      go_wp2_with fail
      refine (I.calls HP4.out HFEW.out).mono ?_
      rintro _ w5 ⟨V, rfl, hs5, hb5⟩
      rw [own_calls] at hs5
      obtain ⟨A5, C5, rfl, g5, g6, -⟩ := calls_shape (calls_w hs5.here)
      have hd5 : 0 < ([(⟨0, 1, ⟨#[]⟩, l, 1, 0, 0, 0, [], []⟩ : CallD)])[0].data.length := by show 0 < l.length; have := HN.out; omega
      obtain ⟨b, o, b3, o3, C3, rfl, c3, hX3, hl3, hf3, r3⟩ := calls_new (i := 0) hs5 (by simp) hd5
      have r3' : Bytes w5 (.slice (some ⟨b3, o3, none⟩) l.length C3) l := r3
      have c3' : w5.cell? ⟨b, o + 3, none⟩ = some (.slice (some ⟨b3, o3, none⟩) l.length C3) := by simpa using c3
      obtain ⟨d0, d1⟩ := Bytes.here r3' (i := 0) (by have := HN.out; omega)
      obtain ⟨y0, hy0⟩ : ∃ x, l[0]'(by have := HN.out; omega) = x := ⟨_, rfl⟩
      rw [hy0] at d0 d1
      rw [Nat.add_zero] at d0
      rw [HN.out] at c3'
      have fd : w5.frozen? ⟨b3, o3, none⟩ = false := hf3 o3
      have hb3W : W.heap.size ≤ b3 := by have := HB4.out.size; omega
      have hnF : ¬ F3 b3 := fun q => hX3 (HLT4.out b3 q)
      have HNF := Lib.hid hnF
      have HP5 := Lib.hid (I.turned HP4.out (Turned.of_below (fun _ => False) hb5) (fun _ q => q.elim))
      have HB5 := Lib.hid (HB4.out.trans (hb5.mono HB4.out.size))
      clear hs5 hb5 g5 hd5 c3 hX3 hl3 hf3 r3 r3' hy0 hnF
      go_upto_region 11 with fail
      have ht6 : Turned (fun z => z = b3) w5 (w5.setCell ⟨b3, o3, none⟩ (.int .u8 (((y0 : Nat) - 1) % 256))) := Turned.set _ rfl
      obtain ⟨w6, hw6⟩ : ∃ w6, w5.setCell ⟨b3, o3, none⟩ (.int .u8 (((y0 : Nat) - 1) % 256)) = w6 := ⟨_, rfl⟩
      rw [hw6] at ht6 ⊢
      have HP6 := Lib.hid (I.turned HP5.out ht6 (fun z q => by subst q; exact HNF.out))
      have HB6 := Lib.hid (HB5.out.trans (ht6.below (fun z q => by subst q; exact hb3W) HB5.out.size))
      clear ht6 hw6 c3' d0 fd
      go_wp2_with fail
      refine (answersC I _).mono ?_
      rintro _ w7 ⟨rfl, hb7⟩
      have HP7 := Lib.hid (I.turned HP6.out (Turned.of_below (fun _ => False) hb7) (fun _ q => q.elim))
      have HB7 := Lib.hid (HB6.out.trans (hb7.mono HB6.out.size))
      clear hb7
      go_wp2_with fail
      refine (I.calls HP7.out HFEW.out).mono ?_
      rintro _ w8 ⟨V, rfl, hs8, hb8⟩
      rw [own_calls] at hs8
      obtain ⟨A8, C8, rfl, g5, g6, -⟩ := calls_shape (calls_w hs8.here)
      obtain ⟨b, o, A3, C3, _, _, _, _, rfl, -, -, -, c3, -, -, -, -, -, -, r3, -⟩ := calls_at (calls_w hs8.here) (i := 0) (by simp)
      have r3' : Bytes w8 (.slice A3 l.length C3) l := r3
      have c3' : w8.cell? ⟨b, o + 3, none⟩ = some (.slice A3 l.length C3) := by simpa using c3
      have HB8 := Lib.hid (HB7.out.trans (hb8.mono HB7.out.size))
      have hs := Same.sameC l l _ _ w8 r3' (H.out.below HB8.out)
      rw [HN.out] at c3' hs
      have hq : Same.sameB l l = true := decide_eq_true rfl
      rw [hq] at hs
      have HS := Lib.hid hs
      clear hs8 hb8 g5 c3 r3 r3' hs hq
      go_wp2_with fail
      refine HS.out.mono ?_
      rintro _ w9 ⟨rfl, k9, rfl⟩
      go_wp2
      go_ret
      exact ⟨rfl, HB8.out.trans (Go.Mem.below_drewN _ _ _)⟩
end Go.Proofs.Ytcljpniknpgmpaa.Hst
