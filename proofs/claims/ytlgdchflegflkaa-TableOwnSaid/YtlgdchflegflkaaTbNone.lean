/- A table that is none: the law, as a walk. -/
import Derived.Test.YtlgdchflegflkaaTbAns
import Derived.Test.YtlgdchflegflkaaRecSame2
namespace Go.Proofs.Ytlgdchflegflkaa.Tbl
set_option linter.unusedVariables false
open Go.ChangeShapes Go.WideShapes Go.ChangeAt Go.RowKit
open Go.Mem
theorem zero_val (w : World) : RecV w (.agg #[.int .i64 0, .int .i64 0, .int .i64 0, .string ⟨#[]⟩, .slice none 0 0, .slice none 0 0, .slice none 0 0]) RecD.zero :=
  ⟨none, none, none, 0, 0, 0, rfl, ⟨none, 0, 0, rfl, rfl, Nat.le_refl _, Nat.zero_le _, fun _ => rfl, fun i hi => absurd hi (by simp [RecD.zero])⟩, ⟨none, 0, 0, rfl, rfl, Nat.le_refl _, Nat.zero_le _, fun _ => rfl, fun i hi => absurd hi (by simp [RecD.zero])⟩, Ints.nil _, by unfold I64; decide, by unfold I64; decide, by unfold I64; decide, by unfold KeyOk; decide, by unfold LenOk; decide, by unfold LenOk; decide, by unfold LenOk; decide⟩
theorem nxt {B : Nat} {w w1 w2 : World} (h : Below B w w1) (k : Below w1.heap.size w1 w2) (hB : B ≤ w.heap.size) : Below B w w2 := h.trans (k.mono (Nat.le_trans hB h.size))
theorem cells7 {w w' : World} (c0 c1 c2 c3 c4 c5 c6 : Value) (T : TypeId) (hb : Below (w.alloc (.cells #[c0, c1, c2, c3, c4, c5, c6] T)).heap.size (w.alloc (.cells #[c0, c1, c2, c3, c4, c5, c6] T)) w') :
    w'.cell? ⟨w.heap.size, 0, none⟩ = some c0 ∧ w'.cell? ⟨w.heap.size, 1, none⟩ = some c1 ∧ w'.cell? ⟨w.heap.size, 2, none⟩ = some c2 ∧ w'.cell? ⟨w.heap.size, 3, none⟩ = some c3 ∧ w'.cell? ⟨w.heap.size, 4, none⟩ = some c4 ∧ w'.cell? ⟨w.heap.size, 5, none⟩ = some c5 ∧ w'.cell? ⟨w.heap.size, 6, none⟩ = some c6 := by
  have k : ∀ i (hi : i < 7), w'.cell? ⟨w.heap.size, i, none⟩ = some (#[c0, c1, c2, c3, c4, c5, c6][i]'hi) := fun i hi =>
    (hb.cell (p := ⟨w.heap.size, i, none⟩) (by show w.heap.size < _; simp)).trans (cells_of w #[c0, c1, c2, c3, c4, c5, c6] T hi)
  exact ⟨k 0 (by omega), k 1 (by omega), k 2 (by omega), k 3 (by omega), k 4 (by omega), k 5 (by omega), k 6 (by omega)⟩
set_option maxHeartbeats 2000000 in
theorem TableNoneC {PD : Thing} (I : TbI PD) (N0 : NoTab) (r : RecD) (V : Value) (s : ByteArray) (id : Int) (W : World) (h : RecV W V r) :
    Calls Try.prog 7 #[V, .string s, .int .i64 id] W fun e w' => e = .returned (.bool true) ∧ Below W.heap.size W w' := by
  obtain ⟨As, Ao, Ad, Cs, Co, Cd, rfl, hr⟩ := h
  clear hr
  unfold recVal
  go_enter Try.func7, Try.ntmps7
  go_wp2_with fail
  have HX := Lib.hid (fun w' hb => cells7 (w := W) (w' := w') (.int .i64 r.kind) (.int .i64 r.id) (.int .i64 r.size) (.string r.key) (.slice As r.stripes.length Cs) (.slice Ao r.objects.length Co) (.slice Ad r.drives.length Cd) 36 hb)
  have h0 : Below W.heap.size W (W.alloc (.cells #[.int .i64 r.kind, .int .i64 r.id, .int .i64 r.size, .string r.key, .slice As r.stripes.length Cs, .slice Ao r.objects.length Co, .slice Ad r.drives.length Cd] 36)) := (Below.refl _ _).alloc (Nat.le_refl _) _
  have H0 := Lib.hid h0
  obtain ⟨w0, hw0⟩ : ∃ w0, W.alloc (.cells #[.int .i64 r.kind, .int .i64 r.id, .int .i64 r.size, .string r.key, .slice As r.stripes.length Cs, .slice Ao r.objects.length Co, .slice Ad r.drives.length Cd] 36) = w0 := ⟨_, rfl⟩
  rw [hw0] at HX H0 ⊢
  clear hw0 h0
  refine (N0.object _ s).mono ?_
  rintro _ w1 ⟨V1, o1, rfl, hV1, hb1⟩
  obtain ⟨A1, C1, rfl, -⟩ := hV1
  have hb1' := hb1.trans (((Below.refl w1.heap.size w1).alloc (Nat.le_refl _) (.cells #[.string o1.key, .int .i64 o1.id, .int .i64 o1.size, .slice A1 o1.stripes.length C1] 46)).mono hb1.size)
  have HB1 := Lib.hid hb1'
  clear hb1 hb1'
  go_wp2_with fail
  refine (N0.stripe _ id).mono ?_
  rintro _ w2 ⟨V2, s2, rfl, hV2, hb2⟩
  obtain ⟨A2, C2, rfl, -⟩ := hV2
  have hb2' := hb2.trans (((Below.refl w2.heap.size w2).alloc (Nat.le_refl _) (.cells #[.int .i64 s2.id, .int .i64 s2.ep, .slice A2 s2.locs.length C2] 42)).mono hb2.size)
  have HB2 := Lib.hid (nxt HB1.out hb2' (Nat.le_refl _))
  clear hb2 hb2'
  go_wp2_with fail
  refine (answersC I _).mono ?_
  rintro _ w3 ⟨rfl, hb3⟩
  have HB3 := Lib.hid (nxt HB2.out hb3 (Nat.le_refl _))
  obtain ⟨x0, x1, x2, x3, x4, x5, x6⟩ := HX.out _ HB3.out
  clear hb3
  go_wp2_with fail
  refine (N0.apply _ _).mono ?_
  rintro _ w4 ⟨rfl, hb4⟩
  have HB4 := Lib.hid (nxt HB3.out hb4 (Nat.le_refl _))
  clear hb4 x0 x1 x2 x3 x4 x5 x6
  go_wp2_with fail
  refine (N0.keys _).mono ?_
  rintro _ w5 ⟨V5, rfl, hV5, hb5⟩
  obtain ⟨A5, C5, rfl, -⟩ := SliceOf.shape hV5
  have HB5 := Lib.hid (nxt HB4.out hb5 (Nat.le_refl _))
  clear hb5 hV5
  go_wp2_with fail
  refine (N0.stripes _).mono ?_
  rintro _ w6 ⟨V6, rfl, hV6, hb6⟩
  obtain ⟨A6, C6, rfl, -⟩ := hV6.shape
  have HB6 := Lib.hid (nxt HB5.out hb6 (Nat.le_refl _))
  clear hb6 hV6
  go_wp2_with fail
  refine (N0.states _).mono ?_
  rintro _ w7 ⟨V7, rfl, hV7, hb7⟩
  obtain ⟨A7, C7, rfl, -⟩ := hV7.shape
  have HB7 := Lib.hid (nxt HB6.out hb7 (Nat.le_refl _))
  clear hb7 hV7
  go_wp2_with fail
  refine (N0.epoch _).mono ?_
  rintro _ w8 ⟨rfl, hb8⟩
  have HB8 := Lib.hid (nxt HB7.out hb8 (Nat.le_refl _))
  clear hb8
  go_wp2_with fail
  refine (N0.last _).mono ?_
  rintro _ w9 ⟨rfl, hb9⟩
  have HB9 := Lib.hid (nxt HB8.out hb9 (Nat.le_refl _))
  clear hb9
  go_wp2_with fail
  refine (N0.all _).mono ?_
  rintro _ w10 ⟨V10, rfl, hV10, hb10⟩
  have HB10 := Lib.hid (nxt HB9.out hb10 (Nat.le_refl _))
  have HV := Lib.hid hV10
  clear hb10 hV10
  go_wp2_with fail
  refine (Rec.refSame HV.out (zero_val _)).mono ?_
  rintro _ w11 ⟨rfl, hb11⟩
  rw [Rec.eqB_yes rfl]
  have HB11 := Lib.hid (nxt HB10.out hb11 (Nat.le_refl _))
  clear hb11
  go_wp2
  go_ret
  exact ⟨rfl, nxt H0.out HB11.out (Nat.le_refl _)⟩
end Go.Proofs.Ytlgdchflegflkaa.Tbl
