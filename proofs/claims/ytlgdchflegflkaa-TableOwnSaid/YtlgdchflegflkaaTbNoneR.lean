/- A table that is none: the law, as a walk, for records alone. -/
import Derived.Test.YtlgdchflegflkaaTbNone
namespace Go.Proofs.Ytlgdchflegflkaa.Tbl
set_option linter.unusedVariables false
open Go.ChangeShapes Go.WideShapes Go.ChangeAt Go.RowKit
open Go.Mem
/-- .. and of a table that is none -/
structure NoTabR : Prop where
  apply : ∀ (w : World) (a b c : Int) (s : ByteArray) (As Ao Ad : Option Addr) (ns no nd Cs Co Cd : Nat), Calls Try.prog 12 #[.pointer none, .agg #[.int .i64 a, .int .i64 b, .int .i64 c, .string s, .slice As ns Cs, .slice Ao no Co, .slice Ad nd Cd]] w fun e w' => e = .returned (.int .i64 2) ∧ Below w.heap.size w w'
  object : ∀ (w : World) (s : ByteArray), Calls Try.prog 18 #[.pointer none, .string s] w fun e w' => ∃ V o, e = .returned (.tuple #[V, .bool false]) ∧ ObjIs w' V o ∧ Below w.heap.size w w'
  keys : ∀ (w : World), Calls Try.prog 24 #[.pointer none] w fun e w' => ∃ V, e = .returned V ∧ Strs w' V [] ∧ Below w.heap.size w w'
  stripe : ∀ (w : World) (id : Int), Calls Try.prog 16 #[.pointer none, .int .i64 id] w fun e w' => ∃ V s, e = .returned (.tuple #[V, .bool false]) ∧ StpIs w' V s ∧ Below w.heap.size w w'
  stripes : ∀ (w : World), Calls Try.prog 22 #[.pointer none] w fun e w' => ∃ V, e = .returned V ∧ Stps w' V [] ∧ Below w.heap.size w w'
  states : ∀ (w : World), Calls Try.prog 23 #[.pointer none] w fun e w' => ∃ V, e = .returned V ∧ Ints w' V [] ∧ Below w.heap.size w w'
  epoch : ∀ (w : World), Calls Try.prog 25 #[.pointer none] w fun e w' => e = .returned (.int .i64 0) ∧ Below w.heap.size w w'
  last : ∀ (w : World), Calls Try.prog 26 #[.pointer none] w fun e w' => e = .returned (.int .i64 0) ∧ Below w.heap.size w w'
  all : ∀ (w : World), Calls Try.prog 15 #[.pointer none] w fun e w' => ∃ V, e = .returned V ∧ RecV w' V RecD.zero ∧ Below w.heap.size w w'
set_option maxHeartbeats 2000000 in
theorem TableNoneR {PD : Thing} (I : TbI PD) (N0 : NoTabR) (r : RecD) (V : Value) (s : ByteArray) (id : Int) (W : World) (h : RecV W V r) :
    Calls Try.prog 7 #[V, .string s, .int .i64 id] W fun e w' => e = .returned (.bool true) ∧ Below W.heap.size W w' := by
  obtain ⟨As, Ao, Ad, Cs, Co, Cd, rfl, hr⟩ := h
  clear hr
  unfold recVal
  go_enter Try.func7, Try.ntmps7
  go_wp2_with fail
  have HX := Lib.hid (fun w' hb => cells7 (w := W) (w' := w') (.int .i64 r.kind) (.int .i64 r.id) (.int .i64 r.size) (.string r.key) (.slice As r.stripes.length Cs) (.slice Ao r.objects.length Co) (.slice Ad r.drives.length Cd) 36 hb)
  have h0 : Below W.heap.size W (W.alloc (.cells #[.int .i64 r.kind, .int .i64 r.id, .int .i64 r.size, .string r.key, .slice As r.stripes.length Cs, .slice Ao r.objects.length Co, .slice Ad r.drives.length Cd] 36)) := (Below.refl _ _).alloc (Nat.le_refl _) _
  have H0 := Lib.hid h0
  obtain ⟨w0, hw0⟩ : ∃ w0, W.alloc (.cells #[.int .i64 r.kind, .int .i64 r.id, .int .i64 r.size, .string r.key, .slice As r.stripes.length Cs, .slice Ao r.objects.length Co, .slice Ad r.drives.length Cd] 36) = w0 := ⟨_, rfl⟩
  rw [hw0] at HX H0 ⊢
  clear hw0 h0
  refine (N0.object _ s).mono ?_
  rintro _ w1 ⟨V1, o1, rfl, hV1, hb1⟩
  obtain ⟨A1, C1, rfl, -⟩ := hV1
  have hb1' := hb1.trans (((Below.refl w1.heap.size w1).alloc (Nat.le_refl _) (.cells #[.string o1.key, .int .i64 o1.id, .int .i64 o1.size, .slice A1 o1.stripes.length C1] 46)).mono hb1.size)
  have HB1 := Lib.hid hb1'
  clear hb1 hb1'
  go_wp2_with fail
  refine (N0.stripe _ id).mono ?_
  rintro _ w2 ⟨V2, s2, rfl, hV2, hb2⟩
  obtain ⟨A2, C2, rfl, -⟩ := hV2
  have hb2' := hb2.trans (((Below.refl w2.heap.size w2).alloc (Nat.le_refl _) (.cells #[.int .i64 s2.id, .int .i64 s2.ep, .slice A2 s2.locs.length C2] 42)).mono hb2.size)
  have HB2 := Lib.hid (nxt HB1.out hb2' (Nat.le_refl _))
  clear hb2 hb2'
  go_wp2_with fail
  refine (answersC I _).mono ?_
  rintro _ w3 ⟨rfl, hb3⟩
  have HB3 := Lib.hid (nxt HB2.out hb3 (Nat.le_refl _))
  obtain ⟨x0, x1, x2, x3, x4, x5, x6⟩ := HX.out _ HB3.out
  clear hb3
  go_wp2_with fail
  refine (N0.apply _ _ _ _ _ _ _ _ _ _ _ _ _ _).mono ?_
  rintro _ w4 ⟨rfl, hb4⟩
  have HB4 := Lib.hid (nxt HB3.out hb4 (Nat.le_refl _))
  clear hb4 x0 x1 x2 x3 x4 x5 x6
  go_wp2_with fail
  refine (N0.keys _).mono ?_
  rintro _ w5 ⟨V5, rfl, hV5, hb5⟩
  obtain ⟨A5, C5, rfl, -⟩ := SliceOf.shape hV5
  have HB5 := Lib.hid (nxt HB4.out hb5 (Nat.le_refl _))
  clear hb5 hV5
  go_wp2_with fail
  refine (N0.stripes _).mono ?_
  rintro _ w6 ⟨V6, rfl, hV6, hb6⟩
  obtain ⟨A6, C6, rfl, -⟩ := hV6.shape
  have HB6 := Lib.hid (nxt HB5.out hb6 (Nat.le_refl _))
  clear hb6 hV6
  go_wp2_with fail
  refine (N0.states _).mono ?_
  rintro _ w7 ⟨V7, rfl, hV7, hb7⟩
  obtain ⟨A7, C7, rfl, -⟩ := hV7.shape
  have HB7 := Lib.hid (nxt HB6.out hb7 (Nat.le_refl _))
  clear hb7 hV7
  go_wp2_with fail
  refine (N0.epoch _).mono ?_
  rintro _ w8 ⟨rfl, hb8⟩
  have HB8 := Lib.hid (nxt HB7.out hb8 (Nat.le_refl _))
  clear hb8
  go_wp2_with fail
  refine (N0.last _).mono ?_
  rintro _ w9 ⟨rfl, hb9⟩
  have HB9 := Lib.hid (nxt HB8.out hb9 (Nat.le_refl _))
  clear hb9
  go_wp2_with fail
  refine (N0.all _).mono ?_
  rintro _ w10 ⟨V10, rfl, hV10, hb10⟩
  have HB10 := Lib.hid (nxt HB9.out hb10 (Nat.le_refl _))
  have HV := Lib.hid hV10
  clear hb10 hV10
  go_wp2_with fail
  refine (Rec.refSame HV.out (zero_val _)).mono ?_
  rintro _ w11 ⟨rfl, hb11⟩
  rw [Rec.eqB_yes rfl]
  have HB11 := Lib.hid (nxt HB10.out hb11 (Nat.le_refl _))
  clear hb11
  go_wp2
  go_ret
  exact ⟨rfl, nxt H0.out HB11.out (Nat.le_refl _)⟩
end Go.Proofs.Ytlgdchflegflkaa.Tbl
