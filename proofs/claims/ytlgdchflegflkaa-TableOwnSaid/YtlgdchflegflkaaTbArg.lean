/- Slices of records, and a stripe, as arguments, in this place's words, with the form's own reach. No program is named here. -/
import Derived.Test.YtlgdchflegflkaaRecArg
import Derived.Test.YtlgdchflegflkaaTbSmall
namespace Go.Proofs.Ytlgdchflegflkaa.Tbl
open Go.RowKit Go.WideShapes Go.ChangeShapes Go.Deep Go.Mem RecM
variable {H : Type} {enc : TypeId × Value → H} {P : Program} {w : World} {held : Bool}
instance : Inhabited RecD := ⟨⟨0, 0, 0, ⟨#[]⟩, [], [], []⟩⟩
theorem recs_of {r : Reach} {b0 : Nat} {t e es eo tl ti os' : TypeId} {f0 f1 f2 f3 f4 f5 f6 g0 g1 g2 o0 o1 o2 o3 k0 k1 k2 : Field} {v : Value} {d : DataW H} {ps : List MemPlace} (ht : P.underlying t = some (.slice e)) (hb : 1 ≤ P.bytesOf e)
    (T : RecT P e f0 f1 f2 f3 f4 f5 f6 ti) (S : StpT P f4.type es tl ti g0 g1 g2) (O : ObjT P f5.type eo o0 o1 o2 o3) (OS : StpT P o3.type os' tl ti k0 k1 k2)
    (hv : Value.okWide P w r b0 t v) (h : DataW.Trod enc P w 0 (fun _ => true) held t v d ps) (hz : Within P t d) : ∃ l, Recs w v l := by
  obtain ⟨A0, n0, C0, rfl⟩ := okWide_slice ht hv
  obtain ⟨fuel, hf⟩ := h
  obtain ⟨l, hl, -⟩ := cells_at (α := RecD) (R := RecR) ht T.ht T.one T.c hb (by simp) (fun f q hq => by
    obtain ⟨y0, t0, _⟩ := hq 0 f0 rfl
    obtain ⟨y1, t1, _⟩ := hq 1 f1 rfl
    obtain ⟨y2, t2, _⟩ := hq 2 f2 rfl
    obtain ⟨y3, t3, z3⟩ := hq 3 f3 rfl
    obtain ⟨y4, t4, z4⟩ := hq 4 f4 rfl
    obtain ⟨y5, t5, z5⟩ := hq 5 f5 rfl
    obtain ⟨y6, t6, z6⟩ := hq 6 f6 rfl
    obtain ⟨i0, w0, _, b0⟩ := DataW.trod_int T.h0 t0
    obtain ⟨i1, w1, _, b1⟩ := DataW.trod_int T.h1 t1
    obtain ⟨i2, w2, _, b2⟩ := DataW.trod_int T.h2 t2
    obtain ⟨s, w3, e3, _⟩ := DataW.trod_string T.h3 t3
    rw [e3] at z3
    obtain ⟨L4, hL4, n4⟩ := stps_at S t4 z4
    obtain ⟨L5, hL5, n5⟩ := objs_at O OS t5 z5
    obtain ⟨L6, hL6, n6⟩ := Go.Mem.ints_at T.h6 T.i T.ic T.ib t6 z6
    obtain ⟨A4, C4, e4, _⟩ := hL4.shape
    obtain ⟨A5, C5, e5, _⟩ := hL5.shape
    obtain ⟨A6, C6, e6, _⟩ := hL6.shape
    rw [e4] at hL4
    rw [e5] at hL5
    rw [e6] at hL6
    exact ⟨⟨i0, i1, i2, s, L4, L5, L6⟩, A4, A5, A6, C4, C5, C6, by simpa using w0, by simpa using w1, by simpa using w2, by simpa using w3, e4, e5, e6, hL4, hL5, hL6, bounds_i64 b0, bounds_i64 b1, bounds_i64 b2, z3.str, n4, n5, n6⟩) hf hz
  exact ⟨l, hl⟩
theorem stp_of {r : Reach} {b0 : Nat} {t e tl ti : TypeId} {f0 f1 f2 : Field} {v : Value} {d : DataW H} {ps : List MemPlace} (T : StpT P t e tl ti f0 f1 f2)
    (hv : Value.okWide P w r b0 e v) (h : DataW.Trod enc P w 0 (fun _ => true) held e v d ps) (hz : Within P e d) : ∃ x, StpIs w v x := by
  obtain ⟨cs, rfl, hsz⟩ := okWide_struct T.he hv
  rw [T.c] at hsz
  obtain ⟨fuel, hf⟩ := h
  obtain ⟨hl, q, hq⟩ := fields_of T.he T.one (by rw [T.c]; rfl) hf hz
  obtain ⟨y0, t0, _⟩ := hq 0 f0 rfl
  obtain ⟨y1, t1, _⟩ := hq 1 f1 rfl
  obtain ⟨y2, t2, z2⟩ := hq 2 f2 rfl
  obtain ⟨i0, w0, _, b0⟩ := DataW.trod_int T.h0 t0
  obtain ⟨i1, w1, _, b1⟩ := DataW.trod_int T.h1 t1
  obtain ⟨L2, hL2, n2⟩ := Go.Mem.ints_at T.h2 T.i T.ic T.ib t2 z2
  obtain ⟨A2, C2, e2, _⟩ := hL2.shape
  rw [e2] at hL2
  refine ⟨⟨i0, i1, L2⟩, A2, C2, ?_, hL2, bounds_i64 b0, bounds_i64 b1, n2⟩
  obtain ⟨cs⟩ := cs
  have hsz' : cs.length = 3 := hsz
  match cs, hsz' with
  | [c0, c1, c2], _ =>
    have w0' : c0 = .int .i64 i0 := by simpa [Value.cells] using w0
    have w1' : c1 = .int .i64 i1 := by simpa [Value.cells] using w1
    have e2' : c2 = _ := e2
    subst w0'; subst w1'; subst e2'
    rfl
end Go.Proofs.Ytlgdchflegflkaa.Tbl
