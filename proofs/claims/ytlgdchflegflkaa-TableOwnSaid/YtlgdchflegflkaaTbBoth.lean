/- The program's table and the document's, side by side. -/
import Derived.Test.YtlgdchflegflkaaTbSame
namespace Go.Proofs.Ytlgdchflegflkaa.Tbl
set_option linter.unusedVariables false
open Go.ChangeShapes Go.WideShapes Go.ChangeAt Go.RowKit
open Go.Mem RecM
/-- a document's table that begins -/
theorem rt_start (w : World) : RT (w.alloc (.cells #[.int .i64 3, .int .i64 2, .slice none 0 0, .slice none 0 0, .int .i64 0, .int .i64 0] TTab)) (fun b => b = w.heap.size) w.heap.size (Tb.empty 3 5) := by
  refine ⟨fun _ => False, .slice none 0 0, .slice none 0 0, (row_of w _ _).congr (lt6 rfl rfl rfl rfl rfl rfl), BuiltX.start _ _ _ _ _, fun w' _ => Ints.nil _, rfl, fun b q => q.elim, fun b q => (by cases q), fun b q => ?_, ?_, ?_, ?_, ?_⟩
  · rw [q]; simp
  · show (1 : Int) ≤ 3; decide
  · show (3 : Int) ≤ 1000; decide
  · show (0 : Int) ≤ 5 - 3; decide
  · show (5 : Int) - 3 ≤ 1000; decide
def BothT (PD : Thing) (W w : World) (p r : Nat) (t t' : Tb.TabD) : Prop :=
  ∃ F G, PD w F p t ∧ (∀ b, F b → W.heap.size ≤ b) ∧ RT w G r t' ∧ (∀ b, G b → W.heap.size ≤ b) ∧ (∀ b, F b → ¬ G b) ∧ Below W.heap.size W w
section
variable {PD : Thing} {W w w' : World} {p r : Nat} {t t' : Tb.TabD}
theorem BothT.bel (h : BothT PD W w p r t t') : Below W.heap.size W w := by
  obtain ⟨F, G, _, _, _, _, _, h⟩ := h
  exact h
theorem BothT.below (I : TbI PD) (h : BothT PD W w p r t t') (hb : Below w.heap.size w w') : BothT PD W w' p r t t' := by
  obtain ⟨F, G, h1, h2, h3, h4, h5, h6⟩ := h
  exact ⟨F, G, I.turned h1 (Turned.of_below (fun _ => False) hb) (fun _ q => q.elim), h2, h3.below hb, h4, h5, h6.trans (hb.mono h6.size)⟩
theorem BothT.mine (h : BothT PD W w p r t t') : MineT PD W w p t := by
  obtain ⟨F, G, h1, h2, h3, h4, h5, h6⟩ := h
  exact ⟨F, h1, h2, h6⟩
theorem BothT.rt (h : BothT PD W w p r t t') : ∃ G, RT w G r t' := by
  obtain ⟨F, G, h1, h2, h3, h4, h5, h6⟩ := h
  exact ⟨G, h3⟩
theorem BothT.start (I : TbI PD) (h : MineT PD W w p t) : BothT PD W (w.alloc (.cells #[.int .i64 3, .int .i64 2, .slice none 0 0, .slice none 0 0, .int .i64 0, .int .i64 0] TTab)) p w.heap.size t (Tb.empty 3 5) := by
  obtain ⟨F, h1, h2, h3⟩ := h
  have hx : Below w.heap.size w (w.alloc (.cells #[.int .i64 3, .int .i64 2, .slice none 0 0, .slice none 0 0, .int .i64 0, .int .i64 0] TTab)) := (Below.refl _ _).alloc (Nat.le_refl _) _
  exact ⟨F, _, I.turned h1 (Turned.of_below (fun _ => False) hx) (fun _ q => q.elim), h2, rt_start w, fun b q => by rw [q]; exact h3.size, fun b q z => by have := I.lt h1 b q; omega, h3.trans (hx.mono h3.size)⟩
theorem BothT.applyT (I : TbI PD) (h : BothT PD W w p r t t') (hf : Few t) (rd : RecD) (V : Value) (hr : RecV W V rd) (hfit : Fit rd) :
    Calls Try.prog 12 #[.pointer (some ⟨p, 0, none⟩), V] w fun e w' => e = .returned (.int .i64 (if (Tb.apply t rd).isSome = true then 0 else 2)) ∧ BothT PD W w' p r (Tb.stepT t rd) t' := by
  obtain ⟨F, G, h1, h2, h3, h4, h5, h6⟩ := h
  refine (I.apply h1 hf rd V (sure_old h6 hr F fun b q => ⟨h2 b q, I.lt h1 b q⟩) hfit).mono fun e w' hh => ?_
  obtain ⟨e1, F', k1, k2, k3⟩ := hh
  have hs := h6.size
  refine ⟨e1, F', G, k1, fun b q => ?_, h3.turned k2 h5, h4, fun b q z => ?_, h6.trans (k2.below h2 hs)⟩
  · rcases k3 b q with z | z
    · exact h2 b z
    · omega
  · rcases k3 b q with y | y
    · exact h5 b y z
    · have := h3.lt b z; omega
theorem BothT.applyR (I : TbI PD) (h : BothT PD W w p r t t') (hok : t'.Ok) (hf : Few t') (rd : RecD) (V : Value) (hr : RecV W V rd) (hfit : Fit rd) :
    Calls Try.prog 13 #[.pointer (some ⟨r, 0, none⟩), V] w fun e w' => e = .returned (.bool (Tb.apply t' rd).isSome) ∧ BothT PD W w' p r t (Tb.stepT t' rd) := by
  obtain ⟨F, G, h1, h2, h3, h4, h5, h6⟩ := h
  refine (refApplyC h3 hok hf rd V (hr.below h6) hfit).mono fun e w' hh => ?_
  obtain ⟨e1, G', k1, k2, k3⟩ := hh
  have hs := h6.size
  refine ⟨e1, F, G', I.turned h1 k2 (fun b q z => h5 b z q), h2, k1, fun b q => ?_, fun b q z => ?_, h6.trans (k2.below h4 hs)⟩
  · rcases k3 b q with z | z
    · exact h4 b z
    · omega
  · rcases k3 b z with y | y
    · exact h5 b q y
    · have := I.lt h1 b q; omega
theorem BothT.sameC (I : TbI PD) (h : BothT PD W w p r t t) (hf : Few t) :
    Calls Try.prog 14 #[.pointer (some ⟨p, 0, none⟩), .pointer (some ⟨r, 0, none⟩)] w fun e w' => e = .returned (.bool true) ∧ BothT PD W w' p r t t := by
  obtain ⟨G, hr⟩ := h.rt
  exact (sameTC I h.mine hr hf).mono fun e w' hh => ⟨hh.1, h.below I hh.2⟩
end
/-- an element of a slice of records, by value -/
theorem Recs.val {W : World} {A : Option Addr} {n C : Nat} {L : List RecD} (h : Recs W (.slice A n C) L) {i : Nat} (hi : i < L.length) :
    ∃ b o As Ao Ad Cs Co Cd, A = some ⟨b, o, none⟩ ∧ W.cell? ⟨b, o + i * 7, none⟩ = some (.int .i64 L[i].kind) ∧ W.cell? ⟨b, o + i * 7 + 1, none⟩ = some (.int .i64 L[i].id) ∧ W.cell? ⟨b, o + i * 7 + 2, none⟩ = some (.int .i64 L[i].size) ∧ W.cell? ⟨b, o + i * 7 + 3, none⟩ = some (.string L[i].key) ∧
      W.cell? ⟨b, o + i * 7 + 4, none⟩ = some (.slice As L[i].stripes.length Cs) ∧ W.cell? ⟨b, o + i * 7 + 5, none⟩ = some (.slice Ao L[i].objects.length Co) ∧ W.cell? ⟨b, o + i * 7 + 6, none⟩ = some (.slice Ad L[i].drives.length Cd) ∧ RecV W (recVal L[i] As Ao Ad Cs Co Cd) L[i] := by
  obtain ⟨b, o, As, Ao, Ad, Cs, Co, Cd, rfl, c0, c1, c2, c3, c4, c5, c6, hr⟩ := h.at hi
  exact ⟨b, o, As, Ao, Ad, Cs, Co, Cd, rfl, c0, c1, c2, c3, c4, c5, c6, As, Ao, Ad, Cs, Co, Cd, rfl, hr⟩
end Go.Proofs.Ytlgdchflegflkaa.Tbl
