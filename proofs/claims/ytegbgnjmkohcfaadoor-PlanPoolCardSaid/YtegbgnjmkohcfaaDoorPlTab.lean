/- The program's table, as the laws of layer 17 call it. -/
import Derived.Test.YtegbgnjmkohcfaaDoorQTbGe
import Derived.Test.YtegbgnjmkohcfaaDoorPlMath
namespace Go.Proofs.YtegbgnjmkohcfaaDoor.Pl
set_option linter.unusedVariables false
open Go.ChangeShapes Go.WideShapes Go.ChangeAt Go.RowKit
open Go.Mem RecM Tbl Rk
section
variable {w w' : World} {F G : Nat → Prop} {p : Nat} {t : Tb.TabD}
theorem pd_turned (h : PDt w F p t) (ht : Turned G w w') (hG : ∀ b, G b → ¬ F b) : PDt w' F p t := by
  obtain ⟨hok, E, M, A, C, h, hF⟩ := h
  exact ⟨hok, E, M, A, C, h.turned ht (fun b q => ⟨fun z => hG b q ((hF b).2 (.inl z)), fun z => hG b q ((hF b).2 (.inr (.inl z))), fun z => hG b q ((hF b).2 (.inr (.inr z)))⟩), hF⟩
theorem pd_below (h : PDt w F p t) (hb : Below w.heap.size w w') : PDt w' F p t := pd_turned h (Turned.of_below (fun _ => False) hb) (fun _ q => q.elim)
theorem pd_lt (h : PDt w F p t) : ∀ b, F b → b < w.heap.size := by
  obtain ⟨hok, E, M, A, C, h, hF⟩ := h
  intro b q
  rcases (hF b).1 q with z | z | z
  · exact h.lt b z
  · rw [z]; exact h.head.lt
  · exact (h.map_lt b z).1
theorem pd_ok (h : PDt w F p t) : t.Ok := h.1
theorem newP (w : World) : Calls Tryd.prog 14 #[.int .i64 2, .int .i64 1] w fun e w' => ∃ F p, e = .returned (.pointer (some ⟨p, 0, none⟩)) ∧ PDt w' F p (Tb.empty 2 3) ∧ (∀ b, F b → w.heap.size ≤ b) ∧ Below w.heap.size w w' := by
  refine (newC w 2 1 (by unfold I64; decide) (by unfold I64; decide)).mono ?_
  rintro _ w' ⟨rfl, rfl⟩
  have hn := new_at w 2 3 (.inr (.inr ⟨rfl, rfl⟩))
  refine ⟨fun b => False ∨ b = w.heap.size ∨ (none : Option Nat) = some b, w.heap.size, rfl, ⟨Tb.empty_ok _ (by decide), fun _ => False, none, none, 0, hn, fun b => Iff.rfl⟩, fun b q => ?_, (Below.refl _ _).alloc (Nat.le_refl _) _⟩
  rcases q with q | q | q
  · exact q.elim
  · omega
  · cases q
theorem applyP (h : PDt w F p t) (hf : Few t) (r : RecD) (V : Value) (hV : Sure F w (fun w' => RecV w' V r)) (ho : r.objects.length ≤ 1000000) (hd : r.drives.length ≤ 1000000) :
    Calls Tryd.prog 13 #[.pointer (some ⟨p, 0, none⟩), V] w fun e w' => e = .returned (.int .i64 (errI (Tb.apply t r).isSome)) ∧ Does PDt F p ((Tb.apply t r).getD t) w w' := by
  obtain ⟨hok, E, M, A, C, h, hF⟩ := h
  unfold Few at hf
  refine (applyEC h hok (by omega) r V (hV.less fun b q => (hF b).2 (.inr q)) ho hd).mono ?_
  rintro e w' ⟨rfl, E', M', A', C', h1, h2, h3, h4⟩
  refine ⟨rfl, fun b => E' b ∨ b = p ∨ M' = some b, ⟨?_, E', M', A', C', h1, fun b => Iff.rfl⟩, h2.mono fun b q => (hF b).2 (.inr q), fun b q => ?_⟩
  · cases ha : Tb.apply t r with
    | none => exact hok
    | some t' => exact Tb.apply_ok hok ha
  · rcases q with q | q | q
    · exact (h3 b q).imp (fun z => (hF b).2 (.inl z)) id
    · exact .inl ((hF b).2 (.inr (.inl q)))
    · exact (h4 b q).imp (fun z => (hF b).2 (.inr (.inr z))) id
theorem stripeP (h : PDt w F p t) (id : Int) (hid : I64 id) :
    Calls Tryd.prog 7 #[.pointer (some ⟨p, 0, none⟩), .int .i64 id] w fun e w' => ∃ V, e = .returned (.tuple #[V, .bool (Tb.stripe t id).isSome]) ∧ StpIs w' V ((Tb.stripe t id).getD noStp) ∧ Below w.heap.size w w' := by
  obtain ⟨hok, E, M, A, C, h, hF⟩ := h
  exact (stripeC h hok id hid).mono fun e w' ⟨V, h1, h2⟩ => ⟨V, h1, h2.1.here, h2.2⟩
theorem stripesP (h : PDt w F p t) (hf : Few t) : Calls Tryd.prog 21 #[.pointer (some ⟨p, 0, none⟩)] w fun e w' => ∃ V, e = .returned V ∧ Stps w' V (Tb.rowS t) ∧ Below w.heap.size w w' := by
  obtain ⟨hok, E, M, A, C, h, hF⟩ := h
  exact (stripesC h hok hf).mono fun e w' ⟨V, K, h1, h2, h3, h4, h5⟩ => ⟨V, h1, Cells.mono h3.here (fun _ _ q => q) (fun _ _ q => q.here.1), h2⟩
theorem statesP (h : PDt w F p t) : Calls Tryd.prog 9 #[.pointer (some ⟨p, 0, none⟩)] w fun e w' => ∃ V, e = .returned V ∧ Ints w' V t.states ∧ Below w.heap.size w w' := by
  obtain ⟨hok, E, M, A, C, h, hF⟩ := h
  exact (statesC h (by have := hok.drv.2; omega)).mono fun e w' ⟨V, base, h1, h2, h3, h4⟩ => ⟨V, h1, h2.slice, h4⟩
end
end Go.Proofs.YtegbgnjmkohcfaaDoor.Pl
