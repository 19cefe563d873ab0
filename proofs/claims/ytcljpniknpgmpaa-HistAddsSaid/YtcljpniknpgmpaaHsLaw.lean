/- The laws of layer 21 over the contracts of the program's calls: the law's own example; a history that is none. -/
import Derived.Test.YtcljpniknpgmpaaHsI
import Derived.Test.YtcljpniknpgmpaaSame
import Derived.Deep.LoopGhost
import Derived.Deep.Cut
namespace Go.Proofs.Ytcljpniknpgmpaa.Hst
set_option linter.unusedVariables false
open Go.ChangeShapes Go.WideShapes Go.ChangeAt Go.RowKit
open Go.Mem Hs
/-- the law's own history, all of it in new memory -/
def Mine (PD : Thing) (W w : World) (p : Nat) (s : St) : Prop := ∃ F, PD w F p s ∧ (∀ b, F b → W.heap.size ≤ b) ∧ Below W.heap.size W w
section
variable {PD : Thing} {W w w' : World} {p : Nat} {s : St}
theorem Mine.bel (h : Mine PD W w p s) : Below W.heap.size W w := by
  obtain ⟨F, _, _, q⟩ := h
  exact q
theorem Mine.below (I : HsI PD) (h : Mine PD W w p s) (hb : Below w.heap.size w w') : Mine PD W w' p s := by
  obtain ⟨F, h1, h2, h3⟩ := h
  exact ⟨F, I.turned h1 (Turned.of_below (fun _ => False) hb) (fun _ q => q.elim), h2, h3.trans (hb.mono h3.size)⟩
theorem newM (I : HsI PD) (hb : Below W.heap.size W w) : Calls Try.prog 8 #[] w fun e w' => ∃ p, e = .returned (.pointer (some ⟨p, 0, none⟩)) ∧ Mine PD W w' p Hs.zero :=
  (I.new w).mono fun e w' ⟨F, p, e1, h1, h2, h3⟩ => ⟨p, e1, F, h1, fun b q => Nat.le_trans hb.size (h2 b q), hb.trans (h3.mono hb.size)⟩
theorem addM (I : HsI PD) (h : Mine PD W w p s) (hf : Few s) {x : StepD} {a : AnsD} {X A : Value} (hX : StepV W X x) (hA : AnsV W A a) (hfit : Fit x a) :
    Calls Try.prog 9 #[.pointer (some ⟨p, 0, none⟩), X, A] w fun e w' => e = .returned (.tuple #[]) ∧ Mine PD W w' p (s.add x a) := by
  obtain ⟨F, h1, h2, h3⟩ := h
  have key : ∀ w', Turned F w w' → Below W.heap.size W w' := fun w' t => h3.trans (t.below h2 h3.size)
  refine (I.add h1 hf x a X A (fun w' t => hX.below (key w' t)) (fun w' t => hA.below (key w' t)) hfit).mono fun e w' ⟨e1, F', k1, k2, k3⟩ => ⟨e1, F', k1, fun b q => ?_, key w' k2⟩
  rcases k3 b q with z | z
  · exact h2 b z
  · exact Nat.le_trans h3.size z
theorem callsM (I : HsI PD) (h : Mine PD W w p s) (hf : Few s) : Calls Try.prog 11 #[.pointer (some ⟨p, 0, none⟩)] w fun e w' => ∃ V, e = .returned V ∧ Cells 10 CallW w' V s.calls ∧ Below w.heap.size w w' := by
  obtain ⟨F, h1, h2, h3⟩ := h
  exact (I.calls h1 hf).mono fun e w' ⟨V, e1, k1, k2⟩ => ⟨V, e1, k1.here, k2⟩
end
/-- the cells of call i -/
theorem calls_at {w : World} {A : Option Addr} {n C : Nat} {L : List CallD} (h : Cells 10 CallR w (.slice A n C) L) {i : Nat} (hi : i < L.length) :
    ∃ b o A3 C3 A8 C8 A9 C9, A = some ⟨b, o, none⟩ ∧ w.cell? ⟨b, o + i * 10, none⟩ = some (.int .i64 L[i].task) ∧ w.cell? ⟨b, o + i * 10 + 1, none⟩ = some (.int .i64 L[i].op) ∧ w.cell? ⟨b, o + i * 10 + 2, none⟩ = some (.string L[i].key) ∧ w.cell? ⟨b, o + i * 10 + 3, none⟩ = some (.slice A3 L[i].data.length C3) ∧
      w.cell? ⟨b, o + i * 10 + 4, none⟩ = some (.int .i64 L[i].fr) ∧ w.cell? ⟨b, o + i * 10 + 5, none⟩ = some (.int .i64 L[i].to) ∧ w.cell? ⟨b, o + i * 10 + 6, none⟩ = some (.int .i64 L[i].mo) ∧ w.cell? ⟨b, o + i * 10 + 7, none⟩ = some (.int .i64 L[i].e) ∧
      w.cell? ⟨b, o + i * 10 + 8, none⟩ = some (.slice A8 L[i].out.length C8) ∧ w.cell? ⟨b, o + i * 10 + 9, none⟩ = some (.slice A9 L[i].keys.length C9) ∧ Bytes w (.slice A3 L[i].data.length C3) L[i].data ∧ Bytes w (.slice A8 L[i].out.length C8) L[i].out ∧ Strs w (.slice A9 L[i].keys.length C9) L[i].keys ∧ CallP L[i] := by
  obtain ⟨A', n', C', h1, _, _, _, _, h6⟩ := h
  cases h1
  obtain ⟨b, o, f, e, hc, q⟩ := h6 i hi
  obtain ⟨A3, C3, e3, -⟩ := q.r3.shape
  obtain ⟨A8, C8, e8, -⟩ := q.r8.shape
  obtain ⟨A9, C9, e9, -⟩ := q.r9.shape
  have r3 := q.r3
  have r8 := q.r8
  have r9 := q.r9
  rw [e3] at r3
  rw [e8] at r8
  rw [e9] at r9
  exact ⟨b, o, A3, C3, A8, C8, A9, C9, e, by rw [← q.r0]; exact hc 0 (by omega), by rw [← q.r1]; exact hc 1 (by omega), by rw [← q.r2]; exact hc 2 (by omega), by rw [← e3]; exact hc 3 (by omega), by rw [← q.r4]; exact hc 4 (by omega), by rw [← q.r5]; exact hc 5 (by omega), by rw [← q.r6]; exact hc 6 (by omega), by rw [← q.r7]; exact hc 7 (by omega), by rw [← e8]; exact hc 8 (by omega), by rw [← e9]; exact hc 9 (by omega), r3, r8, r9, q.ok⟩
theorem calls_w {w : World} {V : Value} {L : List CallD} (h : Cells 10 CallW w V L) : Cells 10 CallR w V L := Cells.mono h (fun _ _ q => q) (fun _ _ q => q.1)
theorem calls_shape {w : World} {V : Value} {L : List CallD} (h : Cells 10 CallR w V L) : ∃ A C, V = .slice A L.length C ∧ L.length ≤ C ∧ C ≤ 9223372036854775807 ∧ (A = none → C = 0) := Cells.shape h
def xA : StepD := ⟨1, 2, ⟨#[97]⟩, [], 0⟩
def aA : AnsD := ⟨0, 2, false, 0, [], []⟩
def xB : StepD := ⟨2, 2, ⟨#[]⟩, [], 0⟩
def aB : AnsD := ⟨7, 2, true, 1, [], []⟩
theorem stepV_nil (w : World) (x : StepD) (hd : x.data = []) (h1 : I64 x.kind) (h2 : I64 x.a) : StepV w (.agg #[.int .i64 x.kind, .int .i64 x.a, .string x.key, .slice none 0 0, .int .u64 x.keep]) x :=
  ⟨none, 0, by unfold stepVal; rw [hd]; rfl, by rw [hd]; exact Bytes.nil _, h1, h2⟩
theorem ansV_nil (w : World) (a : AnsD) (hd : a.data = []) (hk : a.keys = []) (h1 : I64 a.e) (h2 : I64 a.task) (h3 : I64 a.mark) : AnsV w (.agg #[.int .i64 a.e, .int .i64 a.task, .bool a.done, .int .i64 a.mark, .slice none 0 0, .slice none 0 0]) a :=
  ⟨none, 0, none, 0, by unfold ansVal; rw [hd, hk]; rfl, by rw [hd]; exact Bytes.nil _, by rw [hk]; exact Strs.nil _, h1, h2, h3⟩
theorem small {z : Int} (h : 0 ≤ z ∧ z ≤ 100) : I64 z := ⟨by omega, by omega⟩
theorem ans_calls : ((Hs.zero.add xA aA).add xB aB).calls = [⟨2, 2, ⟨#[97]⟩, [], 1, 2, 2, 7, [], []⟩] := by rfl
set_option maxRecDepth 100000 in
set_option maxHeartbeats 2000000 in
theorem answersC {PD : Thing} (I : HsI PD) (w : World) : Calls Try.prog 7 #[] w fun e w' => e = .returned (.bool true) ∧ Below w.heap.size w w' := by
  have HXA := Lib.hid (stepV_nil w xA rfl (small (by decide)) (small (by decide)))
  have HAA := Lib.hid (ansV_nil w aA rfl rfl (small (by decide)) (small (by decide)) (small (by decide)))
  have HXB := Lib.hid (stepV_nil w xB rfl (small (by decide)) (small (by decide)))
  have HAB := Lib.hid (ansV_nil w aB rfl rfl (small (by decide)) (small (by decide)) (small (by decide)))
  have F0 : Few Hs.zero := ⟨by decide, by decide⟩
  have F1 : Few (Hs.zero.add xA aA) := ⟨by decide, by decide⟩
  have F2 : Few ((Hs.zero.add xA aA).add xB aB) := ⟨by decide, by decide⟩
  go_enter Try.func7, Try.ntmps7
  go_wp2_with fail
  refine (newM I (Below.refl _ _)).mono ?_
  rintro _ w1 ⟨p, rfl, h1⟩
  have H1 := Lib.hid h1
  clear h1
  go_wp2_with fail
  refine (addM I H1.out F0 HXA.out HAA.out ⟨by decide, by decide, by decide⟩).mono ?_
  rintro _ w2 ⟨rfl, h2⟩
  have H2 := Lib.hid h2
  clear h2
  go_wp2_with fail
  refine (addM I H2.out F1 HXB.out HAB.out ⟨by decide, by decide, by decide⟩).mono ?_
  rintro _ w3 ⟨rfl, h3⟩
  have H3 := Lib.hid h3
  clear h3
  go_wp2_with fail
  refine (callsM I H3.out F2).mono ?_
  rintro _ w4 ⟨V, rfl, h4, hb4⟩
  have h4' := calls_w h4
  rw [ans_calls] at h4'
  obtain ⟨A, C, rfl, -⟩ := calls_shape h4'
  obtain ⟨b, o, A3, C3, A8, C8, A9, C9, rfl, -, -, -, -, c4, c5, c6, c7, -⟩ := calls_at h4' (i := 0) (by decide)
  have HB := Lib.hid (H3.out.bel.trans (hb4.mono H3.out.bel.size))
  simp only [List.getElem_cons_zero, Nat.zero_mul, Nat.add_zero] at c4 c5 c6 c7
  clear h4 h4' hb4 F0 F1 F2
  go_wp2
  go_ret
  exact ⟨rfl, HB.out⟩
end Go.Proofs.Ytcljpniknpgmpaa.Hst
