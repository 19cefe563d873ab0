/- Tables that a call has made for itself, and records that are applied one behind the other. -/
import Derived.Test.YtlgdchflegflkaaTbDrv
namespace Tb
open Go Go.Mem Kl RecM
theorem put_length {α : Type} {key : α → List UInt8} {x : α} : ∀ L : List α, (put key x L).length ≤ L.length + 1
  | [] => by simp [put]
  | a :: L => by
    unfold put
    split
    · have := put_length (key := key) (x := x) L
      simp only [List.length_cons]
      omega
    · split <;> simp
def stepT (t : TabD) (r : RecD) : TabD := (apply t r).getD t
theorem step_ok {t : TabD} (h : t.Ok) (r : RecD) : (stepT t r).Ok := by
  unfold stepT
  cases e : apply t r with
  | none => exact h
  | some t' => exact apply_ok h e
theorem apply_kn {t t' : TabD} {r : RecD} (e : apply t r = some t') : t'.k = t.k ∧ t'.n = t.n := by
  unfold apply at e
  split at e
  · split at e
    · cases e; exact ⟨rfl, rfl⟩
    · cases e
  · split at e
    · split at e
      · cases e; exact ⟨rfl, rfl⟩
      · cases e
    · split at e
      · split at e
        · split at e
          · obtain ⟨L, hL, rfl⟩ := Option.map_eq_some_iff.1 e
            exact ⟨rfl, rfl⟩
          · cases e
        · cases e
      · split at e
        · split at e
          · cases e; exact ⟨rfl, rfl⟩
          · cases e
        · split at e
          · split at e
            · cases e; exact ⟨rfl, rfl⟩
            · cases e
          · cases e
theorem step_kn (t : TabD) (r : RecD) : (stepT t r).k = t.k ∧ (stepT t r).n = t.n := by
  unfold stepT
  cases e : apply t r with
  | none => exact ⟨rfl, rfl⟩
  | some t' => exact apply_kn e
theorem moveO_length {s : StpD} : ∀ {L L' : List ObjD}, moveO s L = some L' → L'.length = L.length
  | [], _, h => by cases h
  | o :: L, L', h => by
    unfold moveO at h
    split at h
    · cases h; rfl
    · obtain ⟨m, hm, rfl⟩ := Option.map_eq_some_iff.1 h
      simp [moveO_length hm]
theorem apply_length {t t' : TabD} {r : RecD} (e : apply t r = some t') : t'.objs.length ≤ t.objs.length + 1 ∨ t'.objs.length ≤ r.objects.length := by
  unfold apply at e
  split at e
  · split at e
    · cases e; exact .inl (put_length _)
    · cases e
  · split at e
    · split at e
      · cases e; exact .inl (Nat.le_succ_of_le (List.length_filter_le _ _))
      · cases e
    · split at e
      · split at e
        · split at e
          · obtain ⟨L, hL, rfl⟩ := Option.map_eq_some_iff.1 e
            exact .inl (Nat.le_succ_of_le (Nat.le_of_eq (moveO_length hL)))
          · cases e
        · cases e
      · split at e
        · split at e
          · cases e; exact .inl (Nat.le_succ _)
          · cases e
        · split at e
          · split at e
            · cases e; exact .inr (Nat.le_refl _)
            · cases e
          · cases e
theorem small_parts {r : RecD} (h : small r = true) : RecM.base r ≤ 400 ∧ RecM.items r < 4000 := by
  unfold small at h
  rw [Bool.and_eq_true] at h
  exact ⟨of_decide_eq_true h.1, of_decide_eq_true h.2⟩
theorem step_length {t : TabD} {r : RecD} (h : small r = true) {n : Nat} (ht : t.objs.length ≤ n) (hn : 400 ≤ n) : (stepT t r).objs.length ≤ n + 1 := by
  have hb := (small_parts h).1
  have hr : r.objects.length ≤ 400 := by unfold RecM.base at hb; omega
  unfold stepT
  cases e : apply t r with
  | none => show t.objs.length ≤ _; omega
  | some t' => rcases apply_length e with q | q <;> (show t'.objs.length ≤ _; omega)
/-- what there is behind the first i records -/
def runT (k n : Int) (L : List RecD) (i : Nat) : TabD := (L.take i).foldl stepT (empty k n)
theorem run_zero (k n : Int) (L : List RecD) : runT k n L 0 = empty k n := rfl
theorem run_succ {k n : Int} {L : List RecD} {i : Nat} (h : i < L.length) : runT k n L (i + 1) = stepT (runT k n L i) L[i] := by
  unfold runT
  rw [List.take_succ_eq_append_getElem h, List.foldl_append]
  rfl
theorem run_ok {k : Int} (n : Int) (hk : 1 ≤ k) {L : List RecD} : ∀ {i : Nat}, i ≤ L.length → (runT k n L i).Ok ∧ (runT k n L i).k = k ∧ (runT k n L i).n = n
  | 0, _ => ⟨empty_ok n hk, rfl, rfl⟩
  | i + 1, h => by
    obtain ⟨h1, h2, h3⟩ := run_ok n hk (L := L) (i := i) (by omega)
    rw [run_succ (show i < L.length by omega)]
    exact ⟨step_ok h1 _, (step_kn _ _).1.trans h2, (step_kn _ _).2.trans h3⟩
theorem run_len {k n : Int} {L : List RecD} (hs : ∀ r ∈ L, small r = true) : ∀ {i : Nat}, i ≤ L.length → (runT k n L i).objs.length ≤ 400 + i
  | 0, _ => by rw [run_zero]; simp [empty]
  | i + 1, h => by
    rw [run_succ (show i < L.length by omega)]
    exact step_length (hs _ (List.getElem_mem _)) (run_len hs (by omega)) (show 400 ≤ 400 + i by omega)
end Tb
namespace Go.Proofs.Ytlgdchflegflkaa.Tbl
set_option linter.unusedVariables false
open Go.ChangeShapes Go.WideShapes Go.ChangeAt Go.RowKit
open Go.Mem RecM
theorem fit_small {r : RecD} (h : small r = true) : Fit r := by
  have := Tb.small_parts h
  exact ⟨by omega, by omega⟩
theorem few_run {L : List RecD} {k n : Int} (hs : smalls L = true) {i : Nat} (hi : i ≤ L.length) : Few (Tb.runT k n L i) := by
  unfold smalls at hs
  rw [Bool.and_eq_true] at hs
  have h2 : L.length ≤ 40 := of_decide_eq_true hs.2
  have := Tb.run_len (k := k) (n := n) (List.all_eq_true.1 hs.1) hi
  unfold Few
  omega
theorem small_at {L : List RecD} (hs : smalls L = true) {i : Nat} (hi : i < L.length) : small L[i] = true := by
  unfold smalls at hs
  rw [Bool.and_eq_true] at hs
  exact List.all_eq_true.1 hs.1 _ (List.getElem_mem hi)
/-- a table that a call has made for itself -/
def MineT (PD : Thing) (W w : World) (p : Nat) (t : Tb.TabD) : Prop := ∃ F, PD w F p t ∧ (∀ b, F b → W.heap.size ≤ b) ∧ Below W.heap.size W w
section
variable {PD : Thing} {W w w' : World} {p : Nat} {t t' : Tb.TabD}
theorem MineT.bel (h : MineT PD W w p t) : Below W.heap.size W w := by
  obtain ⟨F, _, _, h⟩ := h
  exact h
theorem MineT.below (I : TbI PD) (h : MineT PD W w p t) (hb : Below w.heap.size w w') : MineT PD W w' p t := by
  obtain ⟨F, h1, h2, h3⟩ := h
  exact ⟨F, I.turned h1 (Turned.of_below (fun _ => False) hb) (fun _ q => q.elim), h2, h3.trans (hb.mono h3.size)⟩
theorem MineT.new (I : TbI PD) (w : World) (h : Below W.heap.size W w) (k m : Int) (hk : (k = 3 ∧ m = 2) ∨ (k = 1 ∧ m = 0)) : Calls Try.prog 11 #[.int .i64 k, .int .i64 m] w fun e w' => ∃ p, e = .returned (.pointer (some ⟨p, 0, none⟩)) ∧ MineT PD W w' p (Tb.empty k (k + m)) :=
  (I.new w k m hk).mono fun e w' hh => by
    obtain ⟨F, p, h1, h2, h3, h4⟩ := hh
    exact ⟨p, h1, F, h2, fun b hb => Nat.le_trans h.size (h3 b hb), h.trans (h4.mono h.size)⟩
theorem MineT.apply (I : TbI PD) (h : MineT PD W w p t) (hf : Few t) (r : RecD) (V : Value) (hr : ∀ F : Nat → Prop, (∀ b, F b → W.heap.size ≤ b ∧ b < w.heap.size) → Sure F w (fun w' => RecV w' V r)) (hfit : Fit r) :
    Calls Try.prog 12 #[.pointer (some ⟨p, 0, none⟩), V] w fun e w' => e = .returned (.int .i64 (if (Tb.apply t r).isSome = true then 0 else 2)) ∧ MineT PD W w' p (Tb.stepT t r) := by
  obtain ⟨F, h1, h2, h3⟩ := h
  have hF : ∀ b, F b → W.heap.size ≤ b ∧ b < w.heap.size := fun b q => ⟨h2 b q, I.lt h1 b q⟩
  exact (I.apply h1 hf r V (hr F hF) hfit).mono fun e w' hh => by
    obtain ⟨e1, F', k1, k2, k3⟩ := hh
    refine ⟨e1, F', k1, fun b q => ?_, h3.trans (k2.below h2 h3.size)⟩
    rcases k3 b q with z | z
    · exact h2 b z
    · have := h3.size; omega
/-- a record that was there when the call began -/
theorem sure_old {V : Value} {r : RecD} (h3 : Below W.heap.size W w) (hr : RecV W V r) : ∀ F : Nat → Prop, (∀ b, F b → W.heap.size ≤ b ∧ b < w.heap.size) → Sure F w (fun w' => RecV w' V r) :=
  fun F hF w' ht => hr.below (h3.trans (ht.below (fun b q => (hF b q).1) h3.size))
/-- .. when what was told lies behind the table's blocks -/
def Told (PD : Thing) (W w : World) (p : Nat) (t : Tb.TabD) (P : World → Prop) : Prop := ∃ F, PD w F p t ∧ (∀ b, F b → W.heap.size ≤ b) ∧ Below W.heap.size W w ∧ Sure F w P
theorem Told.mine {P : World → Prop} (h : Told PD W w p t P) : MineT PD W w p t := by
  obtain ⟨F, h1, h2, h3, _⟩ := h
  exact ⟨F, h1, h2, h3⟩
theorem Told.here {P : World → Prop} (h : Told PD W w p t P) : P w := by
  obtain ⟨F, h1, h2, h3, h4⟩ := h
  exact h4.here
theorem Told.below (I : TbI PD) {P : World → Prop} (h : Told PD W w p t P) (hb : Below w.heap.size w w') : Told PD W w' p t P := by
  obtain ⟨F, h1, h2, h3, h4⟩ := h
  exact ⟨F, I.turned h1 (Turned.of_below (fun _ => False) hb) (fun _ q => q.elim), h2, h3.trans (hb.mono h3.size), h4.later (Turned.of_below F hb)⟩
theorem MineT.told (I : TbI PD) {P : World → Prop} (h : MineT PD W w p t) (ho : Own w w' P) : Told PD W w' p t P := by
  obtain ⟨F, h1, h2, h3⟩ := h
  exact ⟨F, I.turned h1 (Turned.of_below (fun _ => False) ho.2) (fun _ q => q.elim), h2, h3.trans (ho.2.mono h3.size), ho.1.less fun b q => I.lt h1 b q⟩
theorem Told.apply (I : TbI PD) {P : World → Prop} (h : Told PD W w p t P) (hf : Few t) (r : RecD) (V : Value) (hr : ∀ F : Nat → Prop, (∀ b, F b → W.heap.size ≤ b ∧ b < w.heap.size) → Sure F w (fun w' => RecV w' V r)) (hfit : Fit r) :
    Calls Try.prog 12 #[.pointer (some ⟨p, 0, none⟩), V] w fun e w' => e = .returned (.int .i64 (if (Tb.apply t r).isSome = true then 0 else 2)) ∧ MineT PD W w' p (Tb.stepT t r) ∧ P w' := by
  obtain ⟨F, h1, h2, h3, h4⟩ := h
  have hF : ∀ b, F b → W.heap.size ≤ b ∧ b < w.heap.size := fun b q => ⟨h2 b q, I.lt h1 b q⟩
  exact (I.apply h1 hf r V (hr F hF) hfit).mono fun e w' hh => by
    obtain ⟨e1, F', k1, k2, k3⟩ := hh
    refine ⟨e1, ⟨F', k1, fun b q => ?_, h3.trans (k2.below h2 h3.size)⟩, h4 _ k2⟩
    rcases k3 b q with z | z
    · exact h2 b z
    · have := h3.size; omega
/-- .. and what is handed in lies in memory that is newer than what was told -/
theorem Told.applyAt (I : TbI PD) {P : World → Prop} {w1 : World} (h : Told PD W w p t P) (hb : Below w.heap.size w w1) (hf : Few t) (r : RecD) (V : Value) (hr : ∀ F : Nat → Prop, (∀ b, F b → W.heap.size ≤ b ∧ b < w.heap.size) → Sure F w1 (fun w' => RecV w' V r)) (hfit : Fit r) :
    Calls Try.prog 12 #[.pointer (some ⟨p, 0, none⟩), V] w1 fun e w' => e = .returned (.int .i64 (if (Tb.apply t r).isSome = true then 0 else 2)) ∧ MineT PD W w' p (Tb.stepT t r) ∧ P w' := by
  obtain ⟨F, h1, h2, h3, h4⟩ := h
  have hF : ∀ b, F b → W.heap.size ≤ b ∧ b < w.heap.size := fun b q => ⟨h2 b q, I.lt h1 b q⟩
  have hp1 := I.turned h1 (Turned.of_below (fun _ => False) hb) (fun _ q => q.elim)
  have h31 := h3.trans (hb.mono h3.size)
  have h41 := h4.later (Turned.of_below F hb)
  exact (I.apply hp1 hf r V (hr F hF) hfit).mono fun e w' hh => by
    obtain ⟨e1, F', k1, k2, k3⟩ := hh
    refine ⟨e1, ⟨F', k1, fun b q => ?_, h31.trans (k2.below h2 h31.size)⟩, h41 _ k2⟩
    rcases k3 b q with z | z
    · exact h2 b z
    · have := h31.size; omega
theorem MineT.stripesC (I : TbI PD) (h : MineT PD W w p t) (hf : Few t) : Calls Try.prog 22 #[.pointer (some ⟨p, 0, none⟩)] w fun e w' => ∃ V, e = .returned V ∧ Told PD W w' p t (fun w'' => Stps w'' V (Tb.rowS t)) ∧ Below w.heap.size w w' := by
  have h0 := h
  obtain ⟨F, h1, h2, h3⟩ := h
  exact (I.stripes h1 hf).mono fun e w' hh => by
    obtain ⟨V, e1, ho⟩ := hh
    exact ⟨V, e1, h0.told I ho, ho.2⟩
theorem MineT.keysC (I : TbI PD) (h : MineT PD W w p t) (hf : Few t) : Calls Try.prog 24 #[.pointer (some ⟨p, 0, none⟩)] w fun e w' => ∃ V, e = .returned V ∧ Strs w' V (t.objs.map ObjD.key) ∧ Below w.heap.size w w' := by
  obtain ⟨F, h1, h2, h3⟩ := h
  exact (I.keys h1 hf).mono fun e w' hh => by
    obtain ⟨V, e1, ho⟩ := hh
    exact ⟨V, e1, ho.1.here, ho.2⟩
theorem MineT.stripeC (I : TbI PD) (h : MineT PD W w p t) (hf : Few t) (id : Int) (hid : I64 id) : Calls Try.prog 16 #[.pointer (some ⟨p, 0, none⟩), .int .i64 id] w fun e w' => ∃ V, e = .returned (.tuple #[V, .bool (Tb.stripe t id).isSome]) ∧ StpIs w' V ((Tb.stripe t id).getD noStp) ∧ Below w.heap.size w w' := by
  obtain ⟨F, h1, h2, h3⟩ := h
  exact (I.stripe h1 hf id hid).mono fun e w' hh => by
    obtain ⟨V, e1, ho⟩ := hh
    exact ⟨V, e1, ho.1.here, ho.2⟩
theorem MineT.objectC (I : TbI PD) (h : MineT PD W w p t) (hf : Few t) (s : ByteArray) : Calls Try.prog 18 #[.pointer (some ⟨p, 0, none⟩), .string s] w fun e w' => ∃ V o, e = .returned (.tuple #[V, .bool (Kl.find Tb.keyOf s.toList t.objs).isSome]) ∧ ObjIs w' V o ∧ (∀ x, Kl.find Tb.keyOf s.toList t.objs = some x → o = x) ∧ Below w.heap.size w w' := by
  obtain ⟨F, h1, h2, h3⟩ := h
  exact (I.object h1 hf s).mono fun e w' hh => by
    obtain ⟨V, o, e1, ho, hx⟩ := hh
    exact ⟨V, o, e1, ho.1.here, hx, ho.2⟩
theorem MineT.statesC (I : TbI PD) (h : MineT PD W w p t) : Calls Try.prog 23 #[.pointer (some ⟨p, 0, none⟩)] w fun e w' => ∃ V, e = .returned V ∧ Ints w' V t.states ∧ Below w.heap.size w w' := by
  obtain ⟨F, h1, h2, h3⟩ := h
  exact (I.states h1).mono fun e w' hh => by
    obtain ⟨V, e1, ho⟩ := hh
    exact ⟨V, e1, ho.1.here, ho.2⟩
theorem MineT.epochC (I : TbI PD) (h : MineT PD W w p t) : Calls Try.prog 25 #[.pointer (some ⟨p, 0, none⟩)] w fun e w' => e = .returned (.int .i64 t.epoch) ∧ Below w.heap.size w w' := by
  obtain ⟨F, h1, h2, h3⟩ := h
  exact I.epoch h1
theorem MineT.lastC (I : TbI PD) (h : MineT PD W w p t) : Calls Try.prog 26 #[.pointer (some ⟨p, 0, none⟩)] w fun e w' => e = .returned (.int .i64 t.last) ∧ Below w.heap.size w w' := by
  obtain ⟨F, h1, h2, h3⟩ := h
  exact I.last h1
theorem MineT.allC (I : TbI PD) (h : MineT PD W w p t) (hf : Few t) : Calls Try.prog 15 #[.pointer (some ⟨p, 0, none⟩)] w fun e w' => ∃ V, e = .returned V ∧ RecV w' V (Tb.allRec t) ∧ Below w.heap.size w w' := by
  obtain ⟨F, h1, h2, h3⟩ := h
  exact (I.all h1 hf).mono fun e w' hh => by
    obtain ⟨V, e1, ho⟩ := hh
    exact ⟨V, e1, ho.1.here, ho.2⟩
theorem MineT.few (h : MineT PD W w p t) (I : TbI PD) : t.Ok := by
  obtain ⟨F, h1, _⟩ := h
  exact I.ok h1
end
end Go.Proofs.Ytlgdchflegflkaa.Tbl
