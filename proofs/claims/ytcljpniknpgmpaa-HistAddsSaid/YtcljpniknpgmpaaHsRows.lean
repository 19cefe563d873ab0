/- The law's own rows of calls and of bools: what each of its steps makes of them. -/
import Derived.Test.YtcljpniknpgmpaaHsPair
namespace Go.Proofs.Ytcljpniknpgmpaa.Hst
set_option linter.unusedVariables false
open Go.ChangeShapes Go.WideShapes Go.ChangeAt Go.RowKit
open Go.Mem Hs
section
variable {PD : Thing} {W w w' : World} {p : Nat} {G : Nat → Prop} {VW VE : Value} {s : St} {cs : List CallD} {m : Nat} {en : Nat → Bool}
theorem LawAt.addL (I : HsI PD) (h : LawAt PD W w p G VW VE s cs m en) (hf : Few s) {x : StepD} {a : AnsD} {X A : Value} (hX : StepV W X x) (hA : AnsV W A a) (hfit : Fit x a) :
    Calls Try.prog 9 #[.pointer (some ⟨p, 0, none⟩), X, A] w fun e w' => e = .returned (.tuple #[]) ∧ LawAt PD W w' p G VW VE (s.add x a) cs m en ∧ ∀ b, G b → w'.heap[b]? = w.heap[b]? := by
  obtain ⟨⟨F, f1, f2, f3, f4, f5⟩, h1, h2, h3, h4, h5⟩ := h
  have key : ∀ w', Turned F w w' → Below W.heap.size W w' := fun w' t => h5.trans (t.below f2 h5.size)
  have hno : ∀ b, F b → ¬ Old W b := fun b q z => by have := f2 b q; have z' : b < W.heap.size := z; omega
  refine (I.add f1 hf x a X A (fun w' t => hX.below (key w' t)) (fun w' t => hA.below (key w' t)) hfit).mono fun e w' ⟨e1, F', k1, k2, k3⟩ => ⟨e1, ⟨⟨F', k1, fun b q => ?_, fun b q z => ?_, fun b q z => ?_, fun b q z => ?_⟩, h1.turned k2 (fun b q => ⟨hno b q, fun z => f3 b z q⟩), h2.turned k2 (fun b q => ⟨hno b q, fun z => f4 b z q⟩), h3, fun b q => ⟨Nat.lt_of_lt_of_le (h4 b q).1 k2.size, (h4 b q).2⟩, key w' k2⟩, fun b q => k2.block b (h4 b q).1 (f5 b q)⟩
  · rcases k3 b q with z | z
    · exact f2 b z
    · exact Nat.le_trans h5.size z
  · rcases k3 b z with z | z
    · exact f3 b q z
    · have := h1.own_lt b q; omega
  · rcases k3 b z with z | z
    · exact f4 b q z
    · have := h2.own_lt b q; omega
  · rcases k3 b z with z | z
    · exact f5 b q z
    · have := (h4 b q).1; omega
theorem map_set {m k : Nat} (en : Nat → Bool) (v : Bool) : ((List.range m).map en).set k v = (List.range m).map (fun j => if j = k then v else en j) := by
  refine List.ext_getElem (by simp) fun i h1 h2 => ?_
  rw [List.getElem_map, List.getElem_range]
  by_cases e : i = k
  · subst e; rw [List.getElem_set_self, if_pos rfl]
  · rw [List.getElem_set_ne (fun q => e q.symm), if_neg e, List.getElem_map, List.getElem_range]
/-- what the row of bools holds -/
theorem LawAt.boolAt (h : LawAt PD W w p G VW VE s cs m en) {k : Nat} (hk : k < m) : ∃ g C, VE = .slice (some ⟨g, 0, none⟩) m C ∧ m ≤ C ∧ w.cell? ⟨g, k, none⟩ = some (.bool (en k)) ∧ w.frozen? ⟨g, k, none⟩ = false := by
  obtain ⟨g, C, f, e, h1, -, hc, hf, hR, -⟩ := h.ends.el (i := k) (by simpa using hk)
  have hb := hR.here
  rw [List.getElem_map, List.getElem_range] at hb
  have c0 := hc 0 (by omega)
  rw [show f 0 = .bool (en k) from hb] at c0
  rw [List.length_map, List.length_range] at e h1
  exact ⟨g, C, e, h1, by simpa using c0, hf k⟩
theorem LawAt.shapeE (h : LawAt PD W w p G VW VE s cs m en) : ∃ A C, VE = .slice A m C ∧ m ≤ C ∧ C ≤ 9223372036854775807 := by
  obtain ⟨A, C, e, h1, h2, -⟩ := h.ends.len
  rw [List.length_map, List.length_range] at e h1
  exact ⟨A, C, e, h1, h2⟩
theorem LawAt.shapeW (h : LawAt PD W w p G VW VE s cs m en) : ∃ A C, VW = .slice A cs.length C ∧ cs.length ≤ C ∧ C ≤ 9223372036854775807 := by
  obtain ⟨A, C, e, h1, h2, -⟩ := h.want.len
  exact ⟨A, C, e, h1, h2⟩
theorem LawAt.endL (I : HsI PD) {g n C : Nat} (h : LawAt PD W w p G VW (.slice (some ⟨g, 0, none⟩) n C) s cs m en) {k : Nat} (hk : k < m) :
    LawAt PD W (w.setCell ⟨g, k, none⟩ (.bool true)) p G VW (.slice (some ⟨g, 0, none⟩) n C) s cs m (fun j => if j = k then true else en j) ∧ ∀ b, G b → (w.setCell ⟨g, k, none⟩ (.bool true)).heap[b]? = w.heap[b]? := by
  have ht : Turned (fun b => b = g) w (w.setCell ⟨g, k, none⟩ (.bool true)) := Turned.set _ rfl
  obtain ⟨k1, k2, k3⟩ := h.turn I ht (fun b q => .inr (by rw [q]; rfl))
  have hgo := h.old (b := g)
  have hgW : ¬ Old W g := fun z => by have z' : g < W.heap.size := z; have := hgo.2 rfl; omega
  have hw := h.ne
  have hp := h.ends.put (i := k) (j := 0) (by simpa using hk) (by omega) (fun _ q => q) hgW (.bool true) true (fun f hf w' t => rfl)
  rw [map_set, Nat.mul_one, Nat.add_zero] at hp
  exact ⟨⟨k1, h.want.turned ht (fun b q => by subst q; exact ⟨hgW, fun z => hw b z rfl⟩), hp, h.ne, fun b q => ⟨(k2 b q).2, (h.apart b q).2⟩, k3⟩, fun b q => (k2 b q).1⟩
theorem LawAt.callL (I : HsI PD) {g n C : Nat} (h : LawAt PD W w p G (.slice (some ⟨g, 0, none⟩) n C) VE s cs m en) {k j : Nat} (hk : k < cs.length) (hj : j < 10) (u : Value) (y : CallD) (hR : ∀ f, On (Old W) w (fun w' => CallR w' f cs[k]) → On (Old W) w (fun w' => CallR w' (fun z => if z = j then u else f z) y)) :
    LawAt PD W (w.setCell ⟨g, k * 10 + j, none⟩ u) p G (.slice (some ⟨g, 0, none⟩) n C) VE s (cs.set k y) m en ∧ ∀ b, G b → (w.setCell ⟨g, k * 10 + j, none⟩ u).heap[b]? = w.heap[b]? := by
  have ht : Turned (fun b => b = g) w (w.setCell ⟨g, k * 10 + j, none⟩ u) := Turned.set _ rfl
  obtain ⟨k1, k2, k3⟩ := h.turn I ht (fun b q => .inl (by rw [q]; rfl))
  have hgo := h.old (b := g)
  have hgW : ¬ Old W g := fun z => by have z' : g < W.heap.size := z; have := hgo.1 rfl; omega
  have hw := h.ne
  exact ⟨⟨k1, h.want.put hk hj (fun _ q => q) hgW u y hR, h.ends.turned ht (fun b q => by subst q; exact ⟨hgW, hw b rfl⟩), h.ne, fun b q => ⟨(k2 b q).2, (h.apart b q).2⟩, k3⟩, fun b q => (k2 b q).1⟩
/-- what came in reads on, as long as elder memory stays -/
theorem LawAt.on (h : LawAt PD W w p G VW VE s cs m en) {P : World → Prop} (hP : ∀ w', Below W.heap.size W w' → P w') : On (Old W) w P := fun w' t =>
  hP w' (h.bel.trans (t.below (fun b q => Nat.le_of_not_lt q) h.bel.size))
theorem LawAt.moL (I : HsI PD) {g n C : Nat} (h : LawAt PD W w p G (.slice (some ⟨g, 0, none⟩) n C) VE s cs m en) {k : Nat} (hk : k < cs.length) {z : Int} (hz : I64 z) {c : CallD} (hc : cs[k] = c) :
    LawAt PD W (w.setCell ⟨g, k * 10 + 6, none⟩ (.int .i64 z)) p G (.slice (some ⟨g, 0, none⟩) n C) VE s (cs.set k ⟨c.task, c.op, c.key, c.data, c.fr, c.to, z, c.e, c.out, c.keys⟩) m en ∧ ∀ b, G b → (w.setCell ⟨g, k * 10 + 6, none⟩ (.int .i64 z)).heap[b]? = w.heap[b]? :=
  h.callL I hk (by omega) _ _ fun f hf w' t => by
    have q := hf w' t
    rw [hc] at q
    exact ⟨q.r0, q.r1, q.r2, q.r3, q.r4, q.r5, rfl, q.r7, q.r8, q.r9, ⟨q.ok.task, q.ok.op, q.ok.fr, q.ok.to, hz, q.ok.e, q.ok.data, q.ok.out, q.ok.keys⟩⟩
theorem set_at {cs : List CallD} {k : Nat} {y : CallD} (hk : k < cs.length) : ∃ h : k < (cs.set k y).length, (cs.set k y)[k] = y := ⟨by simpa using hk, by simp⟩
/-- a call ends -/
theorem LawAt.overL (I : HsI PD) {g n C ge ne Ce : Nat} (h : LawAt PD W w p G (.slice (some ⟨g, 0, none⟩) n C) (.slice (some ⟨ge, 0, none⟩) ne Ce) s cs m en) {k : Nat} (hk : k < cs.length) (hkm : k < m) {z : Int} (hz : I64 z) {a : AnsD} {AD AK : Option Addr} {CD CK : Nat} (hA : AnsV W (ansVal a AD CD AK CK) a) (hl8 : a.data.length ≤ 200) (hl9 : a.keys.length ≤ 50) {c : CallD} (hc : cs[k] = c) :
    LawAt PD W (((((w.setCell ⟨g, k * 10 + 5, none⟩ (.int .i64 z)).setCell ⟨g, k * 10 + 7, none⟩ (.int .i64 a.e)).setCell ⟨g, k * 10 + 8, none⟩ (.slice AD a.data.length CD)).setCell ⟨g, k * 10 + 9, none⟩ (.slice AK a.keys.length CK)).setCell ⟨ge, k, none⟩ (.bool true)) p G (.slice (some ⟨g, 0, none⟩) n C) (.slice (some ⟨ge, 0, none⟩) ne Ce) s
      (cs.set k ⟨c.task, c.op, c.key, c.data, c.fr, z, c.mo, a.e, a.data, a.keys⟩) m (fun j => if j = k then true else en j) := by
  have hA' : ∀ w', Below W.heap.size W w' → Bytes w' (.slice AD a.data.length CD) a.data ∧ Strs w' (.slice AK a.keys.length CK) a.keys ∧ I64 a.e := fun w' hb => by
    obtain ⟨A', C', As', Cs', e, h1, h2, h3, -⟩ := hA.below hb
    unfold ansVal at e
    injection e with e
    simp at e
    obtain ⟨⟨rfl, rfl⟩, rfl, rfl⟩ := e
    exact ⟨h1, h2, h3⟩
  have h1 := (h.callL I hk (j := 5) (by omega) (.int .i64 z) ⟨c.task, c.op, c.key, c.data, c.fr, z, c.mo, c.e, c.out, c.keys⟩ fun f hf w' t => by
    have q := hf w' t
    rw [hc] at q
    exact ⟨q.r0, q.r1, q.r2, q.r3, q.r4, rfl, q.r6, q.r7, q.r8, q.r9, ⟨q.ok.task, q.ok.op, q.ok.fr, hz, q.ok.mo, q.ok.e, q.ok.data, q.ok.out, q.ok.keys⟩⟩).1
  obtain ⟨hk1, hc1⟩ := set_at (y := (⟨c.task, c.op, c.key, c.data, c.fr, z, c.mo, c.e, c.out, c.keys⟩ : CallD)) hk
  have h2 := (h1.callL I hk1 (j := 7) (by omega) (.int .i64 a.e) ⟨c.task, c.op, c.key, c.data, c.fr, z, c.mo, a.e, c.out, c.keys⟩ fun f hf w' t => by
    have q := hf w' t
    rw [hc1] at q
    exact ⟨q.r0, q.r1, q.r2, q.r3, q.r4, q.r5, q.r6, rfl, q.r8, q.r9, ⟨q.ok.task, q.ok.op, q.ok.fr, q.ok.to, q.ok.mo, (hA' W (Below.refl _ _)).2.2, q.ok.data, q.ok.out, q.ok.keys⟩⟩).1
  rw [List.set_set] at h2
  obtain ⟨hk2, hc2⟩ := set_at (y := (⟨c.task, c.op, c.key, c.data, c.fr, z, c.mo, a.e, c.out, c.keys⟩ : CallD)) hk
  have o8 := h2.on (P := fun w' => Bytes w' (.slice AD a.data.length CD) a.data) (fun w' hb => (hA' w' hb).1)
  have h3 := (h2.callL I hk2 (j := 8) (by omega) (.slice AD a.data.length CD) ⟨c.task, c.op, c.key, c.data, c.fr, z, c.mo, a.e, a.data, c.keys⟩ fun f hf w' t => by
    have q := hf w' t
    rw [hc2] at q
    exact ⟨q.r0, q.r1, q.r2, q.r3, q.r4, q.r5, q.r6, q.r7, o8 w' t, q.r9, ⟨q.ok.task, q.ok.op, q.ok.fr, q.ok.to, q.ok.mo, q.ok.e, q.ok.data, hl8, q.ok.keys⟩⟩).1
  rw [List.set_set] at h3
  obtain ⟨hk3, hc3⟩ := set_at (y := (⟨c.task, c.op, c.key, c.data, c.fr, z, c.mo, a.e, a.data, c.keys⟩ : CallD)) hk
  have o9 := h3.on (P := fun w' => Strs w' (.slice AK a.keys.length CK) a.keys) (fun w' hb => (hA' w' hb).2.1)
  have h4 := (h3.callL I hk3 (j := 9) (by omega) (.slice AK a.keys.length CK) ⟨c.task, c.op, c.key, c.data, c.fr, z, c.mo, a.e, a.data, a.keys⟩ fun f hf w' t => by
    have q := hf w' t
    rw [hc3] at q
    exact ⟨q.r0, q.r1, q.r2, q.r3, q.r4, q.r5, q.r6, q.r7, q.r8, o9 w' t, ⟨q.ok.task, q.ok.op, q.ok.fr, q.ok.to, q.ok.mo, q.ok.e, q.ok.data, q.ok.out, hl9⟩⟩).1
  rw [List.set_set] at h4
  exact (h4.endL I hkm).1
theorem infoBool : (Try.prog.info? TB).map (fun i => (i.zero, i.size, i.bytes)) = some (some (.bool false), 1, 1) := by kernel_rfl
def zCallL : Value := .agg #[.int .i64 0, .int .i64 0, .string ⟨#[]⟩, .slice none 0 0, .int .i64 0, .int .i64 0, .int .i64 0, .int .i64 0, .slice none 0 0, .slice none 0 0]
theorem infoCallL : (Try.prog.info? TCall).map (fun i => (i.zero, i.size, i.bytes)) = some (some zCallL, 10, 136) := by kernel_rfl
/-- want = append(want, ..) -/
theorem LawAt.appW (I : HsI PD) (h : LawAt PD W w p G VW VE s cs m en) (hlen : cs.length ≤ 1000) {x : StepD} {t : Int} (ht : I64 t) {AX : Option Addr} {CX : Nat} (hX : StepV W (stepVal x AX CX) x) (hl : x.data.length ≤ 200) {mom : Nat} (hm : mom ≤ 1000) :
    ∃ A' C' w', (Builtin.append_ #[26, 26] 26 #[VW, .slice (some ⟨w.heap.size, 0, none⟩) 1 1]).run Try.prog (w.alloc (.cells #[.int .i64 t, .int .i64 x.a, .string x.key, .slice AX x.data.length CX, .int .i64 (mom : Nat), .int .i64 0, .int .i64 0, .int .i64 0, .slice none 0 0, .slice none 0 0] TCall)) = .ok (.slice A' (cs.length + 1) C') w' ∧
      LawAt PD W w' p G (.slice A' (cs.length + 1) C') VE s (cs ++ [fresh mom x t]) m en ∧ ∀ b, G b → w'.heap[b]? = w.heap[b]? := by
  have hX' : ∀ w', Below W.heap.size W w' → Bytes w' (.slice AX x.data.length CX) x.data ∧ I64 x.a := fun w' hb => by
    obtain ⟨A', C', e, h1, -, h3⟩ := hX.below hb
    unfold stepVal at e
    injection e with e
    simp at e
    obtain ⟨rfl, rfl⟩ := e
    exact ⟨h1, h3⟩
  have z0 : I64 (0 : Int) := ⟨by omega, by omega⟩
  have hfr : CallP (fresh mom x t) := ⟨ht, (hX' W (Below.refl _ _)).2, ⟨by show (-9223372036854775808 : Int) ≤ (mom : Nat); omega, by show ((mom : Nat) : Int) ≤ 9223372036854775807; omega⟩, z0, z0, z0, hl, by simp [fresh], by simp [fresh]⟩
  have hR := h.on (P := fun w' => CallR w' (fun j => #[Value.int .i64 t, .int .i64 x.a, .string x.key, .slice AX x.data.length CX, .int .i64 (mom : Nat), .int .i64 0, .int .i64 0, .int .i64 0, .slice none 0 0, .slice none 0 0].getD j undef) (fresh mom x t)) (fun w' hb => ⟨rfl, rfl, rfl, (hX' w' hb).1, rfl, rfl, rfl, rfl, Bytes.nil _, Strs.nil _, hfr⟩)
  obtain ⟨v', w', hrun, hbu, htu, hat⟩ := run_append_builtX (P := Try.prog) w 26 26 TCall zCallL 136 Try.underlying26 infoCallL rfl (by omega) VW cs h.want (fun b q => Nat.lt_of_lt_of_le q h.bel.size) _ (fresh mom x t) rfl
    (fun z hz => by
      simp only [List.mem_cons, List.not_mem_nil, or_false] at hz
      rcases hz with rfl | rfl | rfl | rfl | rfl | rfl | rfl | rfl | rfl | rfl <;> rfl) hR (by omega)
  obtain ⟨A', C', rfl, -⟩ := hbu.len
  rw [List.length_append, List.length_singleton] at hrun hbu hat
  obtain ⟨⟨F, f1, f2, f3, f4, f5⟩, k2, k3⟩ := h.turn I htu (fun b q => .inl q)
  have hown : ∀ b, (Value.slice A' (cs.length + 1) C').ownBlock = some b → VW.ownBlock = some b ∨ b = w.heap.size + 1 := fun b q => by
    rcases hat with e | e
    · exact .inl (e ▸ q)
    · rw [e] at q; injection q with q; exact .inr q.symm
  obtain ⟨F0, g1, g2, g3, g4, g5⟩ := h.mine
  have hF0 := I.lt g1
  have hwo : ∀ b, VW.ownBlock = some b → ¬ Old W b := fun b q z => by have z' : b < W.heap.size := z; have := (h.old (b := b)).1 q; omega
  refine ⟨A', C', w', hrun, ⟨⟨F0, I.turned g1 htu (fun b q => g3 b q), g2, fun b q z => ?_, g4, g5⟩, hbu, h.ends.turned htu (fun b q => ⟨hwo b q, h.ne b q⟩), fun b q z => ?_, fun b q => ⟨(k2 b q).2, fun z => ?_, (h.apart b q).2.2⟩, k3⟩, fun b q => (k2 b q).1⟩
  · rcases hown b q with e | e
    · exact g3 b e z
    · have := hF0 b z; omega
  · rcases hown b q with e | e
    · exact h.ne b e z
    · have := h.ends.own_lt b z; omega
  · rcases hown b z with e | e
    · exact (h.apart b q).2.1 e
    · have := (h.apart b q).1; omega
/-- ended = append(ended, false) -/
theorem LawAt.appE (I : HsI PD) (h : LawAt PD W w p G VW VE s cs m en) (hlen : m ≤ 1000) :
    ∃ A' C' w', (Builtin.append_ #[27, 27] 27 #[VE, .slice (some ⟨w.heap.size, 0, none⟩) 1 1]).run Try.prog (w.alloc (.cells #[.bool false] TB)) = .ok (.slice A' (m + 1) C') w' ∧
      LawAt PD W w' p G VW (.slice A' (m + 1) C') s cs (m + 1) (fun j => if j = m then false else en j) ∧ ∀ b, G b → w'.heap[b]? = w.heap[b]? := by
  have hR := h.on (P := fun w' => BoolR w' (fun j => #[Value.bool false].getD j undef) false) (fun w' hb => rfl)
  obtain ⟨v', w', hrun, hbu, htu, hat⟩ := run_append_builtX (P := Try.prog) w 27 27 TB (.bool false) 1 Try.underlying27 infoBool rfl (by omega) VE _ h.ends (fun b q => Nat.lt_of_lt_of_le q h.bel.size) #[.bool false] false rfl
    (fun z hz => by
      simp only [List.mem_cons, List.not_mem_nil, or_false] at hz
      subst hz; rfl) hR (by rw [List.length_map, List.length_range]; omega)
  have hl : (List.range m).map en ++ [false] = (List.range (m + 1)).map (fun j => if j = m then false else en j) := by
    rw [List.range_succ, List.map_append]
    congr 1
    · exact List.map_congr_left fun j hj => by rw [if_neg (by have := List.mem_range.1 hj; omega)]
    · simp
  rw [hl] at hbu
  obtain ⟨A', C', rfl, -⟩ := hbu.len
  rw [List.length_map, List.length_range] at hrun hbu hat
  obtain ⟨⟨F, f1, f2, f3, f4, f5⟩, k2, k3⟩ := h.turn I htu (fun b q => .inr q)
  have hown : ∀ b, (Value.slice A' (m + 1) C').ownBlock = some b → VE.ownBlock = some b ∨ b = w.heap.size + 1 := fun b q => by
    rcases hat with e | e
    · exact .inl (e ▸ q)
    · rw [e] at q; injection q with q; exact .inr q.symm
  obtain ⟨F0, g1, g2, g3, g4, g5⟩ := h.mine
  have hF0 := I.lt g1
  have hwo : ∀ b, VE.ownBlock = some b → ¬ Old W b := fun b q z => by have z' : b < W.heap.size := z; have := (h.old (b := b)).2 q; omega
  refine ⟨A', C', w', hrun, ⟨⟨F0, I.turned g1 htu (fun b q => g4 b q), g2, g3, fun b q z => ?_, g5⟩, h.want.turned htu (fun b q => ⟨hwo b q, fun z => h.ne b z q⟩), hbu, fun b q z => ?_, fun b q => ⟨(k2 b q).2, (h.apart b q).2.1, fun z => ?_⟩, k3⟩, fun b q => (k2 b q).1⟩
  · rcases hown b q with e | e
    · exact g4 b e z
    · have := hF0 b z; omega
  · rcases hown b z with e | e
    · exact h.ne b q e
    · have := h.want.own_lt b q; omega
  · rcases hown b z with e | e
    · exact (h.apart b q).2.2 e
    · have := (h.apart b q).1; omega
end
end Go.Proofs.Ytcljpniknpgmpaa.Hst
