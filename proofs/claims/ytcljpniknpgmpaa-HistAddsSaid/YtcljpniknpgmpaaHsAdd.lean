/- The program's history: Add. -/
import Derived.Test.YtcljpniknpgmpaaHsBeg
import Derived.Test.YtcljpniknpgmpaaHsRun
namespace Go.Proofs.Ytcljpniknpgmpaa.Hst
set_option linter.unusedVariables false
open Go.ChangeShapes Go.WideShapes Go.ChangeAt Go.RowKit
open Go.Mem Hs
/-- clear(m) -/
theorem MapOf.wipe {w : World} {b : Nat} {s s' : St} (h : MapOf w b s) (hf : ∀ t, s'.find t = none) :
    ∃ w', (∀ ty, (Builtin.clear_ #[TMap] ty #[.map (some b)]).run Try.prog w = .ok (.tuple #[]) w') ∧ MapOf w' b s' ∧ Turned (fun x => x = b) w w' := by
  obtain ⟨D, n, ⟨es, clock, hb, -⟩, -⟩ := h
  have hlt : b < w.heap.size := (Array.getElem?_eq_some_iff.1 hb).1
  refine ⟨{ w with heap := w.heap.setIfInBounds b (.map #[] clock) }, fun ty => ?_, ⟨.map [], 0, ⟨#[], clock, by simp [hlt], ⟨by simp, MapKept.stamped_empty clock, by simp⟩, Nat.le_refl _, rfl⟩, Nat.zero_le _, opens_none hf⟩, ⟨rfl, rfl, rfl, by simp, fun i hi hn => by simp only [Array.getElem?_setIfInBounds]; rw [if_neg (fun q => hn q.symm)]⟩⟩
  have hu := run_underlying (w := w) Try.underlying48
  have h1 := MapKept.run_getObj_map (P := Try.prog) hb
  have h2 := MapKept.run_setObj_map (P := Try.prog) (.map #[] clock) hb
  obtain ⟨P, hP⟩ : ∃ P, Try.prog = P := ⟨_, rfl⟩
  rw [hP] at hu h1 h2 ⊢
  clear hP
  simp [Builtin.clear_, hu, h1, h2, Result.andThen]
theorem wipe_nil (w : World) (ty : TypeId) : (Builtin.clear_ #[TMap] ty #[.map none]).run Try.prog w = .ok (.tuple #[]) w := by
  have hu := run_underlying (w := w) Try.underlying48
  obtain ⟨P, hP⟩ : ∃ P, Try.prog = P := ⟨_, rfl⟩
  rw [hP] at hu ⊢
  clear hP
  simp [Builtin.clear_, hu, Result.andThen]
theorem HAt.tick {w : World} {E : Nat → Prop} {p : Nat} {M : Option Nat} {V : Value} {s : St} (h : HAt w E p M V s) : HAt (w.setCell ⟨p, 0, none⟩ (.int .i64 ((s.mom : Nat) + 1))) E p M V s.tick := by
  have ht : Turned (fun b => b = p) w (w.setCell ⟨p, 0, none⟩ (.int .i64 ((s.mom : Nat) + 1))) := Turned.set _ rfl
  refine ⟨(h.head.set 0 (.int .i64 ((s.mom : Nat) + 1))).congr fun i hi => ?_, h.calls.turned ht (fun b q => by subst q; exact ⟨h.np, h.vp⟩), ?_, fun b q => Nat.lt_of_lt_of_le (h.lt b q) ht.size, h.np, h.nm, h.vp, St.tick_uniq h.uniq⟩
  · rcases (by omega : i = 0 ∨ i = 1 ∨ i = 2) with rfl | rfl | rfl <;> rfl
  · rcases h.map with ⟨e, hn⟩ | ⟨b, e, hm⟩
    · exact .inl ⟨e, hn⟩
    · exact .inr ⟨b, e, (hm.congr (s' := s.tick) (Nat.le_refl _) (fun t => rfl)).keep (ht.block b hm.lt (h.nm b e).2.1)⟩
theorem HAt.wipe {w w' : World} {E : Nat → Prop} {p : Nat} {M : Option Nat} {V : Value} {s : St} (h : HAt w E p M V s) : ∃ w', (∀ ty, (Builtin.clear_ #[TMap] ty #[.map M]).run Try.prog w = .ok (.tuple #[]) w') ∧ HAt w' E p M V s.crash ∧ Turned (foot E p M V) w w' := by
  rcases h.map with ⟨e, hn⟩ | ⟨b, e, hm⟩
  · subst e
    exact ⟨w, fun ty => wipe_nil w ty, ⟨h.head, h.calls, .inl ⟨rfl, St.crash_find⟩, h.lt, h.np, h.nm, h.vp, St.crash_uniq⟩, Turned.refl _ _⟩
  · subst e
    obtain ⟨w', h1, h2, h3⟩ := hm.wipe (s' := s.crash) St.crash_find
    obtain ⟨hEb, hbp, hVb⟩ := h.nm b rfl
    exact ⟨w', h1, ⟨h.head.of_block (h3.block p h.head.lt (fun q => hbp q.symm)), h.calls.turned h3 (fun y q => by subst q; exact ⟨hEb, hVb⟩), .inr ⟨b, rfl, h2⟩, fun y q => Nat.lt_of_lt_of_le (h.lt y q) h3.size, h.np, h.nm, h.vp, St.crash_uniq⟩, h3.mono (fun y q => .inr (.inr (.inl (by rw [q]))))⟩
theorem wpList_clear_task (w : World) {ops : Array Oper} {rest : List Oper} {o : Oper} {a : Act} {Q : Exit → Act → World → Prop} (hg : o.guard = none) (m : Operand) (hop : o.op = Op.call { callee := Callee.builtin Builtin.clear, args := #[m], argTypes := #[TMap] }) (M : Option Nat) (w' : World) (hm : a.eval m = .map M)
    (hrun : ∀ ty, (Builtin.clear_ #[TMap] ty #[.map M]).run Try.prog w = .ok (.tuple #[]) w') (hK : wpList Try.prog ops Q rest (a.put o.dst (.tuple #[])) w') : wpList Try.prog ops Q (o :: rest) a w := by
  refine wpList_plain hg fun K' hK' => ?_
  unfold Oper.wp
  simp [execOp, hop, resolve, invoke, builtin, hm, hrun o.type, Result.andThen]
  exact hK' _ _ hK
theorem Does.from {PD : Thing} {F : Nat → Prop} {p : Nat} {st : St} {w w3 w4 : World} (h : Does PD F p st w3 w4) (ht : Turned F w w3) : Does PD F p st w w4 := by
  obtain ⟨F', h1, h2, h3⟩ := h
  exact ⟨F', h1, ht.trans h2 (Grown.refl _ _), fun b q => (h3 b q).imp id (fun z => Nat.le_trans ht.size z)⟩
theorem add_other {s : St} {x : StepD} {a : AnsD} (h1 : x.kind ≠ 1) (h2 : x.kind ≠ 2) (h8 : x.kind ≠ 8) : s.add x a = s.tick := by unfold St.add; rw [if_neg h1, if_neg h2, if_neg h8]
set_option maxRecDepth 100000 in
set_option maxHeartbeats 4000000 in
theorem addC {w : World} {F : Nat → Prop} {p : Nat} {s : St} (h : PDh w F p s) (hfew : Few s) (x : StepD) (a : AnsD) (X A : Value) (hX : Sure F w (fun w' => StepV w' X x)) (hA : Sure F w (fun w' => AnsV w' A a)) (hfit : Fit x a) :
    Calls Try.prog 9 #[.pointer (some ⟨p, 0, none⟩), X, A] w fun e w' => e = .returned (.tuple #[]) ∧ Does PDh F p (s.add x a) w w' := by
  obtain ⟨E, M, V, hat, rfl⟩ := h
  have HX := Lib.hid hX
  have HA := Lib.hid hA
  obtain ⟨AX, CX, rfl, -, hk, hxa⟩ := hX.here
  obtain ⟨AD, CD, AK, CK, rfl, -, -, -, htask, -⟩ := hA.here
  unfold stepVal ansVal
  obtain ⟨NX, hNX⟩ : ∃ N, x.data.length = N := ⟨_, rfl⟩
  obtain ⟨ND, hND⟩ : ∃ N, a.data.length = N := ⟨_, rfl⟩
  obtain ⟨NK, hNK⟩ : ∃ N, a.keys.length = N := ⟨_, rfl⟩
  rw [hNX, hND, hNK]
  have ha1 : Below w.heap.size w (w.alloc (.cells #[.int .i64 x.kind, .int .i64 x.a, .string x.key, .slice AX NX CX, .int .u64 x.keep] TStep)) := (Below.refl _ _).alloc (Nat.le_refl _) _
  have hr1 : (w.alloc (.cells #[.int .i64 x.kind, .int .i64 x.a, .string x.key, .slice AX NX CX, .int .u64 x.keep] TStep)).rowIs w.heap.size TStep 5 (fun i => #[Value.int .i64 x.kind, .int .i64 x.a, .string x.key, .slice AX NX CX, .int .u64 x.keep].getD i undef) := row_of w _ _
  obtain ⟨w1, hw1⟩ : ∃ w1, w.alloc (.cells #[.int .i64 x.kind, .int .i64 x.a, .string x.key, .slice AX NX CX, .int .u64 x.keep] TStep) = w1 := ⟨_, rfl⟩
  have hs1 : w1.heap.size = w.heap.size + 1 := by rw [← hw1]; simp
  rw [hw1] at ha1 hr1
  obtain ⟨w2, hw2⟩ : ∃ w2, w1.alloc (.cells #[.int .i64 a.e, .int .i64 a.task, .bool a.done, .int .i64 a.mark, .slice AD ND CD, .slice AK NK CK] TAns) = w2 := ⟨_, rfl⟩
  have ha2 : Below w1.heap.size w1 w2 := by rw [← hw2]; exact (Below.refl _ _).alloc (Nat.le_refl _) _
  have hr2 : w2.rowIs w1.heap.size TAns 6 (fun i => #[Value.int .i64 a.e, .int .i64 a.task, .bool a.done, .int .i64 a.mark, .slice AD ND CD, .slice AK NK CK].getD i undef) := by rw [← hw2]; exact row_of w1 _ _
  have hr1' := hr1.of_block (ha2.block w.heap.size hr1.lt)
  obtain ⟨B, hB⟩ : ∃ B, w.heap.size = B := ⟨_, rfl⟩
  rw [hs1, hB] at hr2
  rw [hB] at hr1'
  have hb2 : Below w.heap.size w w2 := ha1.trans (ha2.mono ha1.size)
  have hat2 := hat.below hb2
  have c0 : w2.cell? ⟨p, 0, none⟩ = some (.int .i64 (s.mom : Nat)) := hat2.cell (i := 0) (by omega)
  have f0 : w2.frozen? ⟨p, 0, none⟩ = false := hat2.free 0
  have hpB : p < B := hB ▸ hat.head.lt
  have hm1 : s.mom ≤ 1000 := hfew.2
  have hat3 := hat2.tick
  have ht3 : Turned (foot E p M V) w (w2.setCell ⟨p, 0, none⟩ (.int .i64 ((s.mom : Nat) + 1))) := (Turned.of_below _ hb2).trans (Turned.set (F := foot E p M V) (b := p) _ (.inl rfl)) (Grown.refl _ _)
  have hr13 := hr1'.of_block (Below.heap_setCell w2 ⟨p, 0, none⟩ (.int .i64 ((s.mom : Nat) + 1)) B (fun q => by have : B = p := q; omega))
  have hr23 := hr2.of_block (Below.heap_setCell w2 ⟨p, 0, none⟩ (.int .i64 ((s.mom : Nat) + 1)) (B + 1) (fun q => by have : B + 1 = p := q; omega))
  obtain ⟨w3, hw3⟩ : ∃ w3, w2.setCell ⟨p, 0, none⟩ (.int .i64 ((s.mom : Nat) + 1)) = w3 := ⟨_, rfl⟩
  rw [hw3] at hat3 ht3 hr13 hr23
  have HW1 := Lib.hid hw1
  have HW2 := Lib.hid hw2
  have HW3 := Lib.hid hw3
  have HBE := Lib.hid hB
  have HS1 := Lib.hid hs1
  have H3 := Lib.hid hat3
  have HT3 := Lib.hid ht3
  have HR1 := Lib.hid hr13
  have HR2 := Lib.hid hr23
  have HFEW := Lib.hid hfew
  have HFIT := Lib.hid hfit
  have HXA := Lib.hid hxa
  have HTA := Lib.hid htask
  have HBEG := Lib.hid (show x.kind = 1 → a.e = 0 → Calls Try.prog 13 #[.pointer (some ⟨p, 0, none⟩), .agg #[.int .i64 x.kind, .int .i64 x.a, .string x.key, .slice AX NX CX, .int .u64 x.keep], .int .i64 a.task] w3 fun e w' => e = .returned (.tuple #[]) ∧ Does PDh (foot E p M V) p (s.add x a) w w' from fun q1 q0 => by
    have hc := beginC hat3 ⟨hfew.1, by show s.mom + 1 ≤ 1001; omega⟩ x _ (Sure.later hX ht3) hfit.1 a.task htask
    unfold stepVal at hc
    rw [hNX] at hc
    refine hc.mono fun e w' ⟨e1, e2⟩ => ⟨e1, ?_⟩
    unfold St.add
    rw [if_pos q1, if_pos q0]
    exact e2.from ht3)
  have HRUN := Lib.hid (show x.kind = 2 → Calls Try.prog 14 #[.pointer (some ⟨p, 0, none⟩), .int .i64 x.a, .agg #[.int .i64 a.e, .int .i64 a.task, .bool a.done, .int .i64 a.mark, .slice AD ND CD, .slice AK NK CK]] w3 fun e w' => e = .returned (.tuple #[]) ∧ Does PDh (foot E p M V) p (s.add x a) w w' from fun q1 => by
    have hc := runC hat3 hfew.1 (by show s.mom + 1 ≤ 1001; omega) x.a hxa a _ (Sure.later hA ht3) hfit.2.1 hfit.2.2
    unfold ansVal at hc
    rw [hND, hNK] at hc
    refine hc.mono fun e w' ⟨e1, e2⟩ => ⟨e1, ?_⟩
    unfold St.add
    rw [if_neg (by omega), if_pos q1]
    exact e2.from ht3)
  have HOTH := Lib.hid (show s.add x a = s.tick → Does PDh (foot E p M V) p (s.add x a) w w3 from fun q => by
    rw [q]
    exact ⟨_, ⟨E, M, V, hat3, rfl⟩, ht3, Grown.refl _ _⟩)
  clear hX hA hk hxa htask hNX hND hNK ha1 hr1 hw1 hs1 hw2 ha2 hr2 hr1' hB hb2 hat2 hat3 ht3 hr13 hr23 hw3 hat hfew hfit
  go_enter Try.func9, Try.ntmps9
  go_upto_region 1 with fail
  rw [HW1.out, HW2.out]
  rw [HBE.out]
  go_upto_region 3 with fail
  rw [HW3.out]
  clear c0 f0
  have x0 : w3.cell? ⟨B, 0, none⟩ = some (.int .i64 x.kind) := HR1.out.cell (i := 0) (by omega)
  have x1 : w3.cell? ⟨B, 1, none⟩ = some (.int .i64 x.a) := HR1.out.cell (i := 1) (by omega)
  have x2 : w3.cell? ⟨B, 2, none⟩ = some (.string x.key) := HR1.out.cell (i := 2) (by omega)
  have x3 : w3.cell? ⟨B, 3, none⟩ = some (.slice AX NX CX) := HR1.out.cell (i := 3) (by omega)
  have x4 : w3.cell? ⟨B, 4, none⟩ = some (.int .u64 x.keep) := HR1.out.cell (i := 4) (by omega)
  have y0 : w3.cell? ⟨B + 1, 0, none⟩ = some (.int .i64 a.e) := HR2.out.cell (i := 0) (by omega)
  have y1 : w3.cell? ⟨B + 1, 1, none⟩ = some (.int .i64 a.task) := HR2.out.cell (i := 1) (by omega)
  have y2 : w3.cell? ⟨B + 1, 2, none⟩ = some (.bool a.done) := HR2.out.cell (i := 2) (by omega)
  have y3 : w3.cell? ⟨B + 1, 3, none⟩ = some (.int .i64 a.mark) := HR2.out.cell (i := 3) (by omega)
  have y4 : w3.cell? ⟨B + 1, 4, none⟩ = some (.slice AD ND CD) := HR2.out.cell (i := 4) (by omega)
  have y5 : w3.cell? ⟨B + 1, 5, none⟩ = some (.slice AK NK CK) := HR2.out.cell (i := 5) (by omega)
  by_cases h1 : x.kind = 1
  · have q1 : (x.kind == (1 : Int)) = true := by rw [h1]; rfl
    by_cases h0 : a.e = 0
    · have q0 : (a.e == (0 : Int)) = true := by rw [h0]; rfl
      have HC := Lib.hid (HBEG.out h1 h0)
      clear h1 h0
      go_wp2_with (go_at_call 13; (with_reducible refine HC.out.mono ?_); rintro _ w5 ⟨rfl, hd5⟩; have HD := Lib.hid hd5; clear hd5)
      go_end0
      exact ⟨rfl, HD.out⟩
    · have q0 : (a.e == (0 : Int)) = false := by simpa using h0
      have HC := Lib.hid (HOTH.out (by unfold St.add; rw [if_pos h1, if_neg h0]))
      clear h1 h0
      go_wp2
      go_end0
      exact ⟨rfl, HC.out⟩
  · have q1 : (x.kind == (1 : Int)) = false := by simpa using h1
    by_cases h2 : x.kind = 2
    · have q2 : (x.kind == (2 : Int)) = true := by rw [h2]; rfl
      have HC := Lib.hid (HRUN.out h2)
      clear h1 h2
      go_wp2_with (go_at_call 14; (with_reducible refine HC.out.mono ?_); rintro _ w5 ⟨rfl, hd5⟩; have HD := Lib.hid hd5; clear hd5)
      go_end0
      exact ⟨rfl, HD.out⟩
    · have q2 : (x.kind == (2 : Int)) = false := by simpa using h2
      by_cases h8 : x.kind = 8
      · have q8 : (x.kind == (8 : Int)) = true := by rw [h8]; rfl
        obtain ⟨w4, hcl, hat4, ht4⟩ := H3.out.wipe (w' := w3)
        have HC := Lib.hid (show Does PDh (foot E p M V) p (s.add x a) w w4 from by
          unfold St.add
          rw [if_neg h1, if_neg h2, if_pos h8]
          exact ⟨_, ⟨E, M, V, hat4, rfl⟩, HT3.out.trans ht4 (Grown.refl _ _), Grown.refl _ _⟩)
        have c2 : w3.cell? ⟨p, 2, none⟩ = some (.map M) := H3.out.cell (i := 2) (by omega)
        have HCL := Lib.hid hcl
        clear h1 h2 h8 hat4 ht4 hcl
        go_wp2_with (refine wpList_clear_task _ rfl _ rfl M w4 rfl HCL.out ?_)
        go_end0
        exact ⟨rfl, HC.out⟩
      · have q8 : (x.kind == (8 : Int)) = false := by simpa using h8
        have HC := Lib.hid (HOTH.out (add_other h1 h2 h8))
        clear h1 h2 h8
        go_wp2
        go_end0
        exact ⟨rfl, HC.out⟩
end Go.Proofs.Ytcljpniknpgmpaa.Hst
