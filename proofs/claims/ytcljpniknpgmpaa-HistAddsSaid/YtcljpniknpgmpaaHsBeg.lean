/- The program's history: begin. -/
import Derived.Test.YtcljpniknpgmpaaHsGo
import Derived.Test.YtcljpniknpgmpaaTill
namespace Go.Proofs.Ytcljpniknpgmpaa.Hst
set_option linter.unusedVariables false
open Go.ChangeShapes Go.WideShapes Go.ChangeAt Go.RowKit
open Go.Mem Hs
/-- in the midst of begin: the map has the call already, the row of calls has it not -/
structure Beg (F : Nat → Prop) (w : World) (E : Nat → Prop) (p b : Nat) (V : Value) (s s' : St) (w4 : World) : Prop where
  head : w4.rowIs p THist 3 (hc s (some b) V)
  calls : BuiltX 10 CallR E w4 TCall V s.calls
  map : MapOf w4 b s'
  lt : ∀ y, E y → y < w4.heap.size
  np : ¬ E p
  nb : ¬ E b
  bp : b ≠ p
  vb : V.ownBlock ≠ some b
  vp : V.ownBlock ≠ some p
  tu : Turned F w w4
  gr : ∀ y, foot E p (some b) V y → F y ∨ w.heap.size ≤ y
  uq : s'.Uniq
theorem Beg.below {F E : Nat → Prop} {w w4 w5 : World} {p b : Nat} {V : Value} {s s' : St} (h : Beg F w E p b V s s' w4) (hb : Below w4.heap.size w4 w5) : Beg F w E p b V s s' w5 :=
  ⟨h.head.of_block (hb.block p h.head.lt), h.calls.below hb, h.map.keep (hb.block b h.map.lt), fun y q => Nat.lt_of_lt_of_le (h.lt y q) hb.size, h.np, h.nb, h.bp, h.vb, h.vp, h.tu.trans (Turned.of_below F hb) (Grown.refl _ _), h.gr, h.uq⟩
theorem i64_0 : I64 0 := ⟨by omega, by omega⟩
def callCells (s : St) (x : StepD) (t : Int) (u : Value) : Array Value := #[.int .i64 t, .int .i64 x.a, .string x.key, u, .int .i64 (s.mom : Nat), .int .i64 0, .int .i64 0, .int .i64 0, .slice none 0 0, .slice none 0 0]
/-- what the append leaves -/
theorem beg_next {F E : Nat → Prop} {w w4 w5 : World} {p b B0 : Nat} {V : Value} {s : St} {x : StepD} {t : Int} (h : Beg F w E p b V s (s.start x t) w4) (hfew : s.calls.length ≤ 1000 ∧ s.mom ≤ 1001) (ht : I64 t) (hx : I64 x.a) (hl : x.data.length ≤ 200)
    (hb : Below w4.heap.size w4 w5) {u : Value} (hu : Built ByteR w5 B0 5 u x.data) (hB0 : w4.heap.size ≤ B0) :
    ∃ A6 C6 w6, (Builtin.append_ #[26, 26] 26 #[V, .slice (some ⟨w5.heap.size, 0, none⟩) 1 1]).run Try.prog (w5.alloc (.cells (callCells s x t u) TCall)) = .ok (.slice A6 (s.calls.length + 1) C6) w6 ∧
      w6.rowIs p THist 3 (hc s (some b) V) ∧ Turned (fun y => V.ownBlock = some y) w5 w6 ∧ Does PDh F p (s.start x t) w (w6.setCell ⟨p, 1, none⟩ (.slice A6 (s.calls.length + 1) C6)) := by
  have h5 := h.below hb
  have hpB : p < w4.heap.size := h.head.lt
  have hVB := h.calls.own_lt
  have hbB : b < w4.heap.size := h.map.lt
  have huB := hu.own_lt
  obtain ⟨E', hE'⟩ : ∃ E' : Nat → Prop, ∀ y, E' y ↔ (E y ∨ u.ownBlock = some y) := ⟨fun y => E y ∨ u.ownBlock = some y, fun y => Iff.rfl⟩
  have hlt' : ∀ y, E' y → y < w5.heap.size := fun y q => by
    rcases (hE' y).1 q with q | q
    · exact h5.lt y q
    · exact (huB y q).2
  have hV' : ∀ y, V.ownBlock = some y → ¬ E' y := fun y q z => by
    rcases (hE' y).1 z with z | z
    · obtain ⟨xs, _, h2, _⟩ := h.calls
      exact h2 y q z
    · have h1 := hVB y q
      have h2 := (huB y z).1
      omega
  have hcl : BuiltX 10 CallR E' w5 TCall V s.calls := h5.calls.more (fun y q => (hE' y).2 (.inl q)) hV'
  have hfr : CallP (fresh s.mom x t) := ⟨ht, hx, ⟨by show (-9223372036854775808 : Int) ≤ (s.mom : Nat); omega, by show ((s.mom : Nat) : Int) ≤ 9223372036854775807; omega⟩, i64_0, i64_0, i64_0, hl, by simp [fresh], by simp [fresh]⟩
  have hR : On E' w5 (fun w' => CallR w' (fun j => (callCells s x t u).getD j undef) (fresh s.mom x t)) := fun w' q =>
    ⟨rfl, rfl, rfl, slice_on byteR_world hu w' (q.mono fun y z k => z ((hE' y).2 (.inr k))), rfl, rfl, rfl, rfl, Bytes.nil _, Strs.nil _, hfr⟩
  obtain ⟨A3, C3, e3, -⟩ := hu.slice.shape
  obtain ⟨v', w6, hrun, hbu, htu, hat⟩ := run_append_builtX (P := Try.prog) w5 26 26 TCall zCall 136 Try.underlying26 infoCall rfl (by omega) V s.calls hcl hlt' (callCells s x t u) (fresh s.mom x t) rfl
    (fun z hz => by
      simp only [callCells, List.mem_cons, List.not_mem_nil, or_false] at hz
      rcases hz with rfl | rfl | rfl | rfl | rfl | rfl | rfl | rfl | rfl | rfl <;> first | rfl | (rw [e3]; rfl)) hR (by have := hfew.1; omega)
  obtain ⟨A6, C6, rfl, -⟩ := hbu.len
  rw [List.length_append, List.length_singleton] at hrun hbu hat
  have hp6 : w6.rowIs p THist 3 (hc s (some b) V) := h5.head.of_block (htu.block p h5.head.lt (fun q => h.vp q))
  have hset : Turned (fun y => y = p) w6 (w6.setCell ⟨p, 1, none⟩ (.slice A6 (s.calls.length + 1) C6)) := Turned.set _ rfl
  have hown : ∀ y, (Value.slice A6 (s.calls.length + 1) C6).ownBlock = some y → V.ownBlock = some y ∨ y = w5.heap.size + 1 := fun y q => by
    rcases hat with e | e
    · exact .inl (e ▸ q)
    · rw [e] at q; injection q with q; exact .inr q.symm
  have hsz : w4.heap.size ≤ w5.heap.size := hb.size
  have hEp : ¬ E' p := fun z => by
    rcases (hE' p).1 z with z | z
    · exact h.np z
    · have := (huB p z).1; omega
  have hEb : ¬ E' b := fun z => by
    rcases (hE' b).1 z with z | z
    · exact h.nb z
    · have := (huB b z).1; omega
  have hvp : (Value.slice A6 (s.calls.length + 1) C6).ownBlock ≠ some p := fun q => by
    rcases hown p q with z | z
    · exact h.vp z
    · omega
  have hvb : (Value.slice A6 (s.calls.length + 1) C6).ownBlock ≠ some b := fun q => by
    rcases hown b q with z | z
    · exact h.vb z
    · omega
  have hFin : HAt (w6.setCell ⟨p, 1, none⟩ (.slice A6 (s.calls.length + 1) C6)) E' p (some b) (.slice A6 (s.calls.length + 1) C6) (s.start x t) := by
    refine ⟨(hp6.set 1 _).congr fun i hi => ?_, hbu.turned hset (fun y q => by subst q; exact ⟨hEp, hvp⟩), .inr ⟨b, rfl, (h5.map.keep (htu.block b h5.map.lt (fun q => h.vb q))).keep (hset.block b (Nat.lt_of_lt_of_le h5.map.lt htu.size) h.bp)⟩,
      fun y q => Nat.lt_of_lt_of_le (hlt' y q) (Nat.le_trans htu.size hset.size), hEp, fun y q => by cases q; exact ⟨hEb, h.bp, hvb⟩, hvp, h.uq⟩
    rcases (by omega : i = 0 ∨ i = 1 ∨ i = 2) with rfl | rfl | rfl <;> rfl
  refine ⟨A6, C6, w6, hrun, hp6, htu, _, ⟨E', some b, _, hFin, rfl⟩, ?_, fun y q => ?_⟩
  · have hVF : ∀ y, V.ownBlock = some y → F y ∨ w.heap.size ≤ y := fun y q => h.gr y (.inr (.inr (.inr q)))
    have hpF : F p ∨ w.heap.size ≤ p := h.gr p (.inl rfl)
    exact (((h.tu.trans (Turned.of_below F hb) (Grown.refl _ _)).trans (F' := fun y => V.ownBlock = some y) htu hVF).trans (F' := fun y => y = p) hset (fun y q => by subst q; exact hpF))
  · have hw : w.heap.size ≤ w4.heap.size := h.tu.size
    rcases q with q | q | q | q
    · exact h.gr y (.inl q)
    · rcases (hE' y).1 q with q | q
      · exact h.gr y (.inr (.inl q))
      · have := (huB y q).1
        exact .inr (by omega)
    · exact h.gr y (.inr (.inr (.inl q)))
    · rcases hown y q with q | q
      · exact h.gr y (.inr (.inr (.inr q)))
      · exact .inr (by omega)
theorem wpList_store_task (w : World) {ops : Array Oper} {rest : List Oper} {o : Oper} {a : Act} {Q : Exit → Act → World → Prop} (hg : o.guard = none) (m x v : Operand) (hop : o.op = Op.mapUpdate TMap m x v) (b : Nat) (s s' : St) (h : MapOf w b s) (hlen : s.calls.length ≤ 1000000) {t : Int} (ht : I64 t) {k : Nat} (hk : k ≤ 1000000) (hl : s.calls.length + 1 ≤ s'.calls.length)
    (hf : ∀ t', s'.find t' = if t' = t then some k else s.find t') (hm : a.eval m = .map (some b)) (hx : a.eval x = .int .i64 t) (hv : a.eval v = .int .i64 (k : Nat)) (hK : ∀ w', MapOf w' b s' → Turned (fun x => x = b) w w' → w'.heap.size = w.heap.size → wpList Try.prog ops Q rest (a.put o.dst undef) w') :
    wpList Try.prog ops Q (o :: rest) a w := by
  refine wpList_plain hg fun K' hK' => ?_
  obtain ⟨w', hrun, r1, r2, r3⟩ := h.store hlen ht hk hl hf
  unfold Oper.wp
  simp [execOp, hop, hm, hx, hv, hrun, Result.andThen]
  exact hK' _ _ (hK w' r1 r2 r3)

theorem stepV_bytes {w : World} {x : StepD} {A : Option Addr} {C : Nat} (h : StepV w (stepVal x A C) x) : Bytes w (.slice A x.data.length C) x.data := by
  obtain ⟨A', C', e, h1, -⟩ := h
  unfold stepVal at e
  injection e with e
  simp at e
  obtain ⟨rfl, rfl⟩ := e
  exact h1
set_option maxRecDepth 100000 in
set_option maxHeartbeats 4000000 in
theorem beginC {w : World} {E : Nat → Prop} {p : Nat} {M : Option Nat} {V : Value} {s : St} (h : HAt w E p M V s) (hfew : s.calls.length ≤ 1000 ∧ s.mom ≤ 1001) (x : StepD) (X : Value) (hx : Sure (foot E p M V) w (fun w' => StepV w' X x)) (hl : x.data.length ≤ 200) (t : Int) (ht : I64 t) :
    Calls Try.prog 13 #[.pointer (some ⟨p, 0, none⟩), X, .int .i64 t] w fun e w' => e = .returned (.tuple #[]) ∧ Does PDh (foot E p M V) p (s.start x t) w w' := by
  have HXS := Lib.hid hx
  obtain ⟨A, C, rfl, hd, -, hxa⟩ := hx.here
  unfold stepVal
  obtain ⟨N, hN⟩ : ∃ N, x.data.length = N := ⟨_, rfl⟩
  have hqm : ∀ (w : World) (r : Option Nat), (binOp .eql TMap (.map r) (.map none)).run Try.prog w = .ok (.bool r.isNone) w := fun w r => run_eql_map_nil w _ _ _ r Try.underlying48
  have hmm := @run_makeMap Try.prog
  obtain ⟨w1, hw1⟩ : ∃ w1, w.alloc (.cells #[.int .i64 x.kind, .int .i64 x.a, .string x.key, .slice A N C, .int .u64 x.keep] TStep) = w1 := ⟨_, rfl⟩
  have hb1 : Below w.heap.size w w1 := by rw [← hw1]; exact (Below.refl _ _).alloc (Nat.le_refl _) _
  obtain ⟨B, hB⟩ : ∃ B, w.heap.size = B := ⟨_, rfl⟩
  have hrow : w1.rowIs B TStep 5 (fun i => #[Value.int .i64 x.kind, .int .i64 x.a, .string x.key, .slice A N C, .int .u64 x.keep].getD i undef) := by rw [← hw1, ← hB]; exact row_of w _ _
  have HROW := Lib.hid hrow
  have h1 := h.below hb1
  have c2 : w1.cell? ⟨p, 2, none⟩ = some (.map M) := h1.cell (i := 2) (by omega)
  have f2 : w1.frozen? ⟨p, 2, none⟩ = false := h1.free 2
  have hpB : p < B := hB ▸ h.head.lt
  have HSF := Lib.hid (St.start_find h.uniq x t)
  have HSU := Lib.hid (St.start_uniq h.uniq x t)
  have HW1 := Lib.hid hw1
  have HBE := Lib.hid hB
  have HB1 := Lib.hid hb1
  have H1 := Lib.hid h1
  have HH := Lib.hid h
  have HFEW := Lib.hid hfew
  have HL := Lib.hid hl
  have HXA := Lib.hid hxa
  have HT := Lib.hid ht
  have HN := Lib.hid hN
  rw [hN]
  obtain ⟨n, hn⟩ : ∃ n, s.calls.length = n := ⟨_, rfl⟩
  have HNC := Lib.hid hn
  have HSF2 := Lib.hid (show ∀ t', (s.start x t).find t' = if t' = t then some n else s.find t' from fun t' => by rw [HSF.out t', hn])
  have HSL := Lib.hid (show s.calls.length + 1 ≤ (s.start x t).calls.length ∧ s.calls.length ≤ 1000000 ∧ n ≤ 1000000 by simp [St.start]; omega)
  obtain ⟨AV, CV, rfl, -, -, -⟩ := h.calls.len
  rw [hn] at H1 HH HXS ⊢
  clear h h1 hx hd hxa hb1 hrow hw1 hB hfew hl ht hN hn
  cases M with
  | none =>
    obtain ⟨w2, hw2⟩ : ∃ w2, (w1.alloc (.map #[] 0)).setCell ⟨p, 2, none⟩ (.map (some w1.heap.size)) = w2 := ⟨_, rfl⟩
    obtain ⟨b, hb⟩ : ∃ b, w1.heap.size = b := ⟨_, rfl⟩
    have hmb : Below w1.heap.size w1 (w1.alloc (.map #[] 0)) := (Below.refl _ _).alloc (Nat.le_refl _) _
    have hset : Turned (fun y => y = p) (w1.alloc (.map #[] 0)) w2 := by rw [← hw2]; exact Turned.set _ rfl
    have hno : ∀ t, s.find t = none := by
      rcases HH.out.map with ⟨_, q⟩ | ⟨b, q, _⟩
      · exact q
      · cases q
    have hat0 := H1.out.below hmb
    have d2 : (w1.alloc (.map #[] 0)).cell? ⟨p, 2, none⟩ = some (.map none) := hat0.cell (i := 2) (by omega)
    have g2 : (w1.alloc (.map #[] 0)).frozen? ⟨p, 2, none⟩ = false := hat0.free 2
    have hbp : b ≠ p := by have := H1.out.head.lt; omega
    have hmap2 : MapOf w2 b s := by
      have := MapOf.made w1 hno
      rw [hb] at this
      exact this.keep (hset.block b this.lt hbp)
    have hc2 : BuiltX 10 CallR E w2 TCall (.slice AV n CV) s.calls := hat0.calls.turned hset (fun y q => by subst q; exact ⟨hat0.np, hat0.vp⟩)
    have hhd : w2.rowIs p THist 3 (hc s (some b) (.slice AV n CV)) := by
      rw [← hw2, hb]
      exact (hat0.head.set 2 (.map (some b))).congr fun i hi => by rcases (by omega : i = 0 ∨ i = 1 ∨ i = 2) with rfl | rfl | rfl <;> rfl
    have hEb : ¬ E b := fun q => by have := H1.out.lt b q; omega
    have hVb : (Value.slice AV n CV).ownBlock ≠ some b := fun q => by have := H1.out.calls.own_lt b q; omega
    have htu2 : Turned (foot E p none (.slice AV n CV)) w w2 := ((Turned.of_below _ HB1.out).trans (Turned.of_below _ hmb) (Grown.refl _ _)).trans (hset.mono (fun y q => .inl q)) (Grown.refl _ _)
    have hgr : ∀ y, foot E p (some b) (.slice AV n CV) y → foot E p none (.slice AV n CV) y ∨ w.heap.size ≤ y := fun y q => by
      rcases q with q | q | q | q
      · exact .inl (.inl q)
      · exact .inl (.inr (.inl q))
      · cases q
        exact .inr (hb ▸ HB1.out.size)
      · exact .inl (.inr (.inr (.inr q)))
    have hBw : B < w1.heap.size := HROW.out.lt
    have hr2 : w2.rowIs B TStep 5 (fun i => #[Value.int .i64 x.kind, .int .i64 x.a, .string x.key, .slice A N C, .int .u64 x.keep].getD i undef) := (HROW.out.of_block (hmb.block B hBw)).of_block (hset.block B (Nat.lt_of_lt_of_le hBw hmb.size) (by omega))
    have HW2 := Lib.hid hw2
    have HBB := Lib.hid hb
    have HMID := Lib.hid (show ∃ f : Unit, w2.rowIs p THist 3 (hc s (some b) (.slice AV n CV)) ∧ BuiltX 10 CallR E w2 TCall (.slice AV n CV) s.calls ∧ MapOf w2 b s ∧ (∀ y, E y → y < w2.heap.size) ∧ ¬ E b ∧ b ≠ p ∧ (Value.slice AV n CV).ownBlock ≠ some b ∧ Turned (foot E p none (.slice AV n CV)) w w2 ∧ (∀ y, foot E p (some b) (.slice AV n CV) y → foot E p none (.slice AV n CV) y ∨ w.heap.size ≤ y) ∧ w2.rowIs B TStep 5 (fun i => #[Value.int .i64 x.kind, .int .i64 x.a, .string x.key, .slice A N C, .int .u64 x.keep].getD i undef) from
      ⟨(), hhd, hc2, hmap2, fun y q => Nat.lt_of_lt_of_le (H1.out.lt y q) (Nat.le_trans hmb.size hset.size), hEb, hbp, hVb, htu2, hgr, hr2⟩)
    clear hmb hset hno hat0 hmap2 hc2 hhd hEb hVb htu2 hgr hr2 hw2 hb
    go_enter Try.func13, Try.ntmps13
    go_upto_region 1 with fail
    rw [HW1.out, HBE.out]
    go_upto_region 3 with fail
    rw [HW2.out]
    clear d2 g2 c2 f2
    obtain ⟨_, hhd, hc2, hmap2, hlt2, hEb, hbp2, hVb, htu2, hgr2, hr2⟩ := HMID.out
    have hBb : ¬ B = b := by have := HBB.out; omega
    have e1 : w2.cell? ⟨p, 1, none⟩ = some (.slice AV n CV) := hhd.cell (i := 1) (by omega)
    have e2 : w2.cell? ⟨p, 2, none⟩ = some (.map (some b)) := hhd.cell (i := 2) (by omega)
    have HM2 := Lib.hid (hmap2.keep (w' := w2.drew) rfl)
    have HBG := Lib.hid (show ∀ w4, MapOf w4 b (s.start x t) → Turned (fun y => y = b) w2.drew w4 → Beg (foot E p none (.slice AV n CV)) w E p b (.slice AV n CV) s (s.start x t) w4 from fun w4 hm ht => by
      have ht2 : Turned (fun y => y = b) w2 w4 := (Turned.drew _ w2).trans ht (Grown.refl _ _)
      exact ⟨hhd.of_block (ht2.block p hhd.lt (fun q => hbp2 q.symm)), hc2.turned ht2 (fun y q => by subst q; exact ⟨hEb, hVb⟩), hm, fun y q => Nat.lt_of_lt_of_le (hlt2 y q) ht2.size, HH.out.np, hEb, hbp2, hVb, HH.out.vp, htu2.trans (F' := fun y => y = b) ht2 (fun y q => by subst q; exact hgr2 y (.inr (.inr (.inl rfl)))), hgr2, HSU.out⟩)
    have HRB := Lib.hid (show ∀ w4, Turned (fun y => y = b) w2.drew w4 → w4.rowIs B TStep 5 (fun i => #[Value.int .i64 x.kind, .int .i64 x.a, .string x.key, .slice A N C, .int .u64 x.keep].getD i undef) from fun w4 ht => (show w2.drew.rowIs B TStep 5 _ from hr2).of_block (ht.block B hr2.lt hBb))
    clear hhd hc2 hmap2 hlt2 hEb hbp2 hVb htu2 hgr2 hr2
    go_still_tail 10, (by kernel_rfl)
    change wpList _ _ _ _ _ w2.drew
    go_upto_region 4 with (at_mapUpdate; refine wpList_store_task _ rfl _ _ _ rfl b s (s.start x t) HM2.out HSL.out.2.1 HT.out HSL.out.2.2 HSL.out.1 HSF2.out rfl rfl rfl ?_; intro w4 hm4 ht4 hs4)
    have hbg := HBG.out w4 hm4 ht4
    have hr4 := HRB.out w4 ht4
    clear e1 e2 hm4 ht4 hs4
    have e0 : w4.cell? ⟨p, 0, none⟩ = some (.int .i64 (s.mom : Nat)) := hbg.head.cell (i := 0) (by omega)
    have e1 : w4.cell? ⟨p, 1, none⟩ = some (.slice AV n CV) := hbg.head.cell (i := 1) (by omega)
    have b1 : w4.cell? ⟨B, 1, none⟩ = some (.int .i64 x.a) := hr4.cell (i := 1) (by omega)
    have b2 : w4.cell? ⟨B, 2, none⟩ = some (.string x.key) := hr4.cell (i := 2) (by omega)
    have b3 : w4.cell? ⟨B, 3, none⟩ = some (.slice A N C) := hr4.cell (i := 3) (by omega)
    have hby : Bytes w4.drew (.slice A N C) x.data := by
      have := stepV_bytes (HXS.out w4 hbg.tu)
      rw [HN.out] at this
      exact this.below (below_drewN _ _ 1)
    have HCL := Lib.hid (cloneB x.data _ _ hby (by have := HL.out; omega))
    have HNX := Lib.hid (fun (u : Value) (w5 : World) (hb : Below w4.drew.heap.size w4.drew w5) (hu : Built ByteR w5 w4.drew.heap.size 5 u x.data) => beg_next hbg HFEW.out HT.out HXA.out HL.out ((Go.Mem.below_drewN _ w4 1).trans hb) hu (Nat.le_refl _))
    rw [HNC.out] at HNX
    have HR4 := Lib.hid hr4
    have HSW := Lib.hid (show ∀ w' : World, w'.rowIs p THist 3 (hc s (some b) (.slice AV n CV)) → w'.rowIs B TStep 5 (fun i => #[Value.int .i64 x.kind, .int .i64 x.a, .string x.key, .slice A N C, .int .u64 x.keep].getD i undef) → w'.cell? ⟨p, 0, none⟩ = some (.int .i64 (s.mom : Nat)) ∧ w'.cell? ⟨p, 1, none⟩ = some (.slice AV n CV) ∧ w'.cell? ⟨B, 1, none⟩ = some (.int .i64 x.a) ∧ w'.cell? ⟨B, 2, none⟩ = some (.string x.key) ∧ w'.cell? ⟨B, 3, none⟩ = some (.slice A N C) from fun w' h1 h2 => ⟨h1.cell (i := 0) (by omega), h1.cell (i := 1) (by omega), h2.cell (i := 1) (by omega), h2.cell (i := 2) (by omega), h2.cell (i := 3) (by omega)⟩)
    have HS4 := Lib.hid (show ∀ w' : World, Below w4.drew.heap.size w4.drew w' → w'.rowIs p THist 3 (hc s (some b) (.slice AV n CV)) ∧ w'.rowIs B TStep 5 (fun i => #[Value.int .i64 x.kind, .int .i64 x.a, .string x.key, .slice A N C, .int .u64 x.keep].getD i undef) from fun w' hb => ⟨(show w4.drew.rowIs p THist 3 _ from hbg.head).of_block (hb.block p hbg.head.lt), (show w4.drew.rowIs B TStep 5 _ from hr4).of_block (hb.block B hr4.lt)⟩)
    have HS5 := Lib.hid (show ∀ w' : World, Below w4.drew.heap.size w4.drew w' → w'.cell? ⟨p, 0, none⟩ = some (.int .i64 (s.mom : Nat)) ∧ w'.cell? ⟨p, 1, none⟩ = some (.slice AV n CV) ∧ w'.cell? ⟨B, 1, none⟩ = some (.int .i64 x.a) ∧ w'.cell? ⟨B, 2, none⟩ = some (.string x.key) ∧ w'.cell? ⟨B, 3, none⟩ = some (.slice A N C) from fun w' hb => HSW.out w' (HS4.out w' hb).1 (HS4.out w' hb).2)
    have hVB : (Value.slice AV n CV).ownBlock ≠ some B := fun q => by have := HH.out.calls.own_lt B q; have := HBE.out; omega
    have HS6 := Lib.hid (show ∀ w5 w' : World, Below w4.drew.heap.size w4.drew w5 → Turned (fun y => (Value.slice AV n CV).ownBlock = some y) w5 w' → w'.cell? ⟨p, 0, none⟩ = some (.int .i64 (s.mom : Nat)) ∧ w'.cell? ⟨p, 1, none⟩ = some (.slice AV n CV) ∧ w'.cell? ⟨B, 1, none⟩ = some (.int .i64 x.a) ∧ w'.cell? ⟨B, 2, none⟩ = some (.string x.key) ∧ w'.cell? ⟨B, 3, none⟩ = some (.slice A N C) from fun w5 w' hb ht => HSW.out w' ((HS4.out w5 hb).1.of_block (ht.block p (HS4.out w5 hb).1.lt (fun q => hbg.vp q))) ((HS4.out w5 hb).2.of_block (ht.block B (HS4.out w5 hb).2.lt (fun q => hVB q))))
    have hSd := HS5.out _ (Below.refl _ _)
    clear e0 e1 b1 b2 b3 hVB
    clear hbg hr4 hby
    refine wp_region_noPanic ?_
    refine wp_region_till [22] (fun w' => w'.cell? ⟨p, 0, none⟩ = some (.int .i64 (s.mom : Nat)) ∧ w'.cell? ⟨p, 1, none⟩ = some (.slice AV n CV) ∧ w'.cell? ⟨B, 1, none⟩ = some (.int .i64 x.a) ∧ w'.cell? ⟨B, 2, none⟩ = some (.string x.key) ∧ w'.cell? ⟨B, 3, none⟩ = some (.slice A N C)) (by kernel_rfl) hSd (fun _ => ?_)
    have hHeld := hSd
    refine wpAnyT_take (i := 0) (oi := ?oiz1) (v := ?vz1) ?h1z1 (by kernel_rfl) (by kernel_rfl) (by kernel_rfl) (by kernel_rfl) (fun _ _ _ h => h) ?hyz1 (HeldT.of hHeld) ?_
    case h1z1 => (simp only [List.getElem?_toArray, List.getElem?_cons_zero]; rfl)
    case hyz1 => first | (refine Or.inr ⟨rfl, ?_⟩; rfl) | (refine Or.inl ⟨rfl, ?_⟩; intro w hSw; (try dsimp only at hSw); go_simp; done) | (refine Or.inl ⟨rfl, ?_⟩; intro w hSw; (try dsimp only at hSw); go_simp; with_reducible rfl)
    try simp only [Act.put, List.setIfInBounds_toArray, List.set_cons_zero, List.set_cons_succ]
    refine wpAnyT_take (i := 1) (oi := ?oiz2) (v := ?vz2) ?h1z2 (by kernel_rfl) (by kernel_rfl) (by kernel_rfl) (by kernel_rfl) (fun _ _ _ h => h) ?hyz2 (HeldT.of hHeld) ?_
    case h1z2 => (simp only [List.getElem?_toArray, List.getElem?_cons_succ, List.getElem?_cons_zero]; rfl)
    case hyz2 => first | (refine Or.inr ⟨rfl, ?_⟩; rfl) | (refine Or.inl ⟨rfl, ?_⟩; intro w hSw; (try dsimp only at hSw); go_simp; done) | (refine Or.inl ⟨rfl, ?_⟩; intro w hSw; (try dsimp only at hSw); go_simp; with_reducible rfl)
    try simp only [Act.put, List.setIfInBounds_toArray, List.set_cons_zero, List.set_cons_succ]
    refine wpAnyT_take (i := 2) (oi := ?oiz3) (v := ?vz3) ?h1z3 (by kernel_rfl) (by kernel_rfl) (by kernel_rfl) (by kernel_rfl) (fun _ _ _ h => h) ?hyz3 (HeldT.of hHeld) ?_
    case h1z3 => (simp only [List.getElem?_toArray, List.getElem?_cons_succ, List.getElem?_cons_zero]; rfl)
    case hyz3 => first | (refine Or.inr ⟨rfl, ?_⟩; rfl) | (refine Or.inl ⟨rfl, ?_⟩; intro w hSw; (try dsimp only at hSw); go_simp; done) | (refine Or.inl ⟨rfl, ?_⟩; intro w hSw; (try dsimp only at hSw); go_simp; with_reducible rfl)
    try simp only [Act.put, List.setIfInBounds_toArray, List.set_cons_zero, List.set_cons_succ]
    refine wpAnyT_take (i := 3) (oi := ?oiz4) (v := ?vz4) ?h1z4 (by kernel_rfl) (by kernel_rfl) (by kernel_rfl) (by kernel_rfl) (fun _ _ _ h => h) ?hyz4 (HeldT.of hHeld) ?_
    case h1z4 => (simp only [List.getElem?_toArray, List.getElem?_cons_succ, List.getElem?_cons_zero]; rfl)
    case hyz4 => first | (refine Or.inr ⟨rfl, ?_⟩; rfl) | (refine Or.inl ⟨rfl, ?_⟩; intro w hSw; (try dsimp only at hSw); go_simp; done) | (refine Or.inl ⟨rfl, ?_⟩; intro w hSw; (try dsimp only at hSw); go_simp; with_reducible rfl)
    try simp only [Act.put, List.setIfInBounds_toArray, List.set_cons_zero, List.set_cons_succ]
    refine wpAnyT_load 22 (i := 4) (oi := ?oiz5) (v := ?vz5) ?h1z5 (by kernel_rfl) (by kernel_rfl) (by kernel_rfl) (by kernel_rfl) (fun _ _ _ h => h) ?hyz5 (HeldT.of hHeld) ?_
    case h1z5 => (simp only [List.getElem?_toArray, List.getElem?_cons_succ, List.getElem?_cons_zero]; rfl)
    case hyz5 => first | (refine Or.inr ⟨rfl, ?_⟩; rfl) | (refine Or.inl ⟨rfl, ?_⟩; intro w hSw; (try dsimp only at hSw); go_simp; done) | (refine Or.inl ⟨rfl, ?_⟩; intro w hSw; (try dsimp only at hSw); go_simp; with_reducible rfl)
    try simp only [Act.put, List.setIfInBounds_toArray, List.set_cons_zero, List.set_cons_succ]
    refine wpAnyT_take (i := 5) (oi := ?oiz6) (v := ?vz6) ?h1z6 (by kernel_rfl) (by kernel_rfl) (by kernel_rfl) (by kernel_rfl) (fun _ _ _ h => h) ?hyz6 (HeldT.of hHeld) ?_
    case h1z6 => (simp only [List.getElem?_toArray, List.getElem?_cons_succ, List.getElem?_cons_zero]; rfl)
    case hyz6 => first | (refine Or.inr ⟨rfl, ?_⟩; rfl) | (refine Or.inl ⟨rfl, ?_⟩; intro w hSw; (try dsimp only at hSw); go_simp; done) | (refine Or.inl ⟨rfl, ?_⟩; intro w hSw; (try dsimp only at hSw); go_simp; with_reducible rfl)
    try simp only [Act.put, List.setIfInBounds_toArray, List.set_cons_zero, List.set_cons_succ]
    refine wpAnyT_take (i := 6) (oi := ?oiz7) (v := ?vz7) ?h1z7 (by kernel_rfl) (by kernel_rfl) (by kernel_rfl) (by kernel_rfl) (fun _ _ _ h => h) ?hyz7 (HeldT.of hHeld) ?_
    case h1z7 => (simp only [List.getElem?_toArray, List.getElem?_cons_succ, List.getElem?_cons_zero]; rfl)
    case hyz7 => first | (refine Or.inr ⟨rfl, ?_⟩; rfl) | (refine Or.inl ⟨rfl, ?_⟩; intro w hSw; (try dsimp only at hSw); go_simp; done) | (refine Or.inl ⟨rfl, ?_⟩; intro w hSw; (try dsimp only at hSw); go_simp; with_reducible rfl)
    try simp only [Act.put, List.setIfInBounds_toArray, List.set_cons_zero, List.set_cons_succ]
    refine wpAnyT_load 22 (i := 7) (oi := ?oiz8) (v := ?vz8) ?h1z8 (by kernel_rfl) (by kernel_rfl) (by kernel_rfl) (by kernel_rfl) (fun _ _ _ h => h) ?hyz8 (HeldT.of hHeld) ?_
    case h1z8 => (simp only [List.getElem?_toArray, List.getElem?_cons_succ, List.getElem?_cons_zero]; rfl)
    case hyz8 => first | (refine Or.inr ⟨rfl, ?_⟩; rfl) | (refine Or.inl ⟨rfl, ?_⟩; intro w hSw; (try dsimp only at hSw); go_simp; done) | (refine Or.inl ⟨rfl, ?_⟩; intro w hSw; (try dsimp only at hSw); go_simp; with_reducible rfl)
    try simp only [Act.put, List.setIfInBounds_toArray, List.set_cons_zero, List.set_cons_succ]
    refine wpAnyT_take (i := 8) (oi := ?oiz9) (v := ?vz9) ?h1z9 (by kernel_rfl) (by kernel_rfl) (by kernel_rfl) (by kernel_rfl) (fun _ _ _ h => h) ?hyz9 (HeldT.of hHeld) ?_
    case h1z9 => (simp only [List.getElem?_toArray, List.getElem?_cons_succ, List.getElem?_cons_zero]; rfl)
    case hyz9 => first | (refine Or.inr ⟨rfl, ?_⟩; rfl) | (refine Or.inl ⟨rfl, ?_⟩; intro w hSw; (try dsimp only at hSw); go_simp; done) | (refine Or.inl ⟨rfl, ?_⟩; intro w hSw; (try dsimp only at hSw); go_simp; with_reducible rfl)
    try simp only [Act.put, List.setIfInBounds_toArray, List.set_cons_zero, List.set_cons_succ]
    refine wpAnyT_load 22 (i := 9) (oi := ?oiz10) (v := ?vz10) ?h1z10 (by kernel_rfl) (by kernel_rfl) (by kernel_rfl) (by kernel_rfl) (fun _ _ _ h => h) ?hyz10 (HeldT.of hHeld) ?_
    case h1z10 => (simp only [List.getElem?_toArray, List.getElem?_cons_succ, List.getElem?_cons_zero]; rfl)
    case hyz10 => first | (refine Or.inr ⟨rfl, ?_⟩; rfl) | (refine Or.inl ⟨rfl, ?_⟩; intro w hSw; (try dsimp only at hSw); go_simp; done) | (refine Or.inl ⟨rfl, ?_⟩; intro w hSw; (try dsimp only at hSw); go_simp; with_reducible rfl)
    try simp only [Act.put, List.setIfInBounds_toArray, List.set_cons_zero, List.set_cons_succ]
    refine wpAnyT_take (i := 10) (oi := ?oiz11) (v := ?vz11) ?h1z11 (by kernel_rfl) (by kernel_rfl) (by kernel_rfl) (by kernel_rfl) (fun _ _ _ h => h) ?hyz11 (HeldT.of hHeld) ?_
    case h1z11 => (simp only [List.getElem?_toArray, List.getElem?_cons_succ, List.getElem?_cons_zero]; rfl)
    case hyz11 => first | (refine Or.inr ⟨rfl, ?_⟩; rfl) | (refine Or.inl ⟨rfl, ?_⟩; intro w hSw; (try dsimp only at hSw); go_simp; done) | (refine Or.inl ⟨rfl, ?_⟩; intro w hSw; (try dsimp only at hSw); go_simp; with_reducible rfl)
    try simp only [Act.put, List.setIfInBounds_toArray, List.set_cons_zero, List.set_cons_succ]
    refine wpAnyT_load 22 (i := 11) (oi := ?oiz12) (v := ?vz12) ?h1z12 (by kernel_rfl) (by kernel_rfl) (by kernel_rfl) (by kernel_rfl) (fun _ _ _ h => h) ?hyz12 (HeldT.of hHeld) ?_
    case h1z12 => (simp only [List.getElem?_toArray, List.getElem?_cons_succ, List.getElem?_cons_zero]; rfl)
    case hyz12 => first | (refine Or.inr ⟨rfl, ?_⟩; rfl) | (refine Or.inl ⟨rfl, ?_⟩; intro w hSw; (try dsimp only at hSw); go_simp; done) | (refine Or.inl ⟨rfl, ?_⟩; intro w hSw; (try dsimp only at hSw); go_simp; with_reducible rfl)
    try simp only [Act.put, List.setIfInBounds_toArray, List.set_cons_zero, List.set_cons_succ]
    refine wpAnyT_take (i := 13) (oi := ?oiz13) (v := ?vz13) ?h1z13 (by kernel_rfl) (by kernel_rfl) (by kernel_rfl) (by kernel_rfl) (fun _ _ _ h => h) ?hyz13 (HeldT.of hHeld) ?_
    case h1z13 => (simp only [List.getElem?_toArray, List.getElem?_cons_succ, List.getElem?_cons_zero]; rfl)
    case hyz13 => first | (refine Or.inr ⟨rfl, ?_⟩; rfl) | (refine Or.inl ⟨rfl, ?_⟩; intro w hSw; (try dsimp only at hSw); go_simp; done) | (refine Or.inl ⟨rfl, ?_⟩; intro w hSw; (try dsimp only at hSw); go_simp; with_reducible rfl)
    try simp only [Act.put, List.setIfInBounds_toArray, List.set_cons_zero, List.set_cons_succ]
    refine wpAnyT_take (i := 14) (oi := ?oiz14) (v := ?vz14) ?h1z14 (by kernel_rfl) (by kernel_rfl) (by kernel_rfl) (by kernel_rfl) (fun _ _ _ h => h) ?hyz14 (HeldT.of hHeld) ?_
    case h1z14 => (simp only [List.getElem?_toArray, List.getElem?_cons_succ, List.getElem?_cons_zero]; rfl)
    case hyz14 => first | (refine Or.inr ⟨rfl, ?_⟩; rfl) | (refine Or.inl ⟨rfl, ?_⟩; intro w hSw; (try dsimp only at hSw); go_simp; done) | (refine Or.inl ⟨rfl, ?_⟩; intro w hSw; (try dsimp only at hSw); go_simp; with_reducible rfl)
    try simp only [Act.put, List.setIfInBounds_toArray, List.set_cons_zero, List.set_cons_succ]
    refine wpAnyT_take (i := 15) (oi := ?oiz15) (v := ?vz15) ?h1z15 (by kernel_rfl) (by kernel_rfl) (by kernel_rfl) (by kernel_rfl) (fun _ _ _ h => h) ?hyz15 (HeldT.of hHeld) ?_
    case h1z15 => (simp only [List.getElem?_toArray, List.getElem?_cons_succ, List.getElem?_cons_zero]; rfl)
    case hyz15 => first | (refine Or.inr ⟨rfl, ?_⟩; rfl) | (refine Or.inl ⟨rfl, ?_⟩; intro w hSw; (try dsimp only at hSw); go_simp; done) | (refine Or.inl ⟨rfl, ?_⟩; intro w hSw; (try dsimp only at hSw); go_simp; with_reducible rfl)
    try simp only [Act.put, List.setIfInBounds_toArray, List.set_cons_zero, List.set_cons_succ]
    refine wpAnyT_load 22 (i := 16) (oi := ?oiz16) (v := ?vz16) ?h1z16 (by kernel_rfl) (by kernel_rfl) (by kernel_rfl) (by kernel_rfl) (fun _ _ _ h => h) ?hyz16 (HeldT.of hHeld) ?_
    case h1z16 => (simp only [List.getElem?_toArray, List.getElem?_cons_succ, List.getElem?_cons_zero]; rfl)
    case hyz16 => first | (refine Or.inr ⟨rfl, ?_⟩; rfl) | (refine Or.inl ⟨rfl, ?_⟩; intro w hSw; (try dsimp only at hSw); go_simp; done) | (refine Or.inl ⟨rfl, ?_⟩; intro w hSw; (try dsimp only at hSw); go_simp; with_reducible rfl)
    try simp only [Act.put, List.setIfInBounds_toArray, List.set_cons_zero, List.set_cons_succ]
    refine wpAnyT_ready (rs := [12]) (by kernel_rfl) (by simp) ?_
    refine AllReadyT.cons (o := ?oiz17) ?h1z17 (fun K hK => ?_) ?morez17
    case h1z17 => (simp only [List.getElem?_toArray, List.getElem?_cons_succ, List.getElem?_cons_zero]; rfl)
    case morez17 => exact AllReadyT.nil
    go_simp
    go_at_call 16
    refine HCL.out.mono ?_
    rintro _ w5 ⟨u5, rfl, hu5, hb5⟩
    obtain ⟨A5, C5, rfl, -⟩ := hu5.slice.shape
    obtain ⟨A6, C6, w6, hr6, hp6, htu6, hf6⟩ := HNX.out _ w5 hb5 hu5
    unfold callCells at hr6
    have HR6 := Lib.hid hr6
    have HF6 := Lib.hid hf6
    have hS5 := HS5.out w5 hb5
    have y1 : w6.cell? ⟨p, 1, none⟩ = some (.slice AV n CV) := hp6.cell (i := 1) (by omega)
    have j1 : w6.frozen? ⟨p, 1, none⟩ = false := hp6.frozen 1
    have hS5b := HS5.out _ (hb5.trans ((Below.refl _ _).alloc hb5.size (.cells #[.int .i64 t, .int .i64 x.a, .string x.key, .slice A5 x.data.length C5, .int .i64 (s.mom : Nat), .int .i64 0, .int .i64 0, .int .i64 0, .slice none 0 0, .slice none 0 0] TCall)))
    have hS6 := HS6.out w5 w6 hb5 htu6
    clear hr6 hp6 htu6 hf6 hu5 hb5
    have hHeld := hS5
    refine hK.out _ _ (HeldT.of hHeld) (fun _ => ?_)
    clear hK K
    try simp only [Act.put, List.setIfInBounds_toArray, List.set_cons_zero, List.set_cons_succ]
    refine wpAnyT_take (i := 17) (oi := ?oiz18) (v := ?vz18) ?h1z18 (by kernel_rfl) (by kernel_rfl) (by kernel_rfl) (by kernel_rfl) (fun _ _ _ h => h) ?hyz18 (HeldT.of hHeld) ?_
    case h1z18 => (simp only [List.getElem?_toArray, List.getElem?_cons_succ, List.getElem?_cons_zero]; rfl)
    case hyz18 => first | (refine Or.inr ⟨rfl, ?_⟩; rfl) | (refine Or.inl ⟨rfl, ?_⟩; intro w hSw; (try dsimp only at hSw); go_simp; done) | (refine Or.inl ⟨rfl, ?_⟩; intro w hSw; (try dsimp only at hSw); go_simp; with_reducible rfl)
    try simp only [Act.put, List.setIfInBounds_toArray, List.set_cons_zero, List.set_cons_succ]
    refine wpAnyT_ready (rs := [18]) (by kernel_rfl) (by simp) ?_
    refine AllReadyT.cons (o := ?oiz19) ?h1z19 (fun K hK => ?_) ?morez19
    case h1z19 => (simp only [List.getElem?_toArray, List.getElem?_cons_succ, List.getElem?_cons_zero]; rfl)
    case morez19 => exact AllReadyT.nil
    go_simp
    have hHeld := hS5b
    refine hK.out _ _ (HeldT.of hHeld) (fun _ => ?_)
    clear hK K
    try simp only [Act.put, List.setIfInBounds_toArray, List.set_cons_zero, List.set_cons_succ]
    refine wpAnyT_ready (rs := [19]) (by kernel_rfl) (by simp) ?_
    refine AllReadyT.cons (o := ?oiz20) ?h1z20 (fun K hK => ?_) ?morez20
    case h1z20 => (simp only [List.getElem?_toArray, List.getElem?_cons_succ, List.getElem?_cons_zero]; rfl)
    case morez20 => exact AllReadyT.nil
    refine step_append_run _ _ _ rfl (.tmp 29) (.tmp 43) 26 26 rfl _ _ rfl rfl HR6.out ?_
    have hHeld := hS6
    refine hK.out _ _ (HeldT.of hHeld) (fun _ => ?_)
    clear hK K
    try simp only [Act.put, List.setIfInBounds_toArray, List.set_cons_zero, List.set_cons_succ]
    refine wpAnyT_take (i := 20) (oi := ?oiz21) (v := ?vz21) ?h1z21 (by kernel_rfl) (by kernel_rfl) (by kernel_rfl) (by kernel_rfl) (fun _ _ _ h => h) ?hyz21 (HeldT.of hHeld) ?_
    case h1z21 => (simp only [List.getElem?_toArray, List.getElem?_cons_succ, List.getElem?_cons_zero]; rfl)
    case hyz21 => first | (refine Or.inr ⟨rfl, ?_⟩; rfl) | (refine Or.inl ⟨rfl, ?_⟩; intro w hSw; (try dsimp only at hSw); go_simp; done) | (refine Or.inl ⟨rfl, ?_⟩; intro w hSw; (try dsimp only at hSw); go_simp; with_reducible rfl)
    try simp only [Act.put, List.setIfInBounds_toArray, List.set_cons_zero, List.set_cons_succ]
    refine wpAnyT_take (i := 21) (oi := ?oiz22) (v := ?vz22) ?h1z22 (by kernel_rfl) (by kernel_rfl) (by kernel_rfl) (by kernel_rfl) (fun _ _ _ h => h) ?hyz22 (HeldT.of hHeld) ?_
    case h1z22 => (simp only [List.getElem?_toArray, List.getElem?_cons_succ, List.getElem?_cons_zero]; rfl)
    case hyz22 => first | (refine Or.inr ⟨rfl, ?_⟩; rfl) | (refine Or.inl ⟨rfl, ?_⟩; intro w hSw; (try dsimp only at hSw); go_simp; done) | (refine Or.inl ⟨rfl, ?_⟩; intro w hSw; (try dsimp only at hSw); go_simp; with_reducible rfl)
    try simp only [Act.put, List.setIfInBounds_toArray, List.set_cons_zero, List.set_cons_succ]
    refine wpAnyT_ready (rs := [22]) (by kernel_rfl) (by simp) ?_
    refine AllReadyT.cons (o := ?oiz23) ?h1z23 (fun K hK => ?_) ?morez23
    case h1z23 => (simp only [List.getElem?_toArray, List.getElem?_cons_succ, List.getElem?_cons_zero]; rfl)
    case morez23 => exact AllReadyT.nil
    go_simp
    refine hK.out _ _ (HeldT.over (by kernel_rfl)) (fun _ => ?_)
    clear hK K
    try simp only [Act.put, List.setIfInBounds_toArray, List.set_cons_zero, List.set_cons_succ]
    refine wpAnyT_done (by kernel_rfl) ?_ _
    refine NoPanic.normal ?_
    go_end0
    exact ⟨rfl, HF6.out⟩
  | some b =>
    have hmap1 : MapOf w1 b s := by
      rcases H1.out.map with ⟨q, _⟩ | ⟨b', q, hm⟩
      · cases q
      · cases q
        exact hm
    obtain ⟨hEb1, hbp, hVb1⟩ := H1.out.nm b rfl
    have hBb : ¬ B = b := by have := HH.out.map_lt b rfl; have := HBE.out; omega
    have HMID := Lib.hid (show ∃ f : Unit, w1.rowIs p THist 3 (hc s (some b) (.slice AV n CV)) ∧ BuiltX 10 CallR E w1 TCall (.slice AV n CV) s.calls ∧ MapOf w1 b s ∧ (∀ y, E y → y < w1.heap.size) ∧ ¬ E b ∧ b ≠ p ∧ (Value.slice AV n CV).ownBlock ≠ some b ∧ Turned (foot E p (some b) (.slice AV n CV)) w w1 ∧ (∀ y, foot E p (some b) (.slice AV n CV) y → foot E p (some b) (.slice AV n CV) y ∨ w.heap.size ≤ y) ∧ w1.rowIs B TStep 5 (fun i => #[Value.int .i64 x.kind, .int .i64 x.a, .string x.key, .slice A N C, .int .u64 x.keep].getD i undef) from
      ⟨(), H1.out.head, H1.out.calls, hmap1, H1.out.lt, hEb1, hbp, hVb1, Turned.of_below _ HB1.out, fun y q => .inl q, HROW.out⟩)
    clear hmap1 hEb1 hVb1
    go_enter Try.func13, Try.ntmps13
    go_upto_region 1 with fail
    rw [HW1.out, HBE.out]
    go_upto_region 3 with fail
    clear c2 f2
    obtain ⟨_, hhd, hc2, hmap2, hlt2, hEb, hbp2, hVb, htu2, hgr2, hr2⟩ := HMID.out
    have e1 : w1.cell? ⟨p, 1, none⟩ = some (.slice AV n CV) := hhd.cell (i := 1) (by omega)
    have e2 : w1.cell? ⟨p, 2, none⟩ = some (.map (some b)) := hhd.cell (i := 2) (by omega)
    have HM2 := Lib.hid (hmap2.keep (w' := w1.drew) rfl)
    have HBG := Lib.hid (show ∀ w4, MapOf w4 b (s.start x t) → Turned (fun y => y = b) w1.drew w4 → Beg (foot E p (some b) (.slice AV n CV)) w E p b (.slice AV n CV) s (s.start x t) w4 from fun w4 hm ht => by
      have ht2 : Turned (fun y => y = b) w1 w4 := (Turned.drew _ w1).trans ht (Grown.refl _ _)
      exact ⟨hhd.of_block (ht2.block p hhd.lt (fun q => hbp2 q.symm)), hc2.turned ht2 (fun y q => by subst q; exact ⟨hEb, hVb⟩), hm, fun y q => Nat.lt_of_lt_of_le (hlt2 y q) ht2.size, HH.out.np, hEb, hbp2, hVb, HH.out.vp, htu2.trans (F' := fun y => y = b) ht2 (fun y q => by subst q; exact hgr2 y (.inr (.inr (.inl rfl)))), hgr2, HSU.out⟩)
    have HRB := Lib.hid (show ∀ w4, Turned (fun y => y = b) w1.drew w4 → w4.rowIs B TStep 5 (fun i => #[Value.int .i64 x.kind, .int .i64 x.a, .string x.key, .slice A N C, .int .u64 x.keep].getD i undef) from fun w4 ht => (show w1.drew.rowIs B TStep 5 _ from hr2).of_block (ht.block B hr2.lt hBb))
    clear hhd hc2 hmap2 hlt2 hEb hbp2 hVb htu2 hgr2 hr2
    go_still_tail 10, (by kernel_rfl)
    change wpList _ _ _ _ _ w1.drew
    go_upto_region 4 with (at_mapUpdate; refine wpList_store_task _ rfl _ _ _ rfl b s (s.start x t) HM2.out HSL.out.2.1 HT.out HSL.out.2.2 HSL.out.1 HSF2.out rfl rfl rfl ?_; intro w4 hm4 ht4 hs4)
    have hbg := HBG.out w4 hm4 ht4
    have hr4 := HRB.out w4 ht4
    clear e1 e2 hm4 ht4 hs4
    have e0 : w4.cell? ⟨p, 0, none⟩ = some (.int .i64 (s.mom : Nat)) := hbg.head.cell (i := 0) (by omega)
    have e1 : w4.cell? ⟨p, 1, none⟩ = some (.slice AV n CV) := hbg.head.cell (i := 1) (by omega)
    have b1 : w4.cell? ⟨B, 1, none⟩ = some (.int .i64 x.a) := hr4.cell (i := 1) (by omega)
    have b2 : w4.cell? ⟨B, 2, none⟩ = some (.string x.key) := hr4.cell (i := 2) (by omega)
    have b3 : w4.cell? ⟨B, 3, none⟩ = some (.slice A N C) := hr4.cell (i := 3) (by omega)
    have hby : Bytes w4.drew (.slice A N C) x.data := by
      have := stepV_bytes (HXS.out w4 hbg.tu)
      rw [HN.out] at this
      exact this.below (below_drewN _ _ 1)
    have HCL := Lib.hid (cloneB x.data _ _ hby (by have := HL.out; omega))
    have HNX := Lib.hid (fun (u : Value) (w5 : World) (hb : Below w4.drew.heap.size w4.drew w5) (hu : Built ByteR w5 w4.drew.heap.size 5 u x.data) => beg_next hbg HFEW.out HT.out HXA.out HL.out ((Go.Mem.below_drewN _ w4 1).trans hb) hu (Nat.le_refl _))
    rw [HNC.out] at HNX
    have HR4 := Lib.hid hr4
    have HSW := Lib.hid (show ∀ w' : World, w'.rowIs p THist 3 (hc s (some b) (.slice AV n CV)) → w'.rowIs B TStep 5 (fun i => #[Value.int .i64 x.kind, .int .i64 x.a, .string x.key, .slice A N C, .int .u64 x.keep].getD i undef) → w'.cell? ⟨p, 0, none⟩ = some (.int .i64 (s.mom : Nat)) ∧ w'.cell? ⟨p, 1, none⟩ = some (.slice AV n CV) ∧ w'.cell? ⟨B, 1, none⟩ = some (.int .i64 x.a) ∧ w'.cell? ⟨B, 2, none⟩ = some (.string x.key) ∧ w'.cell? ⟨B, 3, none⟩ = some (.slice A N C) from fun w' h1 h2 => ⟨h1.cell (i := 0) (by omega), h1.cell (i := 1) (by omega), h2.cell (i := 1) (by omega), h2.cell (i := 2) (by omega), h2.cell (i := 3) (by omega)⟩)
    have HS4 := Lib.hid (show ∀ w' : World, Below w4.drew.heap.size w4.drew w' → w'.rowIs p THist 3 (hc s (some b) (.slice AV n CV)) ∧ w'.rowIs B TStep 5 (fun i => #[Value.int .i64 x.kind, .int .i64 x.a, .string x.key, .slice A N C, .int .u64 x.keep].getD i undef) from fun w' hb => ⟨(show w4.drew.rowIs p THist 3 _ from hbg.head).of_block (hb.block p hbg.head.lt), (show w4.drew.rowIs B TStep 5 _ from hr4).of_block (hb.block B hr4.lt)⟩)
    have HS5 := Lib.hid (show ∀ w' : World, Below w4.drew.heap.size w4.drew w' → w'.cell? ⟨p, 0, none⟩ = some (.int .i64 (s.mom : Nat)) ∧ w'.cell? ⟨p, 1, none⟩ = some (.slice AV n CV) ∧ w'.cell? ⟨B, 1, none⟩ = some (.int .i64 x.a) ∧ w'.cell? ⟨B, 2, none⟩ = some (.string x.key) ∧ w'.cell? ⟨B, 3, none⟩ = some (.slice A N C) from fun w' hb => HSW.out w' (HS4.out w' hb).1 (HS4.out w' hb).2)
    have hVB : (Value.slice AV n CV).ownBlock ≠ some B := fun q => by have := HH.out.calls.own_lt B q; have := HBE.out; omega
    have HS6 := Lib.hid (show ∀ w5 w' : World, Below w4.drew.heap.size w4.drew w5 → Turned (fun y => (Value.slice AV n CV).ownBlock = some y) w5 w' → w'.cell? ⟨p, 0, none⟩ = some (.int .i64 (s.mom : Nat)) ∧ w'.cell? ⟨p, 1, none⟩ = some (.slice AV n CV) ∧ w'.cell? ⟨B, 1, none⟩ = some (.int .i64 x.a) ∧ w'.cell? ⟨B, 2, none⟩ = some (.string x.key) ∧ w'.cell? ⟨B, 3, none⟩ = some (.slice A N C) from fun w5 w' hb ht => HSW.out w' ((HS4.out w5 hb).1.of_block (ht.block p (HS4.out w5 hb).1.lt (fun q => hbg.vp q))) ((HS4.out w5 hb).2.of_block (ht.block B (HS4.out w5 hb).2.lt (fun q => hVB q))))
    have hSd := HS5.out _ (Below.refl _ _)
    clear e0 e1 b1 b2 b3 hVB
    clear hbg hr4 hby
    refine wp_region_noPanic ?_
    refine wp_region_till [22] (fun w' => w'.cell? ⟨p, 0, none⟩ = some (.int .i64 (s.mom : Nat)) ∧ w'.cell? ⟨p, 1, none⟩ = some (.slice AV n CV) ∧ w'.cell? ⟨B, 1, none⟩ = some (.int .i64 x.a) ∧ w'.cell? ⟨B, 2, none⟩ = some (.string x.key) ∧ w'.cell? ⟨B, 3, none⟩ = some (.slice A N C)) (by kernel_rfl) hSd (fun _ => ?_)
    have hHeld := hSd
    refine wpAnyT_take (i := 0) (oi := ?oiz24) (v := ?vz24) ?h1z24 (by kernel_rfl) (by kernel_rfl) (by kernel_rfl) (by kernel_rfl) (fun _ _ _ h => h) ?hyz24 (HeldT.of hHeld) ?_
    case h1z24 => (simp only [List.getElem?_toArray, List.getElem?_cons_zero]; rfl)
    case hyz24 => first | (refine Or.inr ⟨rfl, ?_⟩; rfl) | (refine Or.inl ⟨rfl, ?_⟩; intro w hSw; (try dsimp only at hSw); go_simp; done) | (refine Or.inl ⟨rfl, ?_⟩; intro w hSw; (try dsimp only at hSw); go_simp; with_reducible rfl)
    try simp only [Act.put, List.setIfInBounds_toArray, List.set_cons_zero, List.set_cons_succ]
    refine wpAnyT_take (i := 1) (oi := ?oiz25) (v := ?vz25) ?h1z25 (by kernel_rfl) (by kernel_rfl) (by kernel_rfl) (by kernel_rfl) (fun _ _ _ h => h) ?hyz25 (HeldT.of hHeld) ?_
    case h1z25 => (simp only [List.getElem?_toArray, List.getElem?_cons_succ, List.getElem?_cons_zero]; rfl)
    case hyz25 => first | (refine Or.inr ⟨rfl, ?_⟩; rfl) | (refine Or.inl ⟨rfl, ?_⟩; intro w hSw; (try dsimp only at hSw); go_simp; done) | (refine Or.inl ⟨rfl, ?_⟩; intro w hSw; (try dsimp only at hSw); go_simp; with_reducible rfl)
    try simp only [Act.put, List.setIfInBounds_toArray, List.set_cons_zero, List.set_cons_succ]
    refine wpAnyT_take (i := 2) (oi := ?oiz26) (v := ?vz26) ?h1z26 (by kernel_rfl) (by kernel_rfl) (by kernel_rfl) (by kernel_rfl) (fun _ _ _ h => h) ?hyz26 (HeldT.of hHeld) ?_
    case h1z26 => (simp only [List.getElem?_toArray, List.getElem?_cons_succ, List.getElem?_cons_zero]; rfl)
    case hyz26 => first | (refine Or.inr ⟨rfl, ?_⟩; rfl) | (refine Or.inl ⟨rfl, ?_⟩; intro w hSw; (try dsimp only at hSw); go_simp; done) | (refine Or.inl ⟨rfl, ?_⟩; intro w hSw; (try dsimp only at hSw); go_simp; with_reducible rfl)
    try simp only [Act.put, List.setIfInBounds_toArray, List.set_cons_zero, List.set_cons_succ]
    refine wpAnyT_take (i := 3) (oi := ?oiz27) (v := ?vz27) ?h1z27 (by kernel_rfl) (by kernel_rfl) (by kernel_rfl) (by kernel_rfl) (fun _ _ _ h => h) ?hyz27 (HeldT.of hHeld) ?_
    case h1z27 => (simp only [List.getElem?_toArray, List.getElem?_cons_succ, List.getElem?_cons_zero]; rfl)
    case hyz27 => first | (refine Or.inr ⟨rfl, ?_⟩; rfl) | (refine Or.inl ⟨rfl, ?_⟩; intro w hSw; (try dsimp only at hSw); go_simp; done) | (refine Or.inl ⟨rfl, ?_⟩; intro w hSw; (try dsimp only at hSw); go_simp; with_reducible rfl)
    try simp only [Act.put, List.setIfInBounds_toArray, List.set_cons_zero, List.set_cons_succ]
    refine wpAnyT_load 22 (i := 4) (oi := ?oiz28) (v := ?vz28) ?h1z28 (by kernel_rfl) (by kernel_rfl) (by kernel_rfl) (by kernel_rfl) (fun _ _ _ h => h) ?hyz28 (HeldT.of hHeld) ?_
    case h1z28 => (simp only [List.getElem?_toArray, List.getElem?_cons_succ, List.getElem?_cons_zero]; rfl)
    case hyz28 => first | (refine Or.inr ⟨rfl, ?_⟩; rfl) | (refine Or.inl ⟨rfl, ?_⟩; intro w hSw; (try dsimp only at hSw); go_simp; done) | (refine Or.inl ⟨rfl, ?_⟩; intro w hSw; (try dsimp only at hSw); go_simp; with_reducible rfl)
    try simp only [Act.put, List.setIfInBounds_toArray, List.set_cons_zero, List.set_cons_succ]
    refine wpAnyT_take (i := 5) (oi := ?oiz29) (v := ?vz29) ?h1z29 (by kernel_rfl) (by kernel_rfl) (by kernel_rfl) (by kernel_rfl) (fun _ _ _ h => h) ?hyz29 (HeldT.of hHeld) ?_
    case h1z29 => (simp only [List.getElem?_toArray, List.getElem?_cons_succ, List.getElem?_cons_zero]; rfl)
    case hyz29 => first | (refine Or.inr ⟨rfl, ?_⟩; rfl) | (refine Or.inl ⟨rfl, ?_⟩; intro w hSw; (try dsimp only at hSw); go_simp; done) | (refine Or.inl ⟨rfl, ?_⟩; intro w hSw; (try dsimp only at hSw); go_simp; with_reducible rfl)
    try simp only [Act.put, List.setIfInBounds_toArray, List.set_cons_zero, List.set_cons_succ]
    refine wpAnyT_take (i := 6) (oi := ?oiz30) (v := ?vz30) ?h1z30 (by kernel_rfl) (by kernel_rfl) (by kernel_rfl) (by kernel_rfl) (fun _ _ _ h => h) ?hyz30 (HeldT.of hHeld) ?_
    case h1z30 => (simp only [List.getElem?_toArray, List.getElem?_cons_succ, List.getElem?_cons_zero]; rfl)
    case hyz30 => first | (refine Or.inr ⟨rfl, ?_⟩; rfl) | (refine Or.inl ⟨rfl, ?_⟩; intro w hSw; (try dsimp only at hSw); go_simp; done) | (refine Or.inl ⟨rfl, ?_⟩; intro w hSw; (try dsimp only at hSw); go_simp; with_reducible rfl)
    try simp only [Act.put, List.setIfInBounds_toArray, List.set_cons_zero, List.set_cons_succ]
    refine wpAnyT_load 22 (i := 7) (oi := ?oiz31) (v := ?vz31) ?h1z31 (by kernel_rfl) (by kernel_rfl) (by kernel_rfl) (by kernel_rfl) (fun _ _ _ h => h) ?hyz31 (HeldT.of hHeld) ?_
    case h1z31 => (simp only [List.getElem?_toArray, List.getElem?_cons_succ, List.getElem?_cons_zero]; rfl)
    case hyz31 => first | (refine Or.inr ⟨rfl, ?_⟩; rfl) | (refine Or.inl ⟨rfl, ?_⟩; intro w hSw; (try dsimp only at hSw); go_simp; done) | (refine Or.inl ⟨rfl, ?_⟩; intro w hSw; (try dsimp only at hSw); go_simp; with_reducible rfl)
    try simp only [Act.put, List.setIfInBounds_toArray, List.set_cons_zero, List.set_cons_succ]
    refine wpAnyT_take (i := 8) (oi := ?oiz32) (v := ?vz32) ?h1z32 (by kernel_rfl) (by kernel_rfl) (by kernel_rfl) (by kernel_rfl) (fun _ _ _ h => h) ?hyz32 (HeldT.of hHeld) ?_
    case h1z32 => (simp only [List.getElem?_toArray, List.getElem?_cons_succ, List.getElem?_cons_zero]; rfl)
    case hyz32 => first | (refine Or.inr ⟨rfl, ?_⟩; rfl) | (refine Or.inl ⟨rfl, ?_⟩; intro w hSw; (try dsimp only at hSw); go_simp; done) | (refine Or.inl ⟨rfl, ?_⟩; intro w hSw; (try dsimp only at hSw); go_simp; with_reducible rfl)
    try simp only [Act.put, List.setIfInBounds_toArray, List.set_cons_zero, List.set_cons_succ]
    refine wpAnyT_load 22 (i := 9) (oi := ?oiz33) (v := ?vz33) ?h1z33 (by kernel_rfl) (by kernel_rfl) (by kernel_rfl) (by kernel_rfl) (fun _ _ _ h => h) ?hyz33 (HeldT.of hHeld) ?_
    case h1z33 => (simp only [List.getElem?_toArray, List.getElem?_cons_succ, List.getElem?_cons_zero]; rfl)
    case hyz33 => first | (refine Or.inr ⟨rfl, ?_⟩; rfl) | (refine Or.inl ⟨rfl, ?_⟩; intro w hSw; (try dsimp only at hSw); go_simp; done) | (refine Or.inl ⟨rfl, ?_⟩; intro w hSw; (try dsimp only at hSw); go_simp; with_reducible rfl)
    try simp only [Act.put, List.setIfInBounds_toArray, List.set_cons_zero, List.set_cons_succ]
    refine wpAnyT_take (i := 10) (oi := ?oiz34) (v := ?vz34) ?h1z34 (by kernel_rfl) (by kernel_rfl) (by kernel_rfl) (by kernel_rfl) (fun _ _ _ h => h) ?hyz34 (HeldT.of hHeld) ?_
    case h1z34 => (simp only [List.getElem?_toArray, List.getElem?_cons_succ, List.getElem?_cons_zero]; rfl)
    case hyz34 => first | (refine Or.inr ⟨rfl, ?_⟩; rfl) | (refine Or.inl ⟨rfl, ?_⟩; intro w hSw; (try dsimp only at hSw); go_simp; done) | (refine Or.inl ⟨rfl, ?_⟩; intro w hSw; (try dsimp only at hSw); go_simp; with_reducible rfl)
    try simp only [Act.put, List.setIfInBounds_toArray, List.set_cons_zero, List.set_cons_succ]
    refine wpAnyT_load 22 (i := 11) (oi := ?oiz35) (v := ?vz35) ?h1z35 (by kernel_rfl) (by kernel_rfl) (by kernel_rfl) (by kernel_rfl) (fun _ _ _ h => h) ?hyz35 (HeldT.of hHeld) ?_
    case h1z35 => (simp only [List.getElem?_toArray, List.getElem?_cons_succ, List.getElem?_cons_zero]; rfl)
    case hyz35 => first | (refine Or.inr ⟨rfl, ?_⟩; rfl) | (refine Or.inl ⟨rfl, ?_⟩; intro w hSw; (try dsimp only at hSw); go_simp; done) | (refine Or.inl ⟨rfl, ?_⟩; intro w hSw; (try dsimp only at hSw); go_simp; with_reducible rfl)
    try simp only [Act.put, List.setIfInBounds_toArray, List.set_cons_zero, List.set_cons_succ]
    refine wpAnyT_take (i := 13) (oi := ?oiz36) (v := ?vz36) ?h1z36 (by kernel_rfl) (by kernel_rfl) (by kernel_rfl) (by kernel_rfl) (fun _ _ _ h => h) ?hyz36 (HeldT.of hHeld) ?_
    case h1z36 => (simp only [List.getElem?_toArray, List.getElem?_cons_succ, List.getElem?_cons_zero]; rfl)
    case hyz36 => first | (refine Or.inr ⟨rfl, ?_⟩; rfl) | (refine Or.inl ⟨rfl, ?_⟩; intro w hSw; (try dsimp only at hSw); go_simp; done) | (refine Or.inl ⟨rfl, ?_⟩; intro w hSw; (try dsimp only at hSw); go_simp; with_reducible rfl)
    try simp only [Act.put, List.setIfInBounds_toArray, List.set_cons_zero, List.set_cons_succ]
    refine wpAnyT_take (i := 14) (oi := ?oiz37) (v := ?vz37) ?h1z37 (by kernel_rfl) (by kernel_rfl) (by kernel_rfl) (by kernel_rfl) (fun _ _ _ h => h) ?hyz37 (HeldT.of hHeld) ?_
    case h1z37 => (simp only [List.getElem?_toArray, List.getElem?_cons_succ, List.getElem?_cons_zero]; rfl)
    case hyz37 => first | (refine Or.inr ⟨rfl, ?_⟩; rfl) | (refine Or.inl ⟨rfl, ?_⟩; intro w hSw; (try dsimp only at hSw); go_simp; done) | (refine Or.inl ⟨rfl, ?_⟩; intro w hSw; (try dsimp only at hSw); go_simp; with_reducible rfl)
    try simp only [Act.put, List.setIfInBounds_toArray, List.set_cons_zero, List.set_cons_succ]
    refine wpAnyT_take (i := 15) (oi := ?oiz38) (v := ?vz38) ?h1z38 (by kernel_rfl) (by kernel_rfl) (by kernel_rfl) (by kernel_rfl) (fun _ _ _ h => h) ?hyz38 (HeldT.of hHeld) ?_
    case h1z38 => (simp only [List.getElem?_toArray, List.getElem?_cons_succ, List.getElem?_cons_zero]; rfl)
    case hyz38 => first | (refine Or.inr ⟨rfl, ?_⟩; rfl) | (refine Or.inl ⟨rfl, ?_⟩; intro w hSw; (try dsimp only at hSw); go_simp; done) | (refine Or.inl ⟨rfl, ?_⟩; intro w hSw; (try dsimp only at hSw); go_simp; with_reducible rfl)
    try simp only [Act.put, List.setIfInBounds_toArray, List.set_cons_zero, List.set_cons_succ]
    refine wpAnyT_load 22 (i := 16) (oi := ?oiz39) (v := ?vz39) ?h1z39 (by kernel_rfl) (by kernel_rfl) (by kernel_rfl) (by kernel_rfl) (fun _ _ _ h => h) ?hyz39 (HeldT.of hHeld) ?_
    case h1z39 => (simp only [List.getElem?_toArray, List.getElem?_cons_succ, List.getElem?_cons_zero]; rfl)
    case hyz39 => first | (refine Or.inr ⟨rfl, ?_⟩; rfl) | (refine Or.inl ⟨rfl, ?_⟩; intro w hSw; (try dsimp only at hSw); go_simp; done) | (refine Or.inl ⟨rfl, ?_⟩; intro w hSw; (try dsimp only at hSw); go_simp; with_reducible rfl)
    try simp only [Act.put, List.setIfInBounds_toArray, List.set_cons_zero, List.set_cons_succ]
    refine wpAnyT_ready (rs := [12]) (by kernel_rfl) (by simp) ?_
    refine AllReadyT.cons (o := ?oiz40) ?h1z40 (fun K hK => ?_) ?morez40
    case h1z40 => (simp only [List.getElem?_toArray, List.getElem?_cons_succ, List.getElem?_cons_zero]; rfl)
    case morez40 => exact AllReadyT.nil
    go_simp
    go_at_call 16
    refine HCL.out.mono ?_
    rintro _ w5 ⟨u5, rfl, hu5, hb5⟩
    obtain ⟨A5, C5, rfl, -⟩ := hu5.slice.shape
    obtain ⟨A6, C6, w6, hr6, hp6, htu6, hf6⟩ := HNX.out _ w5 hb5 hu5
    unfold callCells at hr6
    have HR6 := Lib.hid hr6
    have HF6 := Lib.hid hf6
    have hS5 := HS5.out w5 hb5
    have y1 : w6.cell? ⟨p, 1, none⟩ = some (.slice AV n CV) := hp6.cell (i := 1) (by omega)
    have j1 : w6.frozen? ⟨p, 1, none⟩ = false := hp6.frozen 1
    have hS5b := HS5.out _ (hb5.trans ((Below.refl _ _).alloc hb5.size (.cells #[.int .i64 t, .int .i64 x.a, .string x.key, .slice A5 x.data.length C5, .int .i64 (s.mom : Nat), .int .i64 0, .int .i64 0, .int .i64 0, .slice none 0 0, .slice none 0 0] TCall)))
    have hS6 := HS6.out w5 w6 hb5 htu6
    clear hr6 hp6 htu6 hf6 hu5 hb5
    have hHeld := hS5
    refine hK.out _ _ (HeldT.of hHeld) (fun _ => ?_)
    clear hK K
    try simp only [Act.put, List.setIfInBounds_toArray, List.set_cons_zero, List.set_cons_succ]
    refine wpAnyT_take (i := 17) (oi := ?oiz41) (v := ?vz41) ?h1z41 (by kernel_rfl) (by kernel_rfl) (by kernel_rfl) (by kernel_rfl) (fun _ _ _ h => h) ?hyz41 (HeldT.of hHeld) ?_
    case h1z41 => (simp only [List.getElem?_toArray, List.getElem?_cons_succ, List.getElem?_cons_zero]; rfl)
    case hyz41 => first | (refine Or.inr ⟨rfl, ?_⟩; rfl) | (refine Or.inl ⟨rfl, ?_⟩; intro w hSw; (try dsimp only at hSw); go_simp; done) | (refine Or.inl ⟨rfl, ?_⟩; intro w hSw; (try dsimp only at hSw); go_simp; with_reducible rfl)
    try simp only [Act.put, List.setIfInBounds_toArray, List.set_cons_zero, List.set_cons_succ]
    refine wpAnyT_ready (rs := [18]) (by kernel_rfl) (by simp) ?_
    refine AllReadyT.cons (o := ?oiz42) ?h1z42 (fun K hK => ?_) ?morez42
    case h1z42 => (simp only [List.getElem?_toArray, List.getElem?_cons_succ, List.getElem?_cons_zero]; rfl)
    case morez42 => exact AllReadyT.nil
    go_simp
    have hHeld := hS5b
    refine hK.out _ _ (HeldT.of hHeld) (fun _ => ?_)
    clear hK K
    try simp only [Act.put, List.setIfInBounds_toArray, List.set_cons_zero, List.set_cons_succ]
    refine wpAnyT_ready (rs := [19]) (by kernel_rfl) (by simp) ?_
    refine AllReadyT.cons (o := ?oiz43) ?h1z43 (fun K hK => ?_) ?morez43
    case h1z43 => (simp only [List.getElem?_toArray, List.getElem?_cons_succ, List.getElem?_cons_zero]; rfl)
    case morez43 => exact AllReadyT.nil
    refine step_append_run _ _ _ rfl (.tmp 29) (.tmp 43) 26 26 rfl _ _ rfl rfl HR6.out ?_
    have hHeld := hS6
    refine hK.out _ _ (HeldT.of hHeld) (fun _ => ?_)
    clear hK K
    try simp only [Act.put, List.setIfInBounds_toArray, List.set_cons_zero, List.set_cons_succ]
    refine wpAnyT_take (i := 20) (oi := ?oiz44) (v := ?vz44) ?h1z44 (by kernel_rfl) (by kernel_rfl) (by kernel_rfl) (by kernel_rfl) (fun _ _ _ h => h) ?hyz44 (HeldT.of hHeld) ?_
    case h1z44 => (simp only [List.getElem?_toArray, List.getElem?_cons_succ, List.getElem?_cons_zero]; rfl)
    case hyz44 => first | (refine Or.inr ⟨rfl, ?_⟩; rfl) | (refine Or.inl ⟨rfl, ?_⟩; intro w hSw; (try dsimp only at hSw); go_simp; done) | (refine Or.inl ⟨rfl, ?_⟩; intro w hSw; (try dsimp only at hSw); go_simp; with_reducible rfl)
    try simp only [Act.put, List.setIfInBounds_toArray, List.set_cons_zero, List.set_cons_succ]
    refine wpAnyT_take (i := 21) (oi := ?oiz45) (v := ?vz45) ?h1z45 (by kernel_rfl) (by kernel_rfl) (by kernel_rfl) (by kernel_rfl) (fun _ _ _ h => h) ?hyz45 (HeldT.of hHeld) ?_
    case h1z45 => (simp only [List.getElem?_toArray, List.getElem?_cons_succ, List.getElem?_cons_zero]; rfl)
    case hyz45 => first | (refine Or.inr ⟨rfl, ?_⟩; rfl) | (refine Or.inl ⟨rfl, ?_⟩; intro w hSw; (try dsimp only at hSw); go_simp; done) | (refine Or.inl ⟨rfl, ?_⟩; intro w hSw; (try dsimp only at hSw); go_simp; with_reducible rfl)
    try simp only [Act.put, List.setIfInBounds_toArray, List.set_cons_zero, List.set_cons_succ]
    refine wpAnyT_ready (rs := [22]) (by kernel_rfl) (by simp) ?_
    refine AllReadyT.cons (o := ?oiz46) ?h1z46 (fun K hK => ?_) ?morez46
    case h1z46 => (simp only [List.getElem?_toArray, List.getElem?_cons_succ, List.getElem?_cons_zero]; rfl)
    case morez46 => exact AllReadyT.nil
    go_simp
    refine hK.out _ _ (HeldT.over (by kernel_rfl)) (fun _ => ?_)
    clear hK K
    try simp only [Act.put, List.setIfInBounds_toArray, List.set_cons_zero, List.set_cons_succ]
    refine wpAnyT_done (by kernel_rfl) ?_ _
    refine NoPanic.normal ?_
    go_end0
    exact ⟨rfl, HF6.out⟩
end Go.Proofs.Ytcljpniknpgmpaa.Hst
