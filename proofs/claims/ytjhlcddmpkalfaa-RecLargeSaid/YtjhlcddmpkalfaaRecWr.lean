/- The program's own writer of records' bytes: its state in memory, beside memory that stays. -/
import Derived.Test.YtjhlcddmpkalfaaRecI
import Derived.Test.YtjhlcddmpkalfaaShelf
namespace Go.Proofs.Ytjhlcddmpkalfaa.Rec
set_option linter.unusedVariables false
open Go.ChangeShapes Go.WideShapes Go.ChangeAt Go.RowKit
open Go.Mem RecM
/-- bytes that are written, in memory, in blocks of F -/
structure WrAt (w : World) (F : Nat → Prop) (p : Nat) (v : Value) (o : Out) : Prop where
  head : w.rowIs p 47 2 (ofld v o.bad)
  row : Built ByteR w 0 5 v o.l
  ne : v.ownBlock ≠ some p
  fp : F p
  own : ∀ b, v.ownBlock = some b → F b
  lt : ∀ b, F b → b < w.heap.size
def RWr (w : World) (F : Nat → Prop) (p : Nat) (o : Out) : Prop := ∃ v, WrAt w F p v o
/-- .. and what a call does to them -/
def Wrot (F : Nat → Prop) (p : Nat) (o : Out) (w w' : World) : Prop := ∃ F', RWr w' F' p o ∧ Turned F w w' ∧ Grown F F' w
theorem Wrot.trans {F F' : Nat → Prop} {p : Nat} {o : Out} {w w' w'' : World} (ht : Turned F w w') (hg : Grown F F' w) (h : Wrot F' p o w' w'') : Wrot F p o w w'' := by
  obtain ⟨F2, h1, h2, h3⟩ := h
  exact ⟨F2, h1, ht.trans h2 hg, hg.trans h3 ht.size⟩
section
variable {w w' : World} {F G : Nat → Prop} {p : Nat} {v : Value} {o : Out}
theorem WrAt.cells (h : WrAt w F p v o) : w.cell? ⟨p, 0, none⟩ = some v ∧ w.cell? ⟨p, 1, none⟩ = some (.bool o.bad) := ⟨h.head.cell (i := 0) (by omega), h.head.cell (i := 1) (by omega)⟩
theorem WrAt.free (h : WrAt w F p v o) (i : Nat) : w.frozen? ⟨p, i, none⟩ = false := h.head.frozen i
theorem WrAt.same (h : WrAt w F p v o) (hs : ∀ b, F b → w'.heap[b]? = w.heap[b]?) (hz : w.heap.size ≤ w'.heap.size) : WrAt w' F p v o :=
  ⟨h.head.of_block (hs p h.fp), built_same h.row (fun b hb => hs b (h.own b hb)), h.ne, h.fp, h.own, fun b hb => Nat.lt_of_lt_of_le (h.lt b hb) hz⟩
theorem WrAt.turned (h : WrAt w F p v o) (ht : Turned G w w') (hd : ∀ b, G b → ¬ F b) : WrAt w' F p v o := h.same (ht.stay h.lt hd) ht.size
theorem WrAt.below (h : WrAt w F p v o) (hb : Below w.heap.size w w') : WrAt w' F p v o := h.same (fun b q => hb.block b (h.lt b q)) hb.size
theorem RWr.below (h : RWr w F p o) (hb : Below w.heap.size w w') : RWr w' F p o := by
  obtain ⟨v, h⟩ := h
  exact ⟨v, h.below hb⟩
theorem RWr.lt (h : RWr w F p o) : ∀ b, F b → b < w.heap.size := by
  obtain ⟨v, h⟩ := h
  exact h.lt
/-- it says that something may not be -/
theorem WrAt.spoil (h : WrAt w F p v o) : Wrot F p ⟨o.l, true⟩ w (w.setCell ⟨p, 1, none⟩ (.bool true)) := by
  have hot : ∀ b, b ≠ p → (w.setCell ⟨p, 1, none⟩ (.bool true)).heap[b]? = w.heap[b]? := fun b hb => Below.heap_setCell _ _ _ _ (fun q => hb q)
  refine ⟨F, ⟨v, (h.head.set 1 (.bool true)).congr fun i hi => ?_, built_same h.row (fun b hb => hot b (fun e => h.ne (by rw [hb, e]))), h.ne, h.fp, h.own, (fun b hb => by simpa [World.setCell] using h.lt b hb)⟩, Turned.set _ h.fp, Grown.refl _ _⟩
  unfold ofld
  rcases (by omega : i = 0 ∨ i = 1) with rfl | rfl <;> rfl
/-- it gets more bytes -/
theorem WrAt.more (h : WrAt w F p v o) {w1 w2 : World} {v2 : Value} {m : List Nat} (h1 : Below w.heap.size w w1) (h2 : Built ByteR w2 0 5 v2 (o.l ++ m)) (hg : w1.grownBy w2 v.ownBlock) (hat : v2.ownBlock = v.ownBlock ∨ v2.ownBlock = some w1.heap.size) :
    Wrot F p ⟨o.l ++ m, o.bad⟩ w (w2.setCell ⟨p, 0, none⟩ v2) := by
  have hp1 : p < w1.heap.size := Nat.lt_of_lt_of_le (h.lt p h.fp) h1.size
  have hrow : w2.rowIs p 47 2 (ofld v o.bad) := (h.below h1).head.of_block (hg.block p hp1 (fun e => h.ne e.symm))
  have hne : v2.ownBlock ≠ some p := by
    rcases hat with e | e
    · rw [e]; exact h.ne
    · rw [e]; intro q; injection q with q; omega
  have hot : ∀ b, b ≠ p → (w2.setCell ⟨p, 0, none⟩ v2).heap[b]? = w2.heap[b]? := fun b hb => Below.heap_setCell _ _ _ _ (fun q => hb q)
  have hsz := h1.size
  have hsz2 := hg.size
  refine ⟨fun b => F b ∨ v2.ownBlock = some b, ⟨v2, (hrow.set 0 v2).congr fun i hi => ?_, built_same h2 (fun b hb => hot b (fun e => hne (by rw [hb, e]))), hne, .inl h.fp, fun b hb => .inr hb, fun b hb => ?_⟩, ?_, fun b hb => ?_⟩
  · unfold ofld
    rcases (by omega : i = 0 ∨ i = 1) with rfl | rfl <;> rfl
  · have : b < w2.heap.size := by
      rcases hb with q | q
      · have := h.lt b q; omega
      · exact (h2.own_lt b q).2
    simpa [World.setCell] using this
  · have t1 : Turned F w w1 := Turned.of_below F h1
    have t2 : Turned F w1 w2 := Turned.grown hg h.own
    exact (t1.trans t2 (Grown.refl _ _)).trans (Turned.set _ h.fp) (Grown.refl _ _)
  · rcases hb with q | q
    · exact .inl q
    · rcases hat with e | e
      · rw [e] at q; exact .inl (h.own b q)
      · rw [e] at q; injection q with q; right; omega
end
/-- bytes are being written at p; the blocks of S stand as they did in Ws -/
structure WRun (S : Nat → Prop) (Ws : World) (p : Nat) (o : Out) (w : World) : Prop where
  ex : ∃ F, RWr w F p o ∧ ∀ b, S b → ¬ F b
  b0 : Below 0 Ws w
  st : ∀ b, S b → b < Ws.heap.size ∧ w.heap[b]? = Ws.heap[b]?
section
variable {S T : Nat → Prop} {Ws W0 w w' : World} {p : Nat} {o o' : Out}
theorem WRun.bel (h : WRun S Ws p o w) {B : Nat} (hB : ∀ b, b < B → S b) : Below B Ws w := ⟨h.b0.os, h.b0.tape, h.b0.output, h.b0.size, fun b hb => (h.st b (hB b hb)).2⟩
theorem WRun.step (hr : WRun S Ws p o w) {P : Program} {f : FuncId} {args : Array Value} (hc : ∀ F, RWr w F p o → (∀ b, S b → ¬ F b) → Calls P f args w fun e w' => e = .returned (.tuple #[]) ∧ Wrot F p o' w w') :
    Calls P f args w fun e w' => e = .returned (.tuple #[]) ∧ WRun S Ws p o' w' := by
  obtain ⟨F, h1, h2⟩ := hr.ex
  have hr' := hr
  refine (hc F h1 h2).mono fun e w' ⟨he, hw⟩ => ⟨he, ?_⟩
  obtain ⟨_, h3, h4⟩ := hr'
  obtain ⟨F', k1, k2, k3⟩ := hw
  have hz := h3.size
  refine ⟨⟨F', k1, fun b hS hF' => ?_⟩, ⟨k2.os.trans h3.os, k2.tape.trans h3.tape, k2.output.trans h3.output, Nat.le_trans hz k2.size, fun b hb => absurd hb (by omega)⟩, fun b hS => ⟨(h4 b hS).1, ?_⟩⟩
  · rcases k3 b hF' with q | q
    · exact h2 b hS q
    · have := (h4 b hS).1; omega
  · have hb := (h4 b hS).1
    exact (k2.block b (Nat.lt_of_lt_of_le hb hz) (h2 b hS)).trans (h4 b hS).2
theorem WRun.below (hr : WRun S Ws p o w) (hb : Below w.heap.size w w') : WRun S Ws p o w' := by
  obtain ⟨⟨F, h1, h2⟩, h3, h4⟩ := hr
  have hz := h3.size
  exact ⟨⟨F, h1.below hb, h2⟩, h3.trans (hb.mono (Nat.zero_le _)), fun b hS => ⟨(h4 b hS).1, (hb.block b (by have := (h4 b hS).1; omega)).trans (h4 b hS).2⟩⟩
/-- a block more that stays: one that is new -/
theorem WRun.beside (hr : WRun S Ws p o w) (hb : Below w.heap.size w w') {g : Nat} (hg : w.heap.size ≤ g) (hg' : g < w'.heap.size) : WRun (fun b => S b ∨ b = g) w' p o w' := by
  obtain ⟨⟨F, h1, h2⟩, h3, h4⟩ := hr
  have hz := h3.size
  have hz2 := hb.size
  refine ⟨⟨F, h1.below hb, fun b hS hF => ?_⟩, Below.refl _ _, fun b hS => ⟨?_, rfl⟩⟩
  · rcases hS with q | q
    · exact h2 b q hF
    · have := h1.lt b hF; omega
  · rcases hS with q | q
    · have := (h4 b q).1; omega
    · omega
theorem WRun.back (hr : WRun S Ws p o w) (hr2 : WRun (fun b => S b ∨ T b) w p o' w') : WRun S Ws p o' w' := by
  obtain ⟨_, h3, h4⟩ := hr
  obtain ⟨⟨F, k1, k2⟩, k3, k4⟩ := hr2
  exact ⟨⟨F, k1, fun b hS => k2 b (.inl hS)⟩, h3.trans (k3.mono (Nat.le_refl _)), fun b hS => ⟨(h4 b hS).1, (k4 b (.inl hS)).2.trans (h4 b hS).2⟩⟩
/-- its cells -/
theorem WRun.open (hr : WRun S Ws p o w) : ∃ A C, w.cell? ⟨p, 0, none⟩ = some (.slice A o.l.length C) ∧ w.cell? ⟨p, 1, none⟩ = some (.bool o.bad) ∧ Bytes w (.slice A o.l.length C) o.l ∧ p < w.heap.size := by
  obtain ⟨⟨F, ⟨v, h⟩, _⟩, _, _⟩ := hr
  obtain ⟨A, C, e, _⟩ := h.row.len
  subst e
  exact ⟨A, C, h.cells.1, h.cells.2, h.row.slice, h.lt p h.fp⟩
/-- a new one -/
theorem WRun.fresh (w : World) : WRun (fun b => b < w.heap.size) w w.heap.size o0 (w.alloc (.cells #[.slice none 0 0, .bool false] 47)) := by
  have h := World.rowIs_alloc w #[.slice none 0 0, .bool false] 47 (ofld (.slice none 0 0) false) (fun i hi => by
    have : i < 2 := hi
    rcases (by omega : i = 0 ∨ i = 1) with rfl | rfl <;> rfl)
  refine ⟨⟨fun b => b = w.heap.size, ⟨.slice none 0 0, h, Built.start _ _ _, (fun q => by cases q), rfl, (fun b q => by cases q), fun b q => by subst q; simp⟩, fun b hb q => by omega⟩, (Below.refl _ _).alloc (Nat.zero_le _) _, fun b hb => ⟨hb, Go.heap_alloc_old w _ hb⟩⟩
end
theorem wkept {S : Nat → Prop} {Ws w : World} {p : Nat} {o : Out} (h : WRun S Ws p o w) {g i : Nat} {v : Value} (hg : S g) (hc : Ws.cell? ⟨g, i, none⟩ = some v) : w.cell? ⟨g, i, none⟩ = some v :=
  (World.cell?_of_block (w := Ws) (a := ⟨g, i, none⟩) (h.st g hg).2).trans hc
/-- what a call does to what is written: E, if it may be -/
structure Did (q : Out) (ok : Prop) (E : List Nat) (q' : Out) : Prop where
  bad : q'.bad = true ↔ q.bad = true ∨ ¬ ok
  fit : q.bad = false → ok → q.l.length + E.length ≤ 8192 → q'.l = q.l ++ E
  big : q.bad = false → ok → 8192 < q.l.length + E.length → 8192 < q'.l.length
  len : q.l.length ≤ 8208 → q'.l.length ≤ 8208
theorem Did.good {q q' : Out} {ok : Prop} {E : List Nat} (h : Did q ok E q') (hb : q.bad = false) (hk : ok) : q'.bad = false := by
  cases hq : q'.bad with
  | false => rfl
  | true =>
    rcases h.bad.1 hq with x | x
    · rw [hb] at x; cases x
    · exact absurd hk x
theorem Did.comp {q q1 q2 : Out} {ok ok2 : Prop} {E E2 : List Nat} (h : Did q ok E q1) (k : Did q1 ok2 E2 q2) : Did q (ok ∧ ok2) (E ++ E2) q2 := by
  refine ⟨?_, fun hb ⟨h1, h2⟩ hl => ?_, fun hb ⟨h1, h2⟩ hl => ?_, fun hl => k.len (h.len hl)⟩
  · rw [k.bad, h.bad]
    by_cases a : ok <;> by_cases b : ok2 <;> simp [a, b]
  · rw [List.length_append] at hl
    have e := h.fit hb h1 (by omega)
    rw [k.fit (h.good hb h1) h2 (by rw [e, List.length_append]; omega), e, List.append_assoc]
  · rw [List.length_append] at hl
    by_cases hs : q.l.length + E.length ≤ 8192
    · have e := h.fit hb h1 hs
      exact k.big (h.good hb h1) h2 (by rw [e, List.length_append]; omega)
    · have e := h.big hb h1 (by omega)
      by_cases hs2 : q1.l.length + E2.length ≤ 8192
      · omega
      · exact k.big (h.good hb h1) h2 (by omega)
theorem Did.same {q q' : Out} {ok ok' : Prop} {E E' : List Nat} (h : Did q ok E q') (h1 : ok ↔ ok') (h2 : E = E') : Did q ok' E' q' := by
  subst h2
  rw [propext h1] at h
  exact h
/-- the program's add -/
def padd (m : List Nat) (q : Out) : Out := if q.bad = false ∧ q.l.length ≤ 8192 then ⟨q.l ++ m, false⟩ else q
theorem padd_yes {m : List Nat} {q : Out} (h : q.bad = false) (hl : q.l.length ≤ 8192) : padd m q = ⟨q.l ++ m, q.bad⟩ := by unfold padd; rw [if_pos ⟨h, hl⟩, h]
theorem padd_no {m : List Nat} {q : Out} (h : ¬ (q.bad = false ∧ q.l.length ≤ 8192)) : padd m q = q := by unfold padd; rw [if_neg h]
theorem padd_did {m : List Nat} {q : Out} (hm : m.length ≤ 16) : Did q True m (padd m q) := by
  by_cases h : q.bad = false ∧ q.l.length ≤ 8192
  · rw [padd_yes h.1 h.2]
    refine ⟨by simp, fun _ _ _ => rfl, fun _ _ hl => ?_, fun _ => ?_⟩
    · show 8192 < (q.l ++ m).length; rw [List.length_append]; exact hl
    · show (q.l ++ m).length ≤ 8208; rw [List.length_append]; have := h.2; omega
  · rw [padd_no h]
    refine ⟨by simp, fun hb _ hl => ?_, fun hb _ hl => ?_, id⟩
    · exact absurd ⟨hb, by omega⟩ h
    · have : ¬ q.l.length ≤ 8192 := fun x => h ⟨hb, x⟩
      omega
theorem padd_bad {m : List Nat} {q : Out} (h : q.bad = true) : padd m q = q := padd_no (fun x => by rw [h] at x; cases x.1)
def WDid (S : Nat → Prop) (Ws : World) (p : Nat) (q : Out) (ok : Prop) (E : List Nat) (e : Ending) (w' : World) : Prop := e = .returned (.tuple #[]) ∧ ∃ q', WRun S Ws p q' w' ∧ Did q ok E q'
set_option maxHeartbeats 1000000 in
theorem addC {S : Nat → Prop} {Ws w : World} {p : Nat} {q : Out} (h : WRun S Ws p q w) (m : List Nat) (v : Value) (hv : Bytes w v m) (hq : q.l.length ≤ 8208) (hm : m.length ≤ 16) :
    Calls Try.prog 47 #[.pointer (some ⟨p, 0, none⟩), v] w fun e w' => e = .returned (.tuple #[]) ∧ WRun S Ws p (padd m q) w' := by
  refine h.step fun F ⟨x, hat⟩ _ => ?_
  obtain ⟨A, C, rfl, g1, g2, -⟩ := hv.shape
  have hlt := hat.lt p hat.fp
  obtain ⟨c0, c1⟩ := hat.cells
  have f0 := hat.free 0
  have H := Lib.hid hat
  have HV := Lib.hid hv
  have HBU := Lib.hid hat.row
  obtain ⟨A1, C1, e1, k1, k2⟩ := hat.row.len
  obtain ⟨M, hM⟩ : ∃ M, q.l.length = M := ⟨_, rfl⟩
  rw [hM] at e1 k1 hq
  subst e1
  have HM := Lib.hid hM
  by_cases hy : q.bad = false ∧ q.l.length ≤ 8192
  · have HE := Lib.hid (padd_yes (m := m) hy.1 hy.2)
    have hb : q.bad = false := hy.1
    rw [hb] at c1
    have hM2 : M ≤ 8192 := by have := hy.2; omega
    have hd : decide (M ≤ 8192) = true := by simpa using hM2
    obtain ⟨N, hN⟩ : ∃ N, m.length = N := ⟨_, rfl⟩
    have HN := Lib.hid hN
    rw [hN] at g1 HV hm ⊢
    clear hy hb hM hat hv h hN
    go_enter Try.func47, Try.ntmps47
    go_wp2_with (refine wpList_append_src _ rfl (.tmp 21) (.tmp 22) 29 29 rfl 0 5 Try.underlying29 infoByte _ _ rfl HBU.out _ _ rfl (BSrc.ofBytes Try.underlying29 HV.out) (by rw [HM.out, HN.out]; omega) (Nat.zero_le _) ?_; intro v2 w2 hbu2 hg2 hb2 hat2; have HMO := Lib.hid (H.out.more (Below.refl _ _) hbu2 hg2 hat2); have d0 := (World.cell?_of_block (w := w) (a := ⟨p, 0, none⟩) (hg2.block p hlt (fun e => H.out.ne e.symm))).trans c0; have d1 := (World.frozen?_of_block (w := w) (a := ⟨p, 0, none⟩) (hg2.block p hlt (fun e => H.out.ne e.symm))).trans f0; obtain ⟨A2, C2, e2, _⟩ := hbu2.len; obtain ⟨M2, hM2⟩ : ∃ M2, (q.l ++ m).length = M2 := ⟨_, rfl⟩; rw [hM2] at e2; subst e2; clear hbu2 hg2 hb2 hat2 hM2)
    go_end0
    exact ⟨rfl, by rw [HE.out]; exact HMO.out⟩
  · have HE := Lib.hid (padd_no (m := m) hy)
    have HW := Lib.hid (show Wrot F p q w w from ⟨F, ⟨_, hat⟩, Turned.refl _ _, Grown.refl _ _⟩)
    cases hb : q.bad with
    | true =>
      rw [hb] at c1
      clear hy hb hM hat hv h
      go_enter Try.func47, Try.ntmps47
      go_wp2
      go_end0
      exact ⟨rfl, by rw [HE.out]; exact HW.out⟩
    | false =>
      rw [hb] at c1
      have hM2 : ¬ M ≤ 8192 := fun x => hy ⟨hb, by rw [hM]; exact x⟩
      have hM3 : 8192 < M := by omega
      have hd : decide (M ≤ 8192) = false := by simpa using hM3
      clear hy hb hM hat hv h hM2
      go_enter Try.func47, Try.ntmps47
      go_wp2
      go_end0
      exact ⟨rfl, by rw [HE.out]; exact HW.out⟩
set_option maxHeartbeats 1000000 in
theorem addNo {S : Nat → Prop} {Ws w : World} {p : Nat} {q : Out} (h : WRun S Ws p q w) (v : Value) (hq : q.bad = true) :
    Calls Try.prog 47 #[.pointer (some ⟨p, 0, none⟩), v] w fun e w' => e = .returned (.tuple #[]) ∧ WRun S Ws p q w' := by
  refine h.step fun F ⟨x, hat⟩ _ => ?_
  obtain ⟨c0, c1⟩ := hat.cells
  have HW := Lib.hid (show Wrot F p q w w from ⟨F, ⟨_, hat⟩, Turned.refl _ _, Grown.refl _ _⟩)
  rw [hq] at c1
  clear hq hat h
  go_enter Try.func47, Try.ntmps47
  go_wp2
  go_end0
  exact ⟨rfl, HW.out⟩
/-- of the bounds that are used: how many bytes a number takes -/
def Most (m : Int) (k : Nat) : Prop := (m = 5 ∧ k = 1) ∨ (m = 16 ∧ k = 1) ∨ (m = 255 ∧ k = 1) ∨ (m = 65535 ∧ k = 2) ∨ (m = 1073741824 ∧ k = 4)
theorem Most.le {m : Int} {k : Nat} (h : Most m k) : 0 ≤ m ∧ m ≤ 1073741824 ∧ 1 ≤ k ∧ k ≤ 4 ∧ m < 256 ^ k := by
  rcases h with ⟨rfl, rfl⟩ | ⟨rfl, rfl⟩ | ⟨rfl, rfl⟩ | ⟨rfl, rfl⟩ | ⟨rfl, rfl⟩ <;> decide
theorem Most.len {m : Int} {k : Nat} (h : Most m k) : ((Lib.bitLen m.toNat : Nat) : Int) + 7 = 8 * k ∨ (8 * (k : Int) ≤ ((Lib.bitLen m.toNat : Nat) : Int) + 7 ∧ ((Lib.bitLen m.toNat : Nat) : Int) + 7 < 8 * k + 8) := by
  rcases h with ⟨rfl, rfl⟩ | ⟨rfl, rfl⟩ | ⟨rfl, rfl⟩ | ⟨rfl, rfl⟩ | ⟨rfl, rfl⟩ <;> decide +kernel
set_option maxHeartbeats 1000000 in
theorem widthC (m : Int) (k : Nat) (w : World) (h : Most m k) :
    Calls Try.prog 46 #[.int .i64 m] w fun e w' => e = .returned (.int .i64 k) ∧ w = w' := by
  have hl := h.len
  obtain ⟨m0, m1, k0, k1, -⟩ := h.le
  obtain ⟨B, hB⟩ : ∃ B, Lib.bitLen m.toNat = B := ⟨_, rfl⟩
  rw [hB] at hl
  have HB := Lib.hid hB
  have hwr : IntKind.u64.wrap m = m := by simp only [IntKind.wrap_u64]; omega
  have q1 : (8 * (k : Int)) ≤ (B : Int) + 7 := by omega
  have q2 : (B : Int) + 7 < 8 * (k : Int) + 8 := by omega
  have hdv : ((B : Int) + 7) / 8 = (k : Int) := by omega
  have HD := Lib.hid hdv
  clear hB hl h hdv
  go_enter Try.func46, Try.ntmps46
  go_wp2_with fail
  refine (Try.bits_Len m w m0 (by omega)).mono ?_
  rintro _ _ ⟨rfl, rfl⟩
  rw [HB.out]
  go_wp2
  go_ret
  exact ⟨by show Ending.returned (.int .i64 (((B : Int) + 7) / 8)) = _; rw [HD.out], rfl⟩
end Go.Proofs.Ytjhlcddmpkalfaa.Rec
