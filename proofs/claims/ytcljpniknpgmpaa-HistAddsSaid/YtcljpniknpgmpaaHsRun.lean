/- The program's history: run. -/
import Derived.Test.YtcljpniknpgmpaaHsSet
namespace Go.Proofs.Ytcljpniknpgmpaa.Hst
set_option linter.unusedVariables false
open Go.ChangeShapes Go.WideShapes Go.ChangeAt Go.RowKit
open Go.Mem Hs
theorem ansV_parts {w : World} {a : AnsD} {A As : Option Addr} {C Cs : Nat} (h : AnsV w (ansVal a A C As Cs) a) : Bytes w (.slice A a.data.length C) a.data ∧ Strs w (.slice As a.keys.length Cs) a.keys := by
  obtain ⟨A', C', As', Cs', e, h1, h2, -⟩ := h
  unfold ansVal at e
  injection e with e
  simp at e
  obtain ⟨⟨rfl, rfl⟩, rfl, rfl⟩ := e
  exact ⟨h1, h2⟩
/-- what the two copies leave in the call -/
theorem run_tail {w3 w4 w5 : World} {E : Nat → Prop} {p b g n C k : Nat} {s : St} {c : CallD} {a : AnsD} {u v : Value} (h : HAt w3 E p (some b) (.slice (some ⟨g, 0, none⟩) n C) (s.put k c)) (hk : k < s.calls.length) (hl8 : a.data.length ≤ 200) (hl9 : a.keys.length ≤ 50)
    (hb4 : Below w3.drew.heap.size w3.drew w4) (hu : Built ByteR w4 w3.drew.heap.size 5 u a.data) (hb5 : Below w4.heap.size w4 w5) (hv : Built StrR w5 w4.heap.size 9 v a.keys) :
    (∃ x, w5.cell? ⟨g, k * 10 + 8, none⟩ = some x) ∧ (∃ x, w5.cell? ⟨g, k * 10 + 9, none⟩ = some x) ∧ w5.frozen? ⟨g, k * 10 + 8, none⟩ = false ∧ w5.frozen? ⟨g, k * 10 + 9, none⟩ = false ∧
      ∃ E6, HAt ((w5.setCell ⟨g, k * 10 + 8, none⟩ u).setCell ⟨g, k * 10 + 9, none⟩ v) E6 p (some b) (.slice (some ⟨g, 0, none⟩) n C) (s.put k ⟨c.task, c.op, c.key, c.data, c.fr, c.to, c.mo, c.e, a.data, a.keys⟩) ∧ Turned (foot E p (some b) (.slice (some ⟨g, 0, none⟩) n C)) w3 ((w5.setCell ⟨g, k * 10 + 8, none⟩ u).setCell ⟨g, k * 10 + 9, none⟩ v) ∧ (∀ y, E6 y → E y ∨ w3.heap.size ≤ y) := by
  have hb3 : Below w3.heap.size w3 w5 := ((Go.Mem.below_drewN _ w3 1).trans hb4).trans (hb5.mono hb4.size)
  have h5 := h.below hb3
  have hk' : k < (s.put k c).calls.length := by simpa [St.put] using hk
  have hul := hu.own_lt
  have hvl := hv.own_lt
  have hs4 : w3.heap.size ≤ w4.heap.size := hb4.size
  have hs5 : w4.heap.size ≤ w5.heap.size := hb5.size
  have hfl := h.foot_lt
  have hu5 : On (fun b => u.ownBlock = some b) w5 (fun w' => Bytes w' u a.data) := (slice_on byteR_world hu).turned (Turned.of_below (fun _ => False) hb5) (fun _ q => q.elim)
  refine ⟨h5.el hk' 8 (by omega), h5.el hk' 9 (by omega), h5.elfree hk' _, h5.elfree hk' _, _, h5.setTail hk hu5 (slice_on strR_world hv) (fun y q => Nat.lt_of_lt_of_le (hul y q).2 hs5) (fun y q => (hvl y q).2) (fun y q z => ?_) (fun y q z => ?_) (fun y q z => ?_) hl8 hl9, ?_, fun y q => ?_⟩
  · have h1 := (hul y q).1
    have h2 := hfl y z
    have h3 : w3.drew.heap.size = w3.heap.size := rfl
    omega
  · have h1 := (hvl y q).1
    have h2 := hfl y z
    omega
  · have h1 := (hvl y q).1
    have h2 := (hul y z).2
    omega
  · exact ((Turned.of_below _ hb3).trans (Turned.set (F := foot E p (some b) (.slice (some ⟨g, 0, none⟩) n C)) (b := g) _ (.inr (.inr (.inr rfl)))) (Grown.refl _ _)).trans (Turned.set (F := foot E p (some b) (.slice (some ⟨g, 0, none⟩) n C)) (b := g) _ (.inr (.inr (.inr rfl)))) (Grown.refl _ _)
  · rcases q with (q | q) | q
    · exact .inl q
    · have h3 : w3.drew.heap.size = w3.heap.size := rfl
      have := (hul y q).1
      exact .inr (by omega)
    · have := (hvl y q).1
      exact .inr (by omega)
theorem wpList_drop_task (w : World) {ops : Array Oper} {rest : List Oper} {o : Oper} {a : Act} {Q : Exit → Act → World → Prop} (hg : o.guard = none) (m x : Operand) (hop : o.op = Op.call { callee := Callee.builtin Builtin.delete, args := #[m, x], argTypes := #[TMap, TInt] }) (b : Nat) (s s' : St) (h : MapOf w b s) {t : Int} (ht : I64 t) (hl : s.calls.length ≤ s'.calls.length)
    (hf : ∀ t', s'.find t' = if t' = t then none else s.find t') (hm : a.eval m = .map (some b)) (hx : a.eval x = .int .i64 t) (hK : ∀ w', MapOf w' b s' → Turned (fun x => x = b) w w' → wpList Try.prog ops Q rest (a.put o.dst (.tuple #[])) w') :
    wpList Try.prog ops Q (o :: rest) a w := by
  refine wpList_plain hg fun K' hK' => ?_
  obtain ⟨w', hrun, r1, r2, r3⟩ := h.drop ht hl hf o.type
  unfold Oper.wp
  simp [execOp, hop, resolve, invoke, builtin, hm, hx, hrun, Result.andThen]
  exact hK' _ _ (hK w' r1 r2)
theorem run_drop {s : St} {t : Int} {k : Nat} {a : AnsD} {c y : CallD} (u : s.Uniq) (hf : s.find t = some k) {hk : k < s.calls.length} (hc : s.calls[k] = c) (hd : a.done = true) (hy : y.task = c.task) : (s.put k y).calls.length ≤ (s.hit k a).calls.length ∧ ∀ t', (s.hit k a).find t' = if t' = t then none else (s.put k y).find t' := by
  refine ⟨by simp [St.put, St.hit], fun t' => ?_⟩
  rw [St.hit_find u hf, St.put_find u hk (by rw [hy, hc]), hd]
  simp
theorem run_end {w w3 w6 w7 : World} {E E6 : Nat → Prop} {p b g n C k : Nat} {s : St} {y : CallD} {a : AnsD} (h : HAt w6 E6 p (some b) (.slice (some ⟨g, 0, none⟩) n C) (s.put k y)) (hm : MapOf w7 b (s.hit k a)) (ht : Turned (fun x => x = b) w6 w7) (htw : Turned (foot E p (some b) (.slice (some ⟨g, 0, none⟩) n C)) w w6) (hE : ∀ z, E6 z → E z ∨ w3.heap.size ≤ z) (hsz : w.heap.size ≤ w3.heap.size)
    (hc : (s.hit k a).calls = (s.put k y).calls) (u : s.Uniq) : Does PDh (foot E p (some b) (.slice (some ⟨g, 0, none⟩) n C)) p (s.hit k a) w w7 := by
  obtain ⟨hEb, hbp, hVb⟩ := h.nm b rfl
  refine ⟨_, ⟨E6, some b, _, ⟨h.head.of_block (ht.block p h.head.lt (fun q => hbp q.symm)), ?_, .inr ⟨b, rfl, hm⟩, fun z q => Nat.lt_of_lt_of_le (h.lt z q) ht.size, h.np, h.nm, h.vp, St.hit_uniq u k a⟩, rfl⟩, htw.trans (F' := fun x => x = b) ht (fun z q => by subst q; exact .inl (.inr (.inr (.inl rfl)))), fun z q => ?_⟩
  · rw [hc]
    exact h.calls.turned ht (fun z q => by subst q; exact ⟨hEb, hVb⟩)
  · rcases q with q | q | q | q
    · exact .inl (.inl q)
    · rcases hE z q with q | q
      · exact .inl (.inr (.inl q))
      · exact .inr (by omega)
    · exact .inl (.inr (.inr (.inl q)))
    · exact .inl (.inr (.inr (.inr q)))
set_option maxRecDepth 100000 in
set_option maxHeartbeats 8000000 in
theorem runC {w : World} {E : Nat → Prop} {p : Nat} {M : Option Nat} {V : Value} {s : St} (h : HAt w E p M V s) (hlen : s.calls.length ≤ 1000) (hmom : s.mom ≤ 1001) (t : Int) (ht : I64 t) (a : AnsD) (A : Value) (ha : Sure (foot E p M V) w (fun w' => AnsV w' A a)) (hl8 : a.data.length ≤ 200) (hl9 : a.keys.length ≤ 50) :
    Calls Try.prog 14 #[.pointer (some ⟨p, 0, none⟩), .int .i64 t, A] w fun e w' => e = .returned (.tuple #[]) ∧ Does PDh (foot E p M V) p (s.run t a) w w' := by
  have HAS := Lib.hid ha
  obtain ⟨AD, CD, AK, CK, rfl, hda, hka, hae, -, -⟩ := ha.here
  unfold ansVal
  obtain ⟨ND, hND⟩ : ∃ N, a.data.length = N := ⟨_, rfl⟩
  obtain ⟨NK, hNK⟩ : ∃ N, a.keys.length = N := ⟨_, rfl⟩
  obtain ⟨w1, hw1⟩ : ∃ w1, w.alloc (.cells #[.int .i64 a.e, .int .i64 a.task, .bool a.done, .int .i64 a.mark, .slice AD ND CD, .slice AK NK CK] TAns) = w1 := ⟨_, rfl⟩
  have hb1 : Below w.heap.size w w1 := by rw [← hw1]; exact (Below.refl _ _).alloc (Nat.le_refl _) _
  obtain ⟨B, hB⟩ : ∃ B, w.heap.size = B := ⟨_, rfl⟩
  have hrow : w1.rowIs B TAns 6 (fun i => #[Value.int .i64 a.e, .int .i64 a.task, .bool a.done, .int .i64 a.mark, .slice AD ND CD, .slice AK NK CK].getD i undef) := by rw [← hw1, ← hB]; exact row_of w _ _
  have HROW := Lib.hid hrow
  have h1 := h.below hb1
  have c2 : w1.cell? ⟨p, 2, none⟩ = some (.map M) := h1.cell (i := 2) (by omega)
  have hpB : p < B := hB ▸ h.head.lt
  have HW1 := Lib.hid hw1
  have HBE := Lib.hid hB
  have HB1 := Lib.hid hb1
  have H1 := Lib.hid h1
  have HH := Lib.hid h
  have HL8 := Lib.hid hl8
  have HL9 := Lib.hid hl9
  have HAE := Lib.hid hae
  have HT := Lib.hid ht
  have HND := Lib.hid hND
  have HNK := Lib.hid hNK
  rw [hND, hNK]
  cases hf : s.find t with
  | none =>
    have hlk : ∃ v : Int, (Instr.lookup TMap (.map M) (.int .i64 t) true).run Try.prog w1 = .ok (.tuple #[.int .i64 v, .bool false]) w1 := by
      rcases h1.map with ⟨rfl, _⟩ | ⟨b, rfl, hm⟩
      · exact ⟨0, look_nil w1 ht⟩
      · exact hm.lookNo ht hf
    obtain ⟨v, hlk⟩ := hlk
    have HE := Lib.hid (show s.run t a = s by unfold St.run; rw [hf])
    clear h h1 ha hda hka hae hb1 hrow hw1 hB hlen hmom ht hl8 hl9 hND hNK hf
    go_enter Try.func14, Try.ntmps14
    go_upto_region 1 with fail
    rw [HW1.out, HBE.out]
    go_wp2
    refine bodyPost_ret (results_none rfl _ _ _) rfl ?_
    rw [HE.out]
    exact ⟨rfl, _, ⟨E, M, V, H1.out, rfl⟩, Turned.of_below _ HB1.out, Grown.refl _ _⟩
  | some k =>
    have hki := St.find_is hf
    have hk := St.is_lt hki
    obtain ⟨b, rfl, hlk⟩ : ∃ b, M = some b ∧ (Instr.lookup TMap (.map (some b)) (.int .i64 t) true).run Try.prog w1 = .ok (.tuple #[.int .i64 (k : Nat), .bool true]) w1 := by
      rcases h1.map with ⟨rfl, hn⟩ | ⟨b, rfl, hm⟩
      · rw [hn t] at hf; cases hf
      · exact ⟨b, rfl, hm.look ht hf⟩
    obtain ⟨g, C, f0, rfl, hnC, hCm, -, -, -, -, hgl⟩ := h.calls.el hk
    obtain ⟨c, hc⟩ : ∃ c, s.calls[k] = c := ⟨_, rfl⟩
    have hcp : CallP c := by
      obtain ⟨g', C', f, e, -, -, -, -, hR, -⟩ := h.calls.el hk
      have := hR.here.ok
      rw [hc] at this
      exact this
    have HCP := Lib.hid hcp
    have HC := Lib.hid hc
    have HK := Lib.hid hk
    have HF := Lib.hid hf
    have HE := Lib.hid (show s.run t a = s.hit k a by unfold St.run; rw [hf])
    obtain ⟨n, hn⟩ : ∃ n, s.calls.length = n := ⟨_, rfl⟩
    have HN := Lib.hid hn
    rw [hn] at H1 HH HAS hk hnC ⊢
    have c1 : w1.cell? ⟨p, 1, none⟩ = some (.slice (some ⟨g, 0, none⟩) n C) := H1.out.cell (i := 1) (by omega)
    have b3 : w1.cell? ⟨B, 3, none⟩ = some (.int .i64 a.mark) := HROW.out.cell (i := 3) (by omega)
    have b2 : w1.cell? ⟨B, 2, none⟩ = some (.bool a.done) := HROW.out.cell (i := 2) (by omega)
    have i1 : (k : Int) < (n : Int) := by omega
    have i0 : (0 : Int) ≤ (k : Int) := by omega
    have HMOM := Lib.hid hmom
    have HLEN := Lib.hid hlen
    clear h h1 ha hda hka hae hb1 hrow hw1 hB hlen hmom ht hl8 hl9 hND hNK hf hki hcp hc hn hgl
    go_enter Try.func14, Try.ntmps14
    go_upto_region 1 with fail
    rw [HW1.out, HBE.out]
    go_upto_region 4 with fail
    have HGB := Lib.hid (show B ≠ g from fun q => by have := HH.out.calls.own_lt g rfl; have := HBE.out; omega)
    by_cases hmk : a.mark = 0
    · have q1 : (a.mark != (0 : Int)) = false := by rw [hmk]; rfl
      have hsm : Hs.seen s.mom a c = c := by unfold Hs.seen; rw [if_pos hmk]
      have H2 := Lib.hid (show HAt w1 E p (some b) (.slice (some ⟨g, 0, none⟩) n C) (s.put k (Hs.seen s.mom a c)) by
        rw [hsm, ← HC.out, St.put_self]; exact H1.out)
      have HT2 := Lib.hid (show Turned (foot E p (some b) (.slice (some ⟨g, 0, none⟩) n C)) w w1 from Turned.of_below _ HB1.out)
      have HR2 := Lib.hid (show w1.rowIs B TAns 6 (fun i => #[Value.int .i64 a.e, .int .i64 a.task, .bool a.done, .int .i64 a.mark, .slice AD ND CD, .slice AK NK CK].getD i undef) from HROW.out)
      have HK2 := Lib.hid (show k < (s.put k (Hs.seen s.mom a c)).calls.length by simpa [St.put] using HK.out)
      clear hmk hsm
      go_upto_region 6 with fail
      clear c1 c2 b2 b3 q1
      by_cases hdn : a.done = true
      · have HDN := Lib.hid hdn
        have q2 : w1.cell? ⟨B, 2, none⟩ = some (.bool true) := by rw [← hdn]; exact HR2.out.cell (i := 2) (by omega)
        have q0 : w1.cell? ⟨B, 0, none⟩ = some (.int .i64 a.e) := HR2.out.cell (i := 0) (by omega)
        have c0 : w1.cell? ⟨p, 0, none⟩ = some (.int .i64 (s.mom : Nat)) := H2.out.cell (i := 0) (by omega)
        obtain ⟨v5, y5⟩ := H2.out.el HK2.out 5 (by omega)
        obtain ⟨v7, y7⟩ := H2.out.el HK2.out 7 (by omega)
        have j5 : w1.frozen? ⟨g, k * 10 + 5, none⟩ = false := H2.out.elfree HK2.out _
        have j7 : w1.frozen? ⟨g, k * 10 + 7, none⟩ = false := H2.out.elfree HK2.out _
        have HSD := Lib.hid (show w1.drew.cell? ⟨p, 0, none⟩ = some (.int .i64 (s.mom : Nat)) ∧ w1.drew.cell? ⟨B, 0, none⟩ = some (.int .i64 a.e) from ⟨c0, q0⟩)
        have HSE := Lib.hid (show (w1.setCell ⟨g, k * 10 + 5, none⟩ (.int .i64 (s.mom : Nat))).drew.cell? ⟨p, 0, none⟩ = some (.int .i64 (s.mom : Nat)) ∧ (w1.setCell ⟨g, k * 10 + 5, none⟩ (.int .i64 (s.mom : Nat))).drew.cell? ⟨B, 0, none⟩ = some (.int .i64 a.e) from
          ⟨(H2.out.head.of_block (Below.heap_setCell w1 ⟨g, k * 10 + 5, none⟩ (.int .i64 (s.mom : Nat)) p (fun q => H2.out.vp (by rw [q]; rfl)))).cell (i := 0) (by omega), (HR2.out.of_block (Below.heap_setCell w1 ⟨g, k * 10 + 5, none⟩ (.int .i64 (s.mom : Nat)) B HGB.out)).cell (i := 0) (by omega)⟩)
        clear hdn c0 q0
        go_upto_region 7 with fail
        clear q2
        refine wp_region_noPanic ?_
        refine wp_region_till [10, 13] (fun w' => w'.cell? ⟨p, 0, none⟩ = some (.int .i64 (s.mom : Nat)) ∧ w'.cell? ⟨B, 0, none⟩ = some (.int .i64 a.e)) (by kernel_rfl) HSD.out (fun _ => ?_)
        have hHeld := HSD.out
        refine wpAnyT_take (i := 0) (oi := ?oiz1) (v := ?vz1) ?h1z1 (by kernel_rfl) (by kernel_rfl) (by kernel_rfl) (by kernel_rfl) (fun _ _ _ h => h) ?hyz1 (HeldT.of hHeld) ?_
        case h1z1 => (simp only [List.getElem?_toArray, List.getElem?_cons_zero]; rfl)
        case hyz1 => first | (refine Or.inr ⟨rfl, ?_⟩; rfl) | (refine Or.inl ⟨rfl, ?_⟩; intro w hSw; (try dsimp only at hSw); go_simp; done) | (refine Or.inl ⟨rfl, ?_⟩; intro w hSw; (try dsimp only at hSw); go_simp; with_reducible rfl)
        try simp only [Act.put, List.setIfInBounds_toArray, List.set_cons_zero, List.set_cons_succ]
        refine wpAnyT_take (i := 1) (oi := ?oiz2) (v := ?vz2) ?h1z2 (by kernel_rfl) (by kernel_rfl) (by kernel_rfl) (by kernel_rfl) (fun _ _ _ h => h) ?hyz2 (HeldT.of hHeld) ?_
        case h1z2 => (simp only [List.getElem?_toArray, List.getElem?_cons_succ, List.getElem?_cons_zero]; rfl)
        case hyz2 => first | (refine Or.inr ⟨rfl, ?_⟩; rfl) | (refine Or.inl ⟨rfl, ?_⟩; intro w hSw; (try dsimp only at hSw); go_simp; done) | (refine Or.inl ⟨rfl, ?_⟩; intro w hSw; (try dsimp only at hSw); go_simp; with_reducible rfl)
        try simp only [Act.put, List.setIfInBounds_toArray, List.set_cons_zero, List.set_cons_succ]
        refine wpAnyT_take (i := 2) (oi := ?oiz3) (v := ?vz3) ?h1z3 (by kernel_rfl) (by kernel_rfl) (by kernel_rfl) (by kernel_rfl) (fun _ _ _ h => h) ?hyz3 (HeldT.of hHeld) ?_
        case h1z3 => (simp only [List.getElem?_toArray, List.getElem?_cons_succ, List.getElem?_cons_zero]; rfl)
        case hyz3 => first | (refine Or.inr ⟨rfl, ?_⟩; rfl) | (refine Or.inl ⟨rfl, ?_⟩; intro w hSw; (try dsimp only at hSw); go_simp; done) | (refine Or.inl ⟨rfl, ?_⟩; intro w hSw; (try dsimp only at hSw); go_simp; with_reducible rfl)
        try simp only [Act.put, List.setIfInBounds_toArray, List.set_cons_zero, List.set_cons_succ]
        refine wpAnyT_take (i := 3) (oi := ?oiz4) (v := ?vz4) ?h1z4 (by kernel_rfl) (by kernel_rfl) (by kernel_rfl) (by kernel_rfl) (fun _ _ _ h => h) ?hyz4 (HeldT.of hHeld) ?_
        case h1z4 => (simp only [List.getElem?_toArray, List.getElem?_cons_succ, List.getElem?_cons_zero]; rfl)
        case hyz4 => first | (refine Or.inr ⟨rfl, ?_⟩; rfl) | (refine Or.inl ⟨rfl, ?_⟩; intro w hSw; (try dsimp only at hSw); go_simp; done) | (refine Or.inl ⟨rfl, ?_⟩; intro w hSw; (try dsimp only at hSw); go_simp; with_reducible rfl)
        try simp only [Act.put, List.setIfInBounds_toArray, List.set_cons_zero, List.set_cons_succ]
        refine wpAnyT_take (i := 4) (oi := ?oiz5) (v := ?vz5) ?h1z5 (by kernel_rfl) (by kernel_rfl) (by kernel_rfl) (by kernel_rfl) (fun _ _ _ h => h) ?hyz5 (HeldT.of hHeld) ?_
        case h1z5 => (simp only [List.getElem?_toArray, List.getElem?_cons_succ, List.getElem?_cons_zero]; rfl)
        case hyz5 => first | (refine Or.inr ⟨rfl, ?_⟩; rfl) | (refine Or.inl ⟨rfl, ?_⟩; intro w hSw; (try dsimp only at hSw); go_simp; done) | (refine Or.inl ⟨rfl, ?_⟩; intro w hSw; (try dsimp only at hSw); go_simp; with_reducible rfl)
        try simp only [Act.put, List.setIfInBounds_toArray, List.set_cons_zero, List.set_cons_succ]
        refine wpAnyT_load 10 (i := 5) (oi := ?oiz6) (v := ?vz6) ?h1z6 (by kernel_rfl) (by kernel_rfl) (by kernel_rfl) (by kernel_rfl) (fun _ _ _ h => h) ?hyz6 (HeldT.of hHeld) ?_
        case h1z6 => (simp only [List.getElem?_toArray, List.getElem?_cons_succ, List.getElem?_cons_zero]; rfl)
        case hyz6 => first | (refine Or.inr ⟨rfl, ?_⟩; rfl) | (refine Or.inl ⟨rfl, ?_⟩; intro w hSw; (try dsimp only at hSw); go_simp; done) | (refine Or.inl ⟨rfl, ?_⟩; intro w hSw; (try dsimp only at hSw); go_simp; with_reducible rfl)
        try simp only [Act.put, List.setIfInBounds_toArray, List.set_cons_zero, List.set_cons_succ]
        refine wpAnyT_take (i := 6) (oi := ?oiz7) (v := ?vz7) ?h1z7 (by kernel_rfl) (by kernel_rfl) (by kernel_rfl) (by kernel_rfl) (fun _ _ _ h => h) ?hyz7 (HeldT.of hHeld) ?_
        case h1z7 => (simp only [List.getElem?_toArray, List.getElem?_cons_succ, List.getElem?_cons_zero]; rfl)
        case hyz7 => first | (refine Or.inr ⟨rfl, ?_⟩; rfl) | (refine Or.inl ⟨rfl, ?_⟩; intro w hSw; (try dsimp only at hSw); go_simp; done) | (refine Or.inl ⟨rfl, ?_⟩; intro w hSw; (try dsimp only at hSw); go_simp; with_reducible rfl)
        try simp only [Act.put, List.setIfInBounds_toArray, List.set_cons_zero, List.set_cons_succ]
        refine wpAnyT_load 13 (i := 7) (oi := ?oiz8) (v := ?vz8) ?h1z8 (by kernel_rfl) (by kernel_rfl) (by kernel_rfl) (by kernel_rfl) (fun _ _ _ h => h) ?hyz8 (HeldT.of hHeld) ?_
        case h1z8 => (simp only [List.getElem?_toArray, List.getElem?_cons_succ, List.getElem?_cons_zero]; rfl)
        case hyz8 => first | (refine Or.inr ⟨rfl, ?_⟩; rfl) | (refine Or.inl ⟨rfl, ?_⟩; intro w hSw; (try dsimp only at hSw); go_simp; done) | (refine Or.inl ⟨rfl, ?_⟩; intro w hSw; (try dsimp only at hSw); go_simp; with_reducible rfl)
        try simp only [Act.put, List.setIfInBounds_toArray, List.set_cons_zero, List.set_cons_succ]
        refine wpAnyT_take (i := 8) (oi := ?oiz9) (v := ?vz9) ?h1z9 (by kernel_rfl) (by kernel_rfl) (by kernel_rfl) (by kernel_rfl) (fun _ _ _ h => h) ?hyz9 (HeldT.of hHeld) ?_
        case h1z9 => (simp only [List.getElem?_toArray, List.getElem?_cons_succ, List.getElem?_cons_zero]; rfl)
        case hyz9 => first | (refine Or.inr ⟨rfl, ?_⟩; rfl) | (refine Or.inl ⟨rfl, ?_⟩; intro w hSw; (try dsimp only at hSw); go_simp; done) | (refine Or.inl ⟨rfl, ?_⟩; intro w hSw; (try dsimp only at hSw); go_simp; with_reducible rfl)
        try simp only [Act.put, List.setIfInBounds_toArray, List.set_cons_zero, List.set_cons_succ]
        refine wpAnyT_take (i := 9) (oi := ?oiz10) (v := ?vz10) ?h1z10 (by kernel_rfl) (by kernel_rfl) (by kernel_rfl) (by kernel_rfl) (fun _ _ _ h => h) ?hyz10 (HeldT.of hHeld) ?_
        case h1z10 => (simp only [List.getElem?_toArray, List.getElem?_cons_succ, List.getElem?_cons_zero]; rfl)
        case hyz10 => first | (refine Or.inr ⟨rfl, ?_⟩; rfl) | (refine Or.inl ⟨rfl, ?_⟩; intro w hSw; (try dsimp only at hSw); go_simp; done) | (refine Or.inl ⟨rfl, ?_⟩; intro w hSw; (try dsimp only at hSw); go_simp; with_reducible rfl)
        try simp only [Act.put, List.setIfInBounds_toArray, List.set_cons_zero, List.set_cons_succ]
        refine wpAnyT_ready (rs := [10]) (by kernel_rfl) (by simp) ?_
        refine AllReadyT.cons (o := ?oiz11) ?h1z11 (fun K hK => ?_) ?morez11
        case h1z11 => (simp only [List.getElem?_toArray, List.getElem?_cons_succ, List.getElem?_cons_zero]; rfl)
        case morez11 => exact AllReadyT.nil
        go_simp
        have hHeld := HSE.out
        refine hK.out _ _ (HeldT.of hHeld) (fun _ => ?_)
        clear hK K
        try simp only [Act.put, List.setIfInBounds_toArray, List.set_cons_zero, List.set_cons_succ]
        refine wpAnyT_take (i := 11) (oi := ?oiz12) (v := ?vz12) ?h1z12 (by kernel_rfl) (by kernel_rfl) (by kernel_rfl) (by kernel_rfl) (fun _ _ _ h => h) ?hyz12 (HeldT.of hHeld) ?_
        case h1z12 => (simp only [List.getElem?_toArray, List.getElem?_cons_succ, List.getElem?_cons_zero]; rfl)
        case hyz12 => first | (refine Or.inr ⟨rfl, ?_⟩; rfl) | (refine Or.inl ⟨rfl, ?_⟩; intro w hSw; (try dsimp only at hSw); go_simp; done) | (refine Or.inl ⟨rfl, ?_⟩; intro w hSw; (try dsimp only at hSw); go_simp; with_reducible rfl)
        try simp only [Act.put, List.setIfInBounds_toArray, List.set_cons_zero, List.set_cons_succ]
        refine wpAnyT_take (i := 12) (oi := ?oiz13) (v := ?vz13) ?h1z13 (by kernel_rfl) (by kernel_rfl) (by kernel_rfl) (by kernel_rfl) (fun _ _ _ h => h) ?hyz13 (HeldT.of hHeld) ?_
        case h1z13 => (simp only [List.getElem?_toArray, List.getElem?_cons_succ, List.getElem?_cons_zero]; rfl)
        case hyz13 => first | (refine Or.inr ⟨rfl, ?_⟩; rfl) | (refine Or.inl ⟨rfl, ?_⟩; intro w hSw; (try dsimp only at hSw); go_simp; done) | (refine Or.inl ⟨rfl, ?_⟩; intro w hSw; (try dsimp only at hSw); go_simp; with_reducible rfl)
        try simp only [Act.put, List.setIfInBounds_toArray, List.set_cons_zero, List.set_cons_succ]
        refine wpAnyT_ready (rs := [13]) (by kernel_rfl) (by simp) ?_
        refine AllReadyT.cons (o := ?oiz14) ?h1z14 (fun K hK => ?_) ?morez14
        case h1z14 => (simp only [List.getElem?_toArray, List.getElem?_cons_succ, List.getElem?_cons_zero]; rfl)
        case morez14 => exact AllReadyT.nil
        go_simp
        refine hK.out _ _ (HeldT.over (by kernel_rfl)) (fun _ => ?_)
        clear hK K
        try simp only [Act.put, List.setIfInBounds_toArray, List.set_cons_zero, List.set_cons_succ]
        refine wpAnyT_done (by kernel_rfl) ?_ _
        refine NoPanic.normal ?_
        have HMI := Lib.hid (show I64 ((s.mom : Nat) : Int) from ⟨by omega, by have := HMOM.out; omega⟩)
        have hD2 : HAt (((w1.setCell ⟨g, k * 10 + 5, none⟩ (.int .i64 (s.mom : Nat))).setCell ⟨g, k * 10 + 7, none⟩ (.int .i64 a.e)).drew) _ _ _ _ _ := (H2.out.setEnd HK.out HMI.out HAE.out).below (below_drewN _ _ 1)
        have htD : Turned (foot E p (some b) (.slice (some ⟨g, 0, none⟩) n C)) w (((w1.setCell ⟨g, k * 10 + 5, none⟩ (.int .i64 (s.mom : Nat))).setCell ⟨g, k * 10 + 7, none⟩ (.int .i64 a.e)).drew) :=
          ((HT2.out.trans (Turned.set (F := (foot E p (some b) (.slice (some ⟨g, 0, none⟩) n C))) (b := g) _ (.inr (.inr (.inr rfl)))) (Grown.refl _ _)).trans (Turned.set (F := (foot E p (some b) (.slice (some ⟨g, 0, none⟩) n C))) (b := g) _ (.inr (.inr (.inr rfl)))) (Grown.refl _ _)).trans (Turned.drew _ _) (Grown.refl _ _)
        have hrD : (((w1.setCell ⟨g, k * 10 + 5, none⟩ (.int .i64 (s.mom : Nat))).setCell ⟨g, k * 10 + 7, none⟩ (.int .i64 a.e)).drew).rowIs B TAns 6 (fun i => #[Value.int .i64 a.e, .int .i64 a.task, .bool a.done, .int .i64 a.mark, .slice AD ND CD, .slice AK NK CK].getD i undef) :=
          (HR2.out.of_block (Below.heap_setCell _ _ _ _ HGB.out)).of_block (Below.heap_setCell _ _ _ _ HGB.out)
        obtain ⟨w3, hw3⟩ : ∃ w3, ((w1.setCell ⟨g, k * 10 + 5, none⟩ (.int .i64 (s.mom : Nat))).setCell ⟨g, k * 10 + 7, none⟩ (.int .i64 a.e)).drew = w3 := ⟨_, rfl⟩
        rw [hw3] at hD2 htD hrD ⊢
        have HD2 := Lib.hid hD2
        have HTD := Lib.hid htD
        have HRD := Lib.hid hrD
        clear hD2 htD hrD hw3 y5 y7 j5 j7 HSD
        go_upto_region 8 with fail
        have hpt := ansV_parts (HAS.out w3.drew (HTD.out.trans (Turned.drew _ w3) (Grown.refl _ _)))
        rw [HND.out, HNK.out] at hpt
        have HCB := Lib.hid (cloneB a.data _ _ hpt.1 (by have := HL8.out; omega))
        have HCS := Lib.hid (fun (w4 : World) (hb : Below w3.drew.heap.size w3.drew w4) => cloneS a.keys _ w4 (hpt.2.below hb) (by have := HL9.out; omega))
        have HSX := Lib.hid (show ∀ w' : World, Below w3.drew.heap.size w3.drew w' → w'.cell? ⟨B, 4, none⟩ = some (.slice AD ND CD) ∧ w'.cell? ⟨B, 5, none⟩ = some (.slice AK NK CK) from fun w' hb => by
          have hr := (show w3.drew.rowIs B TAns 6 (fun i => #[Value.int .i64 a.e, .int .i64 a.task, .bool a.done, .int .i64 a.mark, .slice AD ND CD, .slice AK NK CK].getD i undef) from HRD.out).of_block (hb.block B HRD.out.lt)
          exact ⟨hr.cell (i := 4) (by omega), hr.cell (i := 5) (by omega)⟩)
        have HSY := Lib.hid (show ∀ w' : World, Below w3.drew.heap.size w3.drew w' → ∀ u : Value, (w'.setCell ⟨g, k * 10 + 8, none⟩ u).cell? ⟨B, 4, none⟩ = some (.slice AD ND CD) ∧ (w'.setCell ⟨g, k * 10 + 8, none⟩ u).cell? ⟨B, 5, none⟩ = some (.slice AK NK CK) from fun w' hb u => by
          have hr := (((show w3.drew.rowIs B TAns 6 (fun i => #[Value.int .i64 a.e, .int .i64 a.task, .bool a.done, .int .i64 a.mark, .slice AD ND CD, .slice AK NK CK].getD i undef) from HRD.out).of_block (hb.block B HRD.out.lt))).of_block (Below.heap_setCell w' ⟨g, k * 10 + 8, none⟩ u B HGB.out)
          exact ⟨hr.cell (i := 4) (by omega), hr.cell (i := 5) (by omega)⟩)
        have hSd := HSX.out _ (Below.refl _ _)
        have HTL := Lib.hid (fun (w4 w5 : World) (u v : Value) (hb4 : Below w3.drew.heap.size w3.drew w4) (hu : Built ByteR w4 w3.drew.heap.size 5 u a.data) (hb5 : Below w4.heap.size w4 w5) (hv : Built StrR w5 w4.heap.size 9 v a.keys) => run_tail HD2.out HK.out HL8.out HL9.out hb4 hu hb5 hv)
        clear hpt
        refine wp_region_noPanic ?_
        refine wp_region_till [10, 13] (fun w' => w'.cell? ⟨B, 4, none⟩ = some (.slice AD ND CD) ∧ w'.cell? ⟨B, 5, none⟩ = some (.slice AK NK CK)) (by kernel_rfl) hSd (fun _ => ?_)
        have hHeld := hSd
        refine wpAnyT_take (i := 0) (oi := ?oiz15) (v := ?vz15) ?h1z15 (by kernel_rfl) (by kernel_rfl) (by kernel_rfl) (by kernel_rfl) (fun _ _ _ h => h) ?hyz15 (HeldT.of hHeld) ?_
        case h1z15 => (simp only [List.getElem?_toArray, List.getElem?_cons_zero]; rfl)
        case hyz15 => first | (refine Or.inr ⟨rfl, ?_⟩; rfl) | (refine Or.inl ⟨rfl, ?_⟩; intro w hSw; (try dsimp only at hSw); go_simp; done) | (refine Or.inl ⟨rfl, ?_⟩; intro w hSw; (try dsimp only at hSw); go_simp; with_reducible rfl)
        try simp only [Act.put, List.setIfInBounds_toArray, List.set_cons_zero, List.set_cons_succ]
        refine wpAnyT_take (i := 1) (oi := ?oiz16) (v := ?vz16) ?h1z16 (by kernel_rfl) (by kernel_rfl) (by kernel_rfl) (by kernel_rfl) (fun _ _ _ h => h) ?hyz16 (HeldT.of hHeld) ?_
        case h1z16 => (simp only [List.getElem?_toArray, List.getElem?_cons_succ, List.getElem?_cons_zero]; rfl)
        case hyz16 => first | (refine Or.inr ⟨rfl, ?_⟩; rfl) | (refine Or.inl ⟨rfl, ?_⟩; intro w hSw; (try dsimp only at hSw); go_simp; done) | (refine Or.inl ⟨rfl, ?_⟩; intro w hSw; (try dsimp only at hSw); go_simp; with_reducible rfl)
        try simp only [Act.put, List.setIfInBounds_toArray, List.set_cons_zero, List.set_cons_succ]
        refine wpAnyT_take (i := 2) (oi := ?oiz17) (v := ?vz17) ?h1z17 (by kernel_rfl) (by kernel_rfl) (by kernel_rfl) (by kernel_rfl) (fun _ _ _ h => h) ?hyz17 (HeldT.of hHeld) ?_
        case h1z17 => (simp only [List.getElem?_toArray, List.getElem?_cons_succ, List.getElem?_cons_zero]; rfl)
        case hyz17 => first | (refine Or.inr ⟨rfl, ?_⟩; rfl) | (refine Or.inl ⟨rfl, ?_⟩; intro w hSw; (try dsimp only at hSw); go_simp; done) | (refine Or.inl ⟨rfl, ?_⟩; intro w hSw; (try dsimp only at hSw); go_simp; with_reducible rfl)
        try simp only [Act.put, List.setIfInBounds_toArray, List.set_cons_zero, List.set_cons_succ]
        refine wpAnyT_load 10 (i := 3) (oi := ?oiz18) (v := ?vz18) ?h1z18 (by kernel_rfl) (by kernel_rfl) (by kernel_rfl) (by kernel_rfl) (fun _ _ _ h => h) ?hyz18 (HeldT.of hHeld) ?_
        case h1z18 => (simp only [List.getElem?_toArray, List.getElem?_cons_succ, List.getElem?_cons_zero]; rfl)
        case hyz18 => first | (refine Or.inr ⟨rfl, ?_⟩; rfl) | (refine Or.inl ⟨rfl, ?_⟩; intro w hSw; (try dsimp only at hSw); go_simp; done) | (refine Or.inl ⟨rfl, ?_⟩; intro w hSw; (try dsimp only at hSw); go_simp; with_reducible rfl)
        try simp only [Act.put, List.setIfInBounds_toArray, List.set_cons_zero, List.set_cons_succ]
        refine wpAnyT_take (i := 5) (oi := ?oiz19) (v := ?vz19) ?h1z19 (by kernel_rfl) (by kernel_rfl) (by kernel_rfl) (by kernel_rfl) (fun _ _ _ h => h) ?hyz19 (HeldT.of hHeld) ?_
        case h1z19 => (simp only [List.getElem?_toArray, List.getElem?_cons_succ, List.getElem?_cons_zero]; rfl)
        case hyz19 => first | (refine Or.inr ⟨rfl, ?_⟩; rfl) | (refine Or.inl ⟨rfl, ?_⟩; intro w hSw; (try dsimp only at hSw); go_simp; done) | (refine Or.inl ⟨rfl, ?_⟩; intro w hSw; (try dsimp only at hSw); go_simp; with_reducible rfl)
        try simp only [Act.put, List.setIfInBounds_toArray, List.set_cons_zero, List.set_cons_succ]
        refine wpAnyT_load 13 (i := 6) (oi := ?oiz20) (v := ?vz20) ?h1z20 (by kernel_rfl) (by kernel_rfl) (by kernel_rfl) (by kernel_rfl) (fun _ _ _ h => h) ?hyz20 (HeldT.of hHeld) ?_
        case h1z20 => (simp only [List.getElem?_toArray, List.getElem?_cons_succ, List.getElem?_cons_zero]; rfl)
        case hyz20 => first | (refine Or.inr ⟨rfl, ?_⟩; rfl) | (refine Or.inl ⟨rfl, ?_⟩; intro w hSw; (try dsimp only at hSw); go_simp; done) | (refine Or.inl ⟨rfl, ?_⟩; intro w hSw; (try dsimp only at hSw); go_simp; with_reducible rfl)
        try simp only [Act.put, List.setIfInBounds_toArray, List.set_cons_zero, List.set_cons_succ]
        refine wpAnyT_ready (rs := [4]) (by kernel_rfl) (by simp) ?_
        refine AllReadyT.cons (o := ?oiz21) ?h1z21 (fun K hK => ?_) ?morez21
        case h1z21 => (simp only [List.getElem?_toArray, List.getElem?_cons_succ, List.getElem?_cons_zero]; rfl)
        case morez21 => exact AllReadyT.nil
        go_simp
        go_at_call 16
        refine HCB.out.mono ?_
        rintro _ w4 ⟨u4, rfl, hu4, hb4⟩
        obtain ⟨A4, C4, rfl, -⟩ := hu4.slice.shape
        have HU4 := Lib.hid hu4
        have HB4 := Lib.hid hb4
        clear hu4 hb4
        have hHeld := HSX.out w4 HB4.out
        refine hK.out _ _ (HeldT.of hHeld) (fun _ => ?_)
        clear hK K
        try simp only [Act.put, List.setIfInBounds_toArray, List.set_cons_zero, List.set_cons_succ]
        refine wpAnyT_ready (rs := [7]) (by kernel_rfl) (by simp) ?_
        refine AllReadyT.cons (o := ?oiz22) ?h1z22 (fun K hK => ?_) ?morez22
        case h1z22 => (simp only [List.getElem?_toArray, List.getElem?_cons_succ, List.getElem?_cons_zero]; rfl)
        case morez22 => exact AllReadyT.nil
        go_simp
        go_at_call 17
        refine (HCS.out w4 HB4.out).mono ?_
        rintro _ w5 ⟨u5, rfl, hu5, hb5⟩
        obtain ⟨A5, C5, rfl, -⟩ := hu5.slice.shape
        have HB5 := Lib.hid hb5
        have hSf := HSY.out w5 (HB4.out.trans (hb5.mono HB4.out.size)) (.slice A4 a.data.length C4)
        obtain ⟨⟨v8, y8⟩, ⟨v9, y9⟩, j8, j9, hfin⟩ := HTL.out w4 w5 _ _ HB4.out HU4.out hb5 hu5
        have HFIN := Lib.hid hfin
        clear hu5 hb5 hfin
        have hHeld := HSX.out w5 (HB4.out.trans (HB5.out.mono HB4.out.size))
        refine hK.out _ _ (HeldT.of hHeld) (fun _ => ?_)
        clear hK K
        try simp only [Act.put, List.setIfInBounds_toArray, List.set_cons_zero, List.set_cons_succ]
        refine wpAnyT_take (i := 8) (oi := ?oiz23) (v := ?vz23) ?h1z23 (by kernel_rfl) (by kernel_rfl) (by kernel_rfl) (by kernel_rfl) (fun _ _ _ h => h) ?hyz23 (HeldT.of hHeld) ?_
        case h1z23 => (simp only [List.getElem?_toArray, List.getElem?_cons_succ, List.getElem?_cons_zero]; rfl)
        case hyz23 => first | (refine Or.inr ⟨rfl, ?_⟩; rfl) | (refine Or.inl ⟨rfl, ?_⟩; intro w hSw; (try dsimp only at hSw); go_simp; done) | (refine Or.inl ⟨rfl, ?_⟩; intro w hSw; (try dsimp only at hSw); go_simp; with_reducible rfl)
        try simp only [Act.put, List.setIfInBounds_toArray, List.set_cons_zero, List.set_cons_succ]
        refine wpAnyT_take (i := 9) (oi := ?oiz24) (v := ?vz24) ?h1z24 (by kernel_rfl) (by kernel_rfl) (by kernel_rfl) (by kernel_rfl) (fun _ _ _ h => h) ?hyz24 (HeldT.of hHeld) ?_
        case h1z24 => (simp only [List.getElem?_toArray, List.getElem?_cons_succ, List.getElem?_cons_zero]; rfl)
        case hyz24 => first | (refine Or.inr ⟨rfl, ?_⟩; rfl) | (refine Or.inl ⟨rfl, ?_⟩; intro w hSw; (try dsimp only at hSw); go_simp; done) | (refine Or.inl ⟨rfl, ?_⟩; intro w hSw; (try dsimp only at hSw); go_simp; with_reducible rfl)
        try simp only [Act.put, List.setIfInBounds_toArray, List.set_cons_zero, List.set_cons_succ]
        refine wpAnyT_ready (rs := [10]) (by kernel_rfl) (by simp) ?_
        refine AllReadyT.cons (o := ?oiz25) ?h1z25 (fun K hK => ?_) ?morez25
        case h1z25 => (simp only [List.getElem?_toArray, List.getElem?_cons_succ, List.getElem?_cons_zero]; rfl)
        case morez25 => exact AllReadyT.nil
        go_simp
        have hHeld := hSf
        refine hK.out _ _ (HeldT.of hHeld) (fun _ => ?_)
        clear hK K
        try simp only [Act.put, List.setIfInBounds_toArray, List.set_cons_zero, List.set_cons_succ]
        refine wpAnyT_take (i := 11) (oi := ?oiz26) (v := ?vz26) ?h1z26 (by kernel_rfl) (by kernel_rfl) (by kernel_rfl) (by kernel_rfl) (fun _ _ _ h => h) ?hyz26 (HeldT.of hHeld) ?_
        case h1z26 => (simp only [List.getElem?_toArray, List.getElem?_cons_succ, List.getElem?_cons_zero]; rfl)
        case hyz26 => first | (refine Or.inr ⟨rfl, ?_⟩; rfl) | (refine Or.inl ⟨rfl, ?_⟩; intro w hSw; (try dsimp only at hSw); go_simp; done) | (refine Or.inl ⟨rfl, ?_⟩; intro w hSw; (try dsimp only at hSw); go_simp; with_reducible rfl)
        try simp only [Act.put, List.setIfInBounds_toArray, List.set_cons_zero, List.set_cons_succ]
        refine wpAnyT_take (i := 12) (oi := ?oiz27) (v := ?vz27) ?h1z27 (by kernel_rfl) (by kernel_rfl) (by kernel_rfl) (by kernel_rfl) (fun _ _ _ h => h) ?hyz27 (HeldT.of hHeld) ?_
        case h1z27 => (simp only [List.getElem?_toArray, List.getElem?_cons_succ, List.getElem?_cons_zero]; rfl)
        case hyz27 => first | (refine Or.inr ⟨rfl, ?_⟩; rfl) | (refine Or.inl ⟨rfl, ?_⟩; intro w hSw; (try dsimp only at hSw); go_simp; done) | (refine Or.inl ⟨rfl, ?_⟩; intro w hSw; (try dsimp only at hSw); go_simp; with_reducible rfl)
        try simp only [Act.put, List.setIfInBounds_toArray, List.set_cons_zero, List.set_cons_succ]
        refine wpAnyT_ready (rs := [13]) (by kernel_rfl) (by simp) ?_
        refine AllReadyT.cons (o := ?oiz28) ?h1z28 (fun K hK => ?_) ?morez28
        case h1z28 => (simp only [List.getElem?_toArray, List.getElem?_cons_succ, List.getElem?_cons_zero]; rfl)
        case morez28 => exact AllReadyT.nil
        go_simp
        refine hK.out _ _ (HeldT.over (by kernel_rfl)) (fun _ => ?_)
        clear hK K
        try simp only [Act.put, List.setIfInBounds_toArray, List.set_cons_zero, List.set_cons_succ]
        refine wpAnyT_done (by kernel_rfl) ?_ _
        refine NoPanic.normal ?_
        obtain ⟨w6, hw6⟩ : ∃ w6, (w5.setCell ⟨g, k * 10 + 8, none⟩ (.slice A4 a.data.length C4)).setCell ⟨g, k * 10 + 9, none⟩ (.slice A5 a.keys.length C5) = w6 := ⟨_, rfl⟩
        rw [hw6] at HFIN ⊢
        obtain ⟨E6, h6a, ht6, hE6⟩ := HFIN.out
        have h6 : HAt w6 E6 p (some b) (.slice (some ⟨g, 0, none⟩) n C) (s.put k (Hs.over s.mom a (Hs.seen s.mom a c))) := h6a
        have m2 : w6.cell? ⟨p, 2, none⟩ = some (.map (some b)) := h6.cell (i := 2) (by omega)
        have hm6 := h6.someMap
        have HH6 := Lib.hid h6
        have HM6 := Lib.hid hm6
        have HT6 := Lib.hid (HTD.out.trans ht6 (Grown.refl _ _))
        have HE6 := Lib.hid hE6
        have HDR := Lib.hid (fun (y : CallD) (hy : y.task = c.task) => run_drop (hk := HK.out) HH.out.uniq HF.out HC.out HDN.out hy)
        clear h6 h6a ht6 hE6 hm6 y8 y9 j8 j9 HFIN hw6 hSd
        go_wp2_with (at_delete; refine wpList_drop_task _ rfl _ _ rfl b _ (s.hit k a) HM6.out HT.out (HDR.out (Hs.over s.mom a (Hs.seen s.mom a c)) (Hs.seen_task _ _ _)).1 (HDR.out (Hs.over s.mom a (Hs.seen s.mom a c)) (Hs.seen_task _ _ _)).2 rfl rfl ?_; intro w7 hm7 ht7)
        go_end0
        rw [HE.out]
        exact ⟨rfl, run_end HH6.out hm7 ht7 HT6.out HE6.out HTD.out.size (by rw [St.hit_calls HK.out HDN.out, HC.out]) HH.out.uniq⟩
      · have hdn' : a.done = false := by simpa using hdn
        have q2 : w1.cell? ⟨B, 2, none⟩ = some (.bool false) := by rw [← hdn']; exact HR2.out.cell (i := 2) (by omega)
        have HS := Lib.hid (show s.hit k a = s.put k (Hs.seen s.mom a c) by rw [St.hit_no HK.out hdn', HC.out])
        clear hdn hdn'
        go_wp2
        go_end0
        rw [HE.out, HS.out]
        exact ⟨rfl, _, ⟨E, some b, _, H2.out, rfl⟩, HT2.out, Grown.trans (Grown.refl _ _) (Grown.refl _ _) (Nat.le_refl _)⟩
    · have q1 : (a.mark != (0 : Int)) = true := by rw [bne_iff_ne]; exact hmk
      have hsm : Hs.seen s.mom a c = ⟨c.task, c.op, c.key, c.data, c.fr, c.to, s.mom, c.e, c.out, c.keys⟩ := by unfold Hs.seen; rw [if_neg hmk]
      have c0 : w1.cell? ⟨p, 0, none⟩ = some (.int .i64 (s.mom : Nat)) := H1.out.cell (i := 0) (by omega)
      obtain ⟨v6, y6⟩ := H1.out.el HK.out 6 (by omega)
      have j6 : w1.frozen? ⟨g, k * 10 + 6, none⟩ = false := H1.out.elfree HK.out _
      obtain ⟨w2, hw2⟩ : ∃ w2, w1.setCell ⟨g, k * 10 + 6, none⟩ (.int .i64 (s.mom : Nat)) = w2 := ⟨_, rfl⟩
      have H2 := Lib.hid (show HAt w2 E p (some b) (.slice (some ⟨g, 0, none⟩) n C) (s.put k (Hs.seen s.mom a c)) by
        rw [hsm, ← hw2]; exact H1.out.setMo HK.out ⟨by omega, by have := HMOM.out; omega⟩ HC.out)
      have HT2 := Lib.hid (show Turned (foot E p (some b) (.slice (some ⟨g, 0, none⟩) n C)) w w2 by rw [← hw2]; exact (Turned.of_below _ HB1.out).trans (Turned.set (b := g) _ (.inr (.inr (.inr rfl)))) (Grown.refl _ _))
      have HR2 := Lib.hid (show w2.rowIs B TAns 6 (fun i => #[Value.int .i64 a.e, .int .i64 a.task, .bool a.done, .int .i64 a.mark, .slice AD ND CD, .slice AK NK CK].getD i undef) by rw [← hw2]; exact HROW.out.of_block (Below.heap_setCell _ _ _ _ HGB.out))
      have HK2 := Lib.hid (show k < (s.put k (Hs.seen s.mom a c)).calls.length by simpa [St.put] using HK.out)
      clear hmk hsm
      go_upto_region 6 with fail
      clear c1 c2 c0 y6 j6 b2 b3 q1 hw2
      by_cases hdn : a.done = true
      · have HDN := Lib.hid hdn
        have q2 : w2.cell? ⟨B, 2, none⟩ = some (.bool true) := by rw [← hdn]; exact HR2.out.cell (i := 2) (by omega)
        have q0 : w2.cell? ⟨B, 0, none⟩ = some (.int .i64 a.e) := HR2.out.cell (i := 0) (by omega)
        have c0 : w2.cell? ⟨p, 0, none⟩ = some (.int .i64 (s.mom : Nat)) := H2.out.cell (i := 0) (by omega)
        obtain ⟨v5, y5⟩ := H2.out.el HK2.out 5 (by omega)
        obtain ⟨v7, y7⟩ := H2.out.el HK2.out 7 (by omega)
        have j5 : w2.frozen? ⟨g, k * 10 + 5, none⟩ = false := H2.out.elfree HK2.out _
        have j7 : w2.frozen? ⟨g, k * 10 + 7, none⟩ = false := H2.out.elfree HK2.out _
        have HSD := Lib.hid (show w2.drew.cell? ⟨p, 0, none⟩ = some (.int .i64 (s.mom : Nat)) ∧ w2.drew.cell? ⟨B, 0, none⟩ = some (.int .i64 a.e) from ⟨c0, q0⟩)
        have HSE := Lib.hid (show (w2.setCell ⟨g, k * 10 + 5, none⟩ (.int .i64 (s.mom : Nat))).drew.cell? ⟨p, 0, none⟩ = some (.int .i64 (s.mom : Nat)) ∧ (w2.setCell ⟨g, k * 10 + 5, none⟩ (.int .i64 (s.mom : Nat))).drew.cell? ⟨B, 0, none⟩ = some (.int .i64 a.e) from
          ⟨(H2.out.head.of_block (Below.heap_setCell w2 ⟨g, k * 10 + 5, none⟩ (.int .i64 (s.mom : Nat)) p (fun q => H2.out.vp (by rw [q]; rfl)))).cell (i := 0) (by omega), (HR2.out.of_block (Below.heap_setCell w2 ⟨g, k * 10 + 5, none⟩ (.int .i64 (s.mom : Nat)) B HGB.out)).cell (i := 0) (by omega)⟩)
        clear hdn c0 q0
        go_upto_region 7 with fail
        clear q2
        refine wp_region_noPanic ?_
        refine wp_region_till [10, 13] (fun w' => w'.cell? ⟨p, 0, none⟩ = some (.int .i64 (s.mom : Nat)) ∧ w'.cell? ⟨B, 0, none⟩ = some (.int .i64 a.e)) (by kernel_rfl) HSD.out (fun _ => ?_)
        have hHeld := HSD.out
        refine wpAnyT_take (i := 0) (oi := ?oiz29) (v := ?vz29) ?h1z29 (by kernel_rfl) (by kernel_rfl) (by kernel_rfl) (by kernel_rfl) (fun _ _ _ h => h) ?hyz29 (HeldT.of hHeld) ?_
        case h1z29 => (simp only [List.getElem?_toArray, List.getElem?_cons_zero]; rfl)
        case hyz29 => first | (refine Or.inr ⟨rfl, ?_⟩; rfl) | (refine Or.inl ⟨rfl, ?_⟩; intro w hSw; (try dsimp only at hSw); go_simp; done) | (refine Or.inl ⟨rfl, ?_⟩; intro w hSw; (try dsimp only at hSw); go_simp; with_reducible rfl)
        try simp only [Act.put, List.setIfInBounds_toArray, List.set_cons_zero, List.set_cons_succ]
        refine wpAnyT_take (i := 1) (oi := ?oiz30) (v := ?vz30) ?h1z30 (by kernel_rfl) (by kernel_rfl) (by kernel_rfl) (by kernel_rfl) (fun _ _ _ h => h) ?hyz30 (HeldT.of hHeld) ?_
        case h1z30 => (simp only [List.getElem?_toArray, List.getElem?_cons_succ, List.getElem?_cons_zero]; rfl)
        case hyz30 => first | (refine Or.inr ⟨rfl, ?_⟩; rfl) | (refine Or.inl ⟨rfl, ?_⟩; intro w hSw; (try dsimp only at hSw); go_simp; done) | (refine Or.inl ⟨rfl, ?_⟩; intro w hSw; (try dsimp only at hSw); go_simp; with_reducible rfl)
        try simp only [Act.put, List.setIfInBounds_toArray, List.set_cons_zero, List.set_cons_succ]
        refine wpAnyT_take (i := 2) (oi := ?oiz31) (v := ?vz31) ?h1z31 (by kernel_rfl) (by kernel_rfl) (by kernel_rfl) (by kernel_rfl) (fun _ _ _ h => h) ?hyz31 (HeldT.of hHeld) ?_
        case h1z31 => (simp only [List.getElem?_toArray, List.getElem?_cons_succ, List.getElem?_cons_zero]; rfl)
        case hyz31 => first | (refine Or.inr ⟨rfl, ?_⟩; rfl) | (refine Or.inl ⟨rfl, ?_⟩; intro w hSw; (try dsimp only at hSw); go_simp; done) | (refine Or.inl ⟨rfl, ?_⟩; intro w hSw; (try dsimp only at hSw); go_simp; with_reducible rfl)
        try simp only [Act.put, List.setIfInBounds_toArray, List.set_cons_zero, List.set_cons_succ]
        refine wpAnyT_take (i := 3) (oi := ?oiz32) (v := ?vz32) ?h1z32 (by kernel_rfl) (by kernel_rfl) (by kernel_rfl) (by kernel_rfl) (fun _ _ _ h => h) ?hyz32 (HeldT.of hHeld) ?_
        case h1z32 => (simp only [List.getElem?_toArray, List.getElem?_cons_succ, List.getElem?_cons_zero]; rfl)
        case hyz32 => first | (refine Or.inr ⟨rfl, ?_⟩; rfl) | (refine Or.inl ⟨rfl, ?_⟩; intro w hSw; (try dsimp only at hSw); go_simp; done) | (refine Or.inl ⟨rfl, ?_⟩; intro w hSw; (try dsimp only at hSw); go_simp; with_reducible rfl)
        try simp only [Act.put, List.setIfInBounds_toArray, List.set_cons_zero, List.set_cons_succ]
        refine wpAnyT_take (i := 4) (oi := ?oiz33) (v := ?vz33) ?h1z33 (by kernel_rfl) (by kernel_rfl) (by kernel_rfl) (by kernel_rfl) (fun _ _ _ h => h) ?hyz33 (HeldT.of hHeld) ?_
        case h1z33 => (simp only [List.getElem?_toArray, List.getElem?_cons_succ, List.getElem?_cons_zero]; rfl)
        case hyz33 => first | (refine Or.inr ⟨rfl, ?_⟩; rfl) | (refine Or.inl ⟨rfl, ?_⟩; intro w hSw; (try dsimp only at hSw); go_simp; done) | (refine Or.inl ⟨rfl, ?_⟩; intro w hSw; (try dsimp only at hSw); go_simp; with_reducible rfl)
        try simp only [Act.put, List.setIfInBounds_toArray, List.set_cons_zero, List.set_cons_succ]
        refine wpAnyT_load 10 (i := 5) (oi := ?oiz34) (v := ?vz34) ?h1z34 (by kernel_rfl) (by kernel_rfl) (by kernel_rfl) (by kernel_rfl) (fun _ _ _ h => h) ?hyz34 (HeldT.of hHeld) ?_
        case h1z34 => (simp only [List.getElem?_toArray, List.getElem?_cons_succ, List.getElem?_cons_zero]; rfl)
        case hyz34 => first | (refine Or.inr ⟨rfl, ?_⟩; rfl) | (refine Or.inl ⟨rfl, ?_⟩; intro w hSw; (try dsimp only at hSw); go_simp; done) | (refine Or.inl ⟨rfl, ?_⟩; intro w hSw; (try dsimp only at hSw); go_simp; with_reducible rfl)
        try simp only [Act.put, List.setIfInBounds_toArray, List.set_cons_zero, List.set_cons_succ]
        refine wpAnyT_take (i := 6) (oi := ?oiz35) (v := ?vz35) ?h1z35 (by kernel_rfl) (by kernel_rfl) (by kernel_rfl) (by kernel_rfl) (fun _ _ _ h => h) ?hyz35 (HeldT.of hHeld) ?_
        case h1z35 => (simp only [List.getElem?_toArray, List.getElem?_cons_succ, List.getElem?_cons_zero]; rfl)
        case hyz35 => first | (refine Or.inr ⟨rfl, ?_⟩; rfl) | (refine Or.inl ⟨rfl, ?_⟩; intro w hSw; (try dsimp only at hSw); go_simp; done) | (refine Or.inl ⟨rfl, ?_⟩; intro w hSw; (try dsimp only at hSw); go_simp; with_reducible rfl)
        try simp only [Act.put, List.setIfInBounds_toArray, List.set_cons_zero, List.set_cons_succ]
        refine wpAnyT_load 13 (i := 7) (oi := ?oiz36) (v := ?vz36) ?h1z36 (by kernel_rfl) (by kernel_rfl) (by kernel_rfl) (by kernel_rfl) (fun _ _ _ h => h) ?hyz36 (HeldT.of hHeld) ?_
        case h1z36 => (simp only [List.getElem?_toArray, List.getElem?_cons_succ, List.getElem?_cons_zero]; rfl)
        case hyz36 => first | (refine Or.inr ⟨rfl, ?_⟩; rfl) | (refine Or.inl ⟨rfl, ?_⟩; intro w hSw; (try dsimp only at hSw); go_simp; done) | (refine Or.inl ⟨rfl, ?_⟩; intro w hSw; (try dsimp only at hSw); go_simp; with_reducible rfl)
        try simp only [Act.put, List.setIfInBounds_toArray, List.set_cons_zero, List.set_cons_succ]
        refine wpAnyT_take (i := 8) (oi := ?oiz37) (v := ?vz37) ?h1z37 (by kernel_rfl) (by kernel_rfl) (by kernel_rfl) (by kernel_rfl) (fun _ _ _ h => h) ?hyz37 (HeldT.of hHeld) ?_
        case h1z37 => (simp only [List.getElem?_toArray, List.getElem?_cons_succ, List.getElem?_cons_zero]; rfl)
        case hyz37 => first | (refine Or.inr ⟨rfl, ?_⟩; rfl) | (refine Or.inl ⟨rfl, ?_⟩; intro w hSw; (try dsimp only at hSw); go_simp; done) | (refine Or.inl ⟨rfl, ?_⟩; intro w hSw; (try dsimp only at hSw); go_simp; with_reducible rfl)
        try simp only [Act.put, List.setIfInBounds_toArray, List.set_cons_zero, List.set_cons_succ]
        refine wpAnyT_take (i := 9) (oi := ?oiz38) (v := ?vz38) ?h1z38 (by kernel_rfl) (by kernel_rfl) (by kernel_rfl) (by kernel_rfl) (fun _ _ _ h => h) ?hyz38 (HeldT.of hHeld) ?_
        case h1z38 => (simp only [List.getElem?_toArray, List.getElem?_cons_succ, List.getElem?_cons_zero]; rfl)
        case hyz38 => first | (refine Or.inr ⟨rfl, ?_⟩; rfl) | (refine Or.inl ⟨rfl, ?_⟩; intro w hSw; (try dsimp only at hSw); go_simp; done) | (refine Or.inl ⟨rfl, ?_⟩; intro w hSw; (try dsimp only at hSw); go_simp; with_reducible rfl)
        try simp only [Act.put, List.setIfInBounds_toArray, List.set_cons_zero, List.set_cons_succ]
        refine wpAnyT_ready (rs := [10]) (by kernel_rfl) (by simp) ?_
        refine AllReadyT.cons (o := ?oiz39) ?h1z39 (fun K hK => ?_) ?morez39
        case h1z39 => (simp only [List.getElem?_toArray, List.getElem?_cons_succ, List.getElem?_cons_zero]; rfl)
        case morez39 => exact AllReadyT.nil
        go_simp
        have hHeld := HSE.out
        refine hK.out _ _ (HeldT.of hHeld) (fun _ => ?_)
        clear hK K
        try simp only [Act.put, List.setIfInBounds_toArray, List.set_cons_zero, List.set_cons_succ]
        refine wpAnyT_take (i := 11) (oi := ?oiz40) (v := ?vz40) ?h1z40 (by kernel_rfl) (by kernel_rfl) (by kernel_rfl) (by kernel_rfl) (fun _ _ _ h => h) ?hyz40 (HeldT.of hHeld) ?_
        case h1z40 => (simp only [List.getElem?_toArray, List.getElem?_cons_succ, List.getElem?_cons_zero]; rfl)
        case hyz40 => first | (refine Or.inr ⟨rfl, ?_⟩; rfl) | (refine Or.inl ⟨rfl, ?_⟩; intro w hSw; (try dsimp only at hSw); go_simp; done) | (refine Or.inl ⟨rfl, ?_⟩; intro w hSw; (try dsimp only at hSw); go_simp; with_reducible rfl)
        try simp only [Act.put, List.setIfInBounds_toArray, List.set_cons_zero, List.set_cons_succ]
        refine wpAnyT_take (i := 12) (oi := ?oiz41) (v := ?vz41) ?h1z41 (by kernel_rfl) (by kernel_rfl) (by kernel_rfl) (by kernel_rfl) (fun _ _ _ h => h) ?hyz41 (HeldT.of hHeld) ?_
        case h1z41 => (simp only [List.getElem?_toArray, List.getElem?_cons_succ, List.getElem?_cons_zero]; rfl)
        case hyz41 => first | (refine Or.inr ⟨rfl, ?_⟩; rfl) | (refine Or.inl ⟨rfl, ?_⟩; intro w hSw; (try dsimp only at hSw); go_simp; done) | (refine Or.inl ⟨rfl, ?_⟩; intro w hSw; (try dsimp only at hSw); go_simp; with_reducible rfl)
        try simp only [Act.put, List.setIfInBounds_toArray, List.set_cons_zero, List.set_cons_succ]
        refine wpAnyT_ready (rs := [13]) (by kernel_rfl) (by simp) ?_
        refine AllReadyT.cons (o := ?oiz42) ?h1z42 (fun K hK => ?_) ?morez42
        case h1z42 => (simp only [List.getElem?_toArray, List.getElem?_cons_succ, List.getElem?_cons_zero]; rfl)
        case morez42 => exact AllReadyT.nil
        go_simp
        refine hK.out _ _ (HeldT.over (by kernel_rfl)) (fun _ => ?_)
        clear hK K
        try simp only [Act.put, List.setIfInBounds_toArray, List.set_cons_zero, List.set_cons_succ]
        refine wpAnyT_done (by kernel_rfl) ?_ _
        refine NoPanic.normal ?_
        have HMI := Lib.hid (show I64 ((s.mom : Nat) : Int) from ⟨by omega, by have := HMOM.out; omega⟩)
        have hD2 : HAt (((w2.setCell ⟨g, k * 10 + 5, none⟩ (.int .i64 (s.mom : Nat))).setCell ⟨g, k * 10 + 7, none⟩ (.int .i64 a.e)).drew) _ _ _ _ _ := (H2.out.setEnd HK.out HMI.out HAE.out).below (below_drewN _ _ 1)
        have htD : Turned (foot E p (some b) (.slice (some ⟨g, 0, none⟩) n C)) w (((w2.setCell ⟨g, k * 10 + 5, none⟩ (.int .i64 (s.mom : Nat))).setCell ⟨g, k * 10 + 7, none⟩ (.int .i64 a.e)).drew) :=
          ((HT2.out.trans (Turned.set (F := (foot E p (some b) (.slice (some ⟨g, 0, none⟩) n C))) (b := g) _ (.inr (.inr (.inr rfl)))) (Grown.refl _ _)).trans (Turned.set (F := (foot E p (some b) (.slice (some ⟨g, 0, none⟩) n C))) (b := g) _ (.inr (.inr (.inr rfl)))) (Grown.refl _ _)).trans (Turned.drew _ _) (Grown.refl _ _)
        have hrD : (((w2.setCell ⟨g, k * 10 + 5, none⟩ (.int .i64 (s.mom : Nat))).setCell ⟨g, k * 10 + 7, none⟩ (.int .i64 a.e)).drew).rowIs B TAns 6 (fun i => #[Value.int .i64 a.e, .int .i64 a.task, .bool a.done, .int .i64 a.mark, .slice AD ND CD, .slice AK NK CK].getD i undef) :=
          (HR2.out.of_block (Below.heap_setCell _ _ _ _ HGB.out)).of_block (Below.heap_setCell _ _ _ _ HGB.out)
        obtain ⟨w3, hw3⟩ : ∃ w3, ((w2.setCell ⟨g, k * 10 + 5, none⟩ (.int .i64 (s.mom : Nat))).setCell ⟨g, k * 10 + 7, none⟩ (.int .i64 a.e)).drew = w3 := ⟨_, rfl⟩
        rw [hw3] at hD2 htD hrD ⊢
        have HD2 := Lib.hid hD2
        have HTD := Lib.hid htD
        have HRD := Lib.hid hrD
        clear hD2 htD hrD hw3 y5 y7 j5 j7 HSD
        go_upto_region 8 with fail
        have hpt := ansV_parts (HAS.out w3.drew (HTD.out.trans (Turned.drew _ w3) (Grown.refl _ _)))
        rw [HND.out, HNK.out] at hpt
        have HCB := Lib.hid (cloneB a.data _ _ hpt.1 (by have := HL8.out; omega))
        have HCS := Lib.hid (fun (w4 : World) (hb : Below w3.drew.heap.size w3.drew w4) => cloneS a.keys _ w4 (hpt.2.below hb) (by have := HL9.out; omega))
        have HSX := Lib.hid (show ∀ w' : World, Below w3.drew.heap.size w3.drew w' → w'.cell? ⟨B, 4, none⟩ = some (.slice AD ND CD) ∧ w'.cell? ⟨B, 5, none⟩ = some (.slice AK NK CK) from fun w' hb => by
          have hr := (show w3.drew.rowIs B TAns 6 (fun i => #[Value.int .i64 a.e, .int .i64 a.task, .bool a.done, .int .i64 a.mark, .slice AD ND CD, .slice AK NK CK].getD i undef) from HRD.out).of_block (hb.block B HRD.out.lt)
          exact ⟨hr.cell (i := 4) (by omega), hr.cell (i := 5) (by omega)⟩)
        have HSY := Lib.hid (show ∀ w' : World, Below w3.drew.heap.size w3.drew w' → ∀ u : Value, (w'.setCell ⟨g, k * 10 + 8, none⟩ u).cell? ⟨B, 4, none⟩ = some (.slice AD ND CD) ∧ (w'.setCell ⟨g, k * 10 + 8, none⟩ u).cell? ⟨B, 5, none⟩ = some (.slice AK NK CK) from fun w' hb u => by
          have hr := (((show w3.drew.rowIs B TAns 6 (fun i => #[Value.int .i64 a.e, .int .i64 a.task, .bool a.done, .int .i64 a.mark, .slice AD ND CD, .slice AK NK CK].getD i undef) from HRD.out).of_block (hb.block B HRD.out.lt))).of_block (Below.heap_setCell w' ⟨g, k * 10 + 8, none⟩ u B HGB.out)
          exact ⟨hr.cell (i := 4) (by omega), hr.cell (i := 5) (by omega)⟩)
        have hSd := HSX.out _ (Below.refl _ _)
        have HTL := Lib.hid (fun (w4 w5 : World) (u v : Value) (hb4 : Below w3.drew.heap.size w3.drew w4) (hu : Built ByteR w4 w3.drew.heap.size 5 u a.data) (hb5 : Below w4.heap.size w4 w5) (hv : Built StrR w5 w4.heap.size 9 v a.keys) => run_tail HD2.out HK.out HL8.out HL9.out hb4 hu hb5 hv)
        clear hpt
        refine wp_region_noPanic ?_
        refine wp_region_till [10, 13] (fun w' => w'.cell? ⟨B, 4, none⟩ = some (.slice AD ND CD) ∧ w'.cell? ⟨B, 5, none⟩ = some (.slice AK NK CK)) (by kernel_rfl) hSd (fun _ => ?_)
        have hHeld := hSd
        refine wpAnyT_take (i := 0) (oi := ?oiz43) (v := ?vz43) ?h1z43 (by kernel_rfl) (by kernel_rfl) (by kernel_rfl) (by kernel_rfl) (fun _ _ _ h => h) ?hyz43 (HeldT.of hHeld) ?_
        case h1z43 => (simp only [List.getElem?_toArray, List.getElem?_cons_zero]; rfl)
        case hyz43 => first | (refine Or.inr ⟨rfl, ?_⟩; rfl) | (refine Or.inl ⟨rfl, ?_⟩; intro w hSw; (try dsimp only at hSw); go_simp; done) | (refine Or.inl ⟨rfl, ?_⟩; intro w hSw; (try dsimp only at hSw); go_simp; with_reducible rfl)
        try simp only [Act.put, List.setIfInBounds_toArray, List.set_cons_zero, List.set_cons_succ]
        refine wpAnyT_take (i := 1) (oi := ?oiz44) (v := ?vz44) ?h1z44 (by kernel_rfl) (by kernel_rfl) (by kernel_rfl) (by kernel_rfl) (fun _ _ _ h => h) ?hyz44 (HeldT.of hHeld) ?_
        case h1z44 => (simp only [List.getElem?_toArray, List.getElem?_cons_succ, List.getElem?_cons_zero]; rfl)
        case hyz44 => first | (refine Or.inr ⟨rfl, ?_⟩; rfl) | (refine Or.inl ⟨rfl, ?_⟩; intro w hSw; (try dsimp only at hSw); go_simp; done) | (refine Or.inl ⟨rfl, ?_⟩; intro w hSw; (try dsimp only at hSw); go_simp; with_reducible rfl)
        try simp only [Act.put, List.setIfInBounds_toArray, List.set_cons_zero, List.set_cons_succ]
        refine wpAnyT_take (i := 2) (oi := ?oiz45) (v := ?vz45) ?h1z45 (by kernel_rfl) (by kernel_rfl) (by kernel_rfl) (by kernel_rfl) (fun _ _ _ h => h) ?hyz45 (HeldT.of hHeld) ?_
        case h1z45 => (simp only [List.getElem?_toArray, List.getElem?_cons_succ, List.getElem?_cons_zero]; rfl)
        case hyz45 => first | (refine Or.inr ⟨rfl, ?_⟩; rfl) | (refine Or.inl ⟨rfl, ?_⟩; intro w hSw; (try dsimp only at hSw); go_simp; done) | (refine Or.inl ⟨rfl, ?_⟩; intro w hSw; (try dsimp only at hSw); go_simp; with_reducible rfl)
        try simp only [Act.put, List.setIfInBounds_toArray, List.set_cons_zero, List.set_cons_succ]
        refine wpAnyT_load 10 (i := 3) (oi := ?oiz46) (v := ?vz46) ?h1z46 (by kernel_rfl) (by kernel_rfl) (by kernel_rfl) (by kernel_rfl) (fun _ _ _ h => h) ?hyz46 (HeldT.of hHeld) ?_
        case h1z46 => (simp only [List.getElem?_toArray, List.getElem?_cons_succ, List.getElem?_cons_zero]; rfl)
        case hyz46 => first | (refine Or.inr ⟨rfl, ?_⟩; rfl) | (refine Or.inl ⟨rfl, ?_⟩; intro w hSw; (try dsimp only at hSw); go_simp; done) | (refine Or.inl ⟨rfl, ?_⟩; intro w hSw; (try dsimp only at hSw); go_simp; with_reducible rfl)
        try simp only [Act.put, List.setIfInBounds_toArray, List.set_cons_zero, List.set_cons_succ]
        refine wpAnyT_take (i := 5) (oi := ?oiz47) (v := ?vz47) ?h1z47 (by kernel_rfl) (by kernel_rfl) (by kernel_rfl) (by kernel_rfl) (fun _ _ _ h => h) ?hyz47 (HeldT.of hHeld) ?_
        case h1z47 => (simp only [List.getElem?_toArray, List.getElem?_cons_succ, List.getElem?_cons_zero]; rfl)
        case hyz47 => first | (refine Or.inr ⟨rfl, ?_⟩; rfl) | (refine Or.inl ⟨rfl, ?_⟩; intro w hSw; (try dsimp only at hSw); go_simp; done) | (refine Or.inl ⟨rfl, ?_⟩; intro w hSw; (try dsimp only at hSw); go_simp; with_reducible rfl)
        try simp only [Act.put, List.setIfInBounds_toArray, List.set_cons_zero, List.set_cons_succ]
        refine wpAnyT_load 13 (i := 6) (oi := ?oiz48) (v := ?vz48) ?h1z48 (by kernel_rfl) (by kernel_rfl) (by kernel_rfl) (by kernel_rfl) (fun _ _ _ h => h) ?hyz48 (HeldT.of hHeld) ?_
        case h1z48 => (simp only [List.getElem?_toArray, List.getElem?_cons_succ, List.getElem?_cons_zero]; rfl)
        case hyz48 => first | (refine Or.inr ⟨rfl, ?_⟩; rfl) | (refine Or.inl ⟨rfl, ?_⟩; intro w hSw; (try dsimp only at hSw); go_simp; done) | (refine Or.inl ⟨rfl, ?_⟩; intro w hSw; (try dsimp only at hSw); go_simp; with_reducible rfl)
        try simp only [Act.put, List.setIfInBounds_toArray, List.set_cons_zero, List.set_cons_succ]
        refine wpAnyT_ready (rs := [4]) (by kernel_rfl) (by simp) ?_
        refine AllReadyT.cons (o := ?oiz49) ?h1z49 (fun K hK => ?_) ?morez49
        case h1z49 => (simp only [List.getElem?_toArray, List.getElem?_cons_succ, List.getElem?_cons_zero]; rfl)
        case morez49 => exact AllReadyT.nil
        go_simp
        go_at_call 16
        refine HCB.out.mono ?_
        rintro _ w4 ⟨u4, rfl, hu4, hb4⟩
        obtain ⟨A4, C4, rfl, -⟩ := hu4.slice.shape
        have HU4 := Lib.hid hu4
        have HB4 := Lib.hid hb4
        clear hu4 hb4
        have hHeld := HSX.out w4 HB4.out
        refine hK.out _ _ (HeldT.of hHeld) (fun _ => ?_)
        clear hK K
        try simp only [Act.put, List.setIfInBounds_toArray, List.set_cons_zero, List.set_cons_succ]
        refine wpAnyT_ready (rs := [7]) (by kernel_rfl) (by simp) ?_
        refine AllReadyT.cons (o := ?oiz50) ?h1z50 (fun K hK => ?_) ?morez50
        case h1z50 => (simp only [List.getElem?_toArray, List.getElem?_cons_succ, List.getElem?_cons_zero]; rfl)
        case morez50 => exact AllReadyT.nil
        go_simp
        go_at_call 17
        refine (HCS.out w4 HB4.out).mono ?_
        rintro _ w5 ⟨u5, rfl, hu5, hb5⟩
        obtain ⟨A5, C5, rfl, -⟩ := hu5.slice.shape
        have HB5 := Lib.hid hb5
        have hSf := HSY.out w5 (HB4.out.trans (hb5.mono HB4.out.size)) (.slice A4 a.data.length C4)
        obtain ⟨⟨v8, y8⟩, ⟨v9, y9⟩, j8, j9, hfin⟩ := HTL.out w4 w5 _ _ HB4.out HU4.out hb5 hu5
        have HFIN := Lib.hid hfin
        clear hu5 hb5 hfin
        have hHeld := HSX.out w5 (HB4.out.trans (HB5.out.mono HB4.out.size))
        refine hK.out _ _ (HeldT.of hHeld) (fun _ => ?_)
        clear hK K
        try simp only [Act.put, List.setIfInBounds_toArray, List.set_cons_zero, List.set_cons_succ]
        refine wpAnyT_take (i := 8) (oi := ?oiz51) (v := ?vz51) ?h1z51 (by kernel_rfl) (by kernel_rfl) (by kernel_rfl) (by kernel_rfl) (fun _ _ _ h => h) ?hyz51 (HeldT.of hHeld) ?_
        case h1z51 => (simp only [List.getElem?_toArray, List.getElem?_cons_succ, List.getElem?_cons_zero]; rfl)
        case hyz51 => first | (refine Or.inr ⟨rfl, ?_⟩; rfl) | (refine Or.inl ⟨rfl, ?_⟩; intro w hSw; (try dsimp only at hSw); go_simp; done) | (refine Or.inl ⟨rfl, ?_⟩; intro w hSw; (try dsimp only at hSw); go_simp; with_reducible rfl)
        try simp only [Act.put, List.setIfInBounds_toArray, List.set_cons_zero, List.set_cons_succ]
        refine wpAnyT_take (i := 9) (oi := ?oiz52) (v := ?vz52) ?h1z52 (by kernel_rfl) (by kernel_rfl) (by kernel_rfl) (by kernel_rfl) (fun _ _ _ h => h) ?hyz52 (HeldT.of hHeld) ?_
        case h1z52 => (simp only [List.getElem?_toArray, List.getElem?_cons_succ, List.getElem?_cons_zero]; rfl)
        case hyz52 => first | (refine Or.inr ⟨rfl, ?_⟩; rfl) | (refine Or.inl ⟨rfl, ?_⟩; intro w hSw; (try dsimp only at hSw); go_simp; done) | (refine Or.inl ⟨rfl, ?_⟩; intro w hSw; (try dsimp only at hSw); go_simp; with_reducible rfl)
        try simp only [Act.put, List.setIfInBounds_toArray, List.set_cons_zero, List.set_cons_succ]
        refine wpAnyT_ready (rs := [10]) (by kernel_rfl) (by simp) ?_
        refine AllReadyT.cons (o := ?oiz53) ?h1z53 (fun K hK => ?_) ?morez53
        case h1z53 => (simp only [List.getElem?_toArray, List.getElem?_cons_succ, List.getElem?_cons_zero]; rfl)
        case morez53 => exact AllReadyT.nil
        go_simp
        have hHeld := hSf
        refine hK.out _ _ (HeldT.of hHeld) (fun _ => ?_)
        clear hK K
        try simp only [Act.put, List.setIfInBounds_toArray, List.set_cons_zero, List.set_cons_succ]
        refine wpAnyT_take (i := 11) (oi := ?oiz54) (v := ?vz54) ?h1z54 (by kernel_rfl) (by kernel_rfl) (by kernel_rfl) (by kernel_rfl) (fun _ _ _ h => h) ?hyz54 (HeldT.of hHeld) ?_
        case h1z54 => (simp only [List.getElem?_toArray, List.getElem?_cons_succ, List.getElem?_cons_zero]; rfl)
        case hyz54 => first | (refine Or.inr ⟨rfl, ?_⟩; rfl) | (refine Or.inl ⟨rfl, ?_⟩; intro w hSw; (try dsimp only at hSw); go_simp; done) | (refine Or.inl ⟨rfl, ?_⟩; intro w hSw; (try dsimp only at hSw); go_simp; with_reducible rfl)
        try simp only [Act.put, List.setIfInBounds_toArray, List.set_cons_zero, List.set_cons_succ]
        refine wpAnyT_take (i := 12) (oi := ?oiz55) (v := ?vz55) ?h1z55 (by kernel_rfl) (by kernel_rfl) (by kernel_rfl) (by kernel_rfl) (fun _ _ _ h => h) ?hyz55 (HeldT.of hHeld) ?_
        case h1z55 => (simp only [List.getElem?_toArray, List.getElem?_cons_succ, List.getElem?_cons_zero]; rfl)
        case hyz55 => first | (refine Or.inr ⟨rfl, ?_⟩; rfl) | (refine Or.inl ⟨rfl, ?_⟩; intro w hSw; (try dsimp only at hSw); go_simp; done) | (refine Or.inl ⟨rfl, ?_⟩; intro w hSw; (try dsimp only at hSw); go_simp; with_reducible rfl)
        try simp only [Act.put, List.setIfInBounds_toArray, List.set_cons_zero, List.set_cons_succ]
        refine wpAnyT_ready (rs := [13]) (by kernel_rfl) (by simp) ?_
        refine AllReadyT.cons (o := ?oiz56) ?h1z56 (fun K hK => ?_) ?morez56
        case h1z56 => (simp only [List.getElem?_toArray, List.getElem?_cons_succ, List.getElem?_cons_zero]; rfl)
        case morez56 => exact AllReadyT.nil
        go_simp
        refine hK.out _ _ (HeldT.over (by kernel_rfl)) (fun _ => ?_)
        clear hK K
        try simp only [Act.put, List.setIfInBounds_toArray, List.set_cons_zero, List.set_cons_succ]
        refine wpAnyT_done (by kernel_rfl) ?_ _
        refine NoPanic.normal ?_
        obtain ⟨w6, hw6⟩ : ∃ w6, (w5.setCell ⟨g, k * 10 + 8, none⟩ (.slice A4 a.data.length C4)).setCell ⟨g, k * 10 + 9, none⟩ (.slice A5 a.keys.length C5) = w6 := ⟨_, rfl⟩
        rw [hw6] at HFIN ⊢
        obtain ⟨E6, h6a, ht6, hE6⟩ := HFIN.out
        have h6 : HAt w6 E6 p (some b) (.slice (some ⟨g, 0, none⟩) n C) (s.put k (Hs.over s.mom a (Hs.seen s.mom a c))) := h6a
        have m2 : w6.cell? ⟨p, 2, none⟩ = some (.map (some b)) := h6.cell (i := 2) (by omega)
        have hm6 := h6.someMap
        have HH6 := Lib.hid h6
        have HM6 := Lib.hid hm6
        have HT6 := Lib.hid (HTD.out.trans ht6 (Grown.refl _ _))
        have HE6 := Lib.hid hE6
        have HDR := Lib.hid (fun (y : CallD) (hy : y.task = c.task) => run_drop (hk := HK.out) HH.out.uniq HF.out HC.out HDN.out hy)
        clear h6 h6a ht6 hE6 hm6 y8 y9 j8 j9 HFIN hw6 hSd
        go_wp2_with (at_delete; refine wpList_drop_task _ rfl _ _ rfl b _ (s.hit k a) HM6.out HT.out (HDR.out (Hs.over s.mom a (Hs.seen s.mom a c)) (Hs.seen_task _ _ _)).1 (HDR.out (Hs.over s.mom a (Hs.seen s.mom a c)) (Hs.seen_task _ _ _)).2 rfl rfl ?_; intro w7 hm7 ht7)
        go_end0
        rw [HE.out]
        exact ⟨rfl, run_end HH6.out hm7 ht7 HT6.out HE6.out HTD.out.size (by rw [St.hit_calls HK.out HDN.out, HC.out]) HH.out.uniq⟩
      · have hdn' : a.done = false := by simpa using hdn
        have q2 : w2.cell? ⟨B, 2, none⟩ = some (.bool false) := by rw [← hdn']; exact HR2.out.cell (i := 2) (by omega)
        have HS := Lib.hid (show s.hit k a = s.put k (Hs.seen s.mom a c) by rw [St.hit_no HK.out hdn', HC.out])
        clear hdn hdn'
        go_wp2
        go_end0
        rw [HE.out, HS.out]
        exact ⟨rfl, _, ⟨E, some b, _, H2.out, rfl⟩, HT2.out, Grown.trans (Grown.refl _ _) (Grown.refl _ _) (Nat.le_refl _)⟩
end Go.Proofs.Ytcljpniknpgmpaa.Hst
