/- The program's history: Calls; what the laws want of it, in one term. -/
import Derived.Test.YtcljpniknpgmpaaHsAdd
namespace Go.Proofs.Ytcljpniknpgmpaa.Hst
set_option linter.unusedVariables false
open Go.ChangeShapes Go.WideShapes Go.ChangeAt Go.RowKit
open Go.Mem Hs
theorem built_free {α : Type} {R : World → Value → α → Prop} {w : World} {base t : Nat} {v : Value} {l : List α} (h : Built R w base t v l) : On (fun b => v.ownBlock = some b) w (fun w' => ∀ b o n C, v = .slice (some ⟨b, o, none⟩) n C → ∀ i, w'.frozen? ⟨b, i, none⟩ = false) := by
  intro w' ht b o n C e i
  obtain ⟨xs, h1, h2⟩ := h
  have h3 := ownsRow_on h1 ht
  rcases h3.2 with ⟨q, _⟩ | ⟨g, cap, cur, q, _⟩
  · rw [q] at e; cases e
  · rw [q] at e
    cases e
    rw [q] at h3
    exact h3.frozenAt i
/-- in the midst of Calls: i calls have parts of their own, in blocks K -/
def CpMid (E : Nat → Prop) (w0 : World) (u : Value) (L : List CallD) (i : Nat) (w : World) : Prop :=
  ∃ (xs : List Value) (K : Nat → Prop), w.ownsRow w0.heap.size TCall 10 u L.length xs ∧ (∀ b, K b → w0.heap.size ≤ b ∧ b < w.heap.size ∧ u.ownBlock ≠ some b) ∧
    (∀ j (hj : j < L.length), ∃ f : Nat → Value, (∀ m, m < 10 → xs[j * 10 + m]? = some (f m)) ∧ (j < i → On K w (fun w' => CallW w' f L[j])) ∧ (i ≤ j → On E w (fun w' => CallR w' f L[j]))) ∧ Below w0.heap.size w0 w
theorem CpMid.bel {E : Nat → Prop} {w0 w : World} {u : Value} {L : List CallD} {i : Nat} (h : CpMid E w0 u L i w) : Below w0.heap.size w0 w := by
  obtain ⟨_, _, _, _, _, q⟩ := h
  exact q
theorem CpMid.row {E : Nat → Prop} {w0 w : World} {u : Value} {L : List CallD} {i : Nat} (h : CpMid E w0 u L i w) : ∃ xs, w.ownsRow w0.heap.size TCall 10 u L.length xs := by
  obtain ⟨xs, _, q, _⟩ := h
  exact ⟨xs, q⟩
theorem CpMid.own {E : Nat → Prop} {w0 w : World} {u : Value} {L : List CallD} (h : CpMid E w0 u L L.length w) : Own w0 w (fun w'' => Cells 10 CallW w'' u L) := by
  obtain ⟨xs, K, h1, h2, h3, h4⟩ := h
  have hlt := h1.lt
  have hb : BuiltX 10 CallW K w TCall u L := ⟨xs, ⟨h1.1, by
    rcases h1.2 with q | ⟨g, cap, cur, e, _, q⟩
    · exact .inl q
    · exact .inr ⟨g, cap, cur, e, Nat.zero_le _, q⟩⟩, fun b q z => (h2 b z).2.2 q, fun i hi => by
    obtain ⟨f, e, q, _⟩ := h3 i hi
    exact ⟨f, e, q hi⟩⟩
  refine ⟨fun w' ht => hb.on w' (ht.mono fun b q z => ?_), h4⟩
  have q' : b < w0.heap.size := q
  rcases z with z | z
  · have := (h2 b z).1; omega
  · have := (hlt b z).1; omega
/-- one call more has parts of its own -/
theorem CpMid.next {E : Nat → Prop} {w0 wr w1 w2 w3 : World} {g n C : Nat} {L : List CallD} {i : Nat} {u1 u2 u3 : Value} (h : CpMid E w0 (.slice (some ⟨g, 0, none⟩) n C) L i wr) (hi : i < L.length) (hE : ∀ b, E b → b < w0.heap.size)
    (b1 : Below wr.heap.size wr w1) (hu1 : Built ByteR w1 wr.heap.size 5 u1 L[i].data) (b2 : Below w1.heap.size w1 w2) (hu2 : Built ByteR w2 w1.heap.size 5 u2 L[i].out) (b3 : Below w2.heap.size w2 w3) (hu3 : Built StrR w3 w2.heap.size 9 u3 L[i].keys) :
    (∀ m, m < 10 → ∃ v, w3.cell? ⟨g, i * 10 + m, none⟩ = some v) ∧ (∀ m, w3.frozen? ⟨g, m, none⟩ = false) ∧
      CpMid E w0 (.slice (some ⟨g, 0, none⟩) n C) L (i + 1) (((w3.setCell ⟨g, i * 10 + 3, none⟩ u1).setCell ⟨g, i * 10 + 8, none⟩ u2).setCell ⟨g, i * 10 + 9, none⟩ u3) := by
  obtain ⟨xs, K, h1, h2, h3, h4⟩ := h
  have hn : n = L.length := by
    rcases h1.2 with ⟨e1, _⟩ | ⟨g', cap, cur, e1, _⟩
    · cases e1
    · injection e1
  subst hn
  have hgl := h1.lt g rfl
  have b13 : Below wr.heap.size wr w3 := b1.trans ((b2.trans (b3.mono b2.size)).mono b1.size)
  have s1 := b1.size
  have s2 := b2.size
  have s3 := b3.size
  have r3 : w3.ownsRow w0.heap.size TCall 10 (.slice (some ⟨g, 0, none⟩) L.length C) L.length xs := ownsRow_on h1 (Turned.of_below _ b13)
  have a1 := (r3.stored (i * 10 + 3) u1).1
  have a2 := (a1.stored (i * 10 + 8) u2).1
  have a3 := (a2.stored (i * 10 + 9) u3).1
  have hlen := r3.1
  have hset : Turned (fun b => b = g) w3 (((w3.setCell ⟨g, i * 10 + 3, none⟩ u1).setCell ⟨g, i * 10 + 8, none⟩ u2).setCell ⟨g, i * 10 + 9, none⟩ u3) :=
    ((Turned.set (F := fun b => b = g) (b := g) _ rfl).trans (Turned.set (F := fun b => b = g) (b := g) _ rfl) (Grown.refl _ _)).trans (Turned.set (F := fun b => b = g) (b := g) _ rfl) (Grown.refl _ _)
  have l1 := hu1.own_lt
  have l2 := hu2.own_lt
  have l3 := hu3.own_lt
  obtain ⟨K', hK'⟩ : ∃ K' : Nat → Prop, ∀ b, K' b ↔ (K b ∨ u1.ownBlock = some b ∨ u2.ownBlock = some b ∨ u3.ownBlock = some b) := ⟨_, fun b => Iff.rfl⟩
  have hK0 : ∀ b, K' b → w0.heap.size ≤ b ∧ b < w3.heap.size ∧ b ≠ g := fun b q => by
    have hw0 := h4.size
    rcases (hK' b).1 q with q | q | q | q
    · obtain ⟨q1, q2, q3⟩ := h2 b q
      exact ⟨q1, by omega, fun z => q3 (by rw [z]; rfl)⟩
    · have := l1 b q; exact ⟨by omega, by omega, by omega⟩
    · have := l2 b q; exact ⟨by omega, by omega, by omega⟩
    · have := l3 b q; exact ⟨by omega, by omega, by omega⟩
  refine ⟨fun m hm => ?_, fun m => r3.frozenAt m, _, K', a3, fun b q => ⟨(hK0 b q).1, Nat.lt_of_lt_of_le (hK0 b q).2.1 hset.size, fun z => (hK0 b q).2.2 (by injection z with z; exact z.symm)⟩, fun j hj => ?_, ?_⟩
  · obtain ⟨f, e, -⟩ := h3 i hi
    exact ⟨f m, by rw [r3.cellAt (i * 10 + m) (by omega)]; exact e m hm⟩
  · by_cases ej : j = i
    · subst ej
      obtain ⟨f, e, -, hf⟩ := h3 j hj
      have hc := (hf (Nat.le_refl _)).here
      refine ⟨fun m => if m = 9 then u3 else if m = 8 then u2 else if m = 3 then u1 else f m, fun m hm => ?_, fun _ => ?_, fun q => by omega⟩
      · dsimp only
        by_cases e9 : m = 9
        · subst e9; rw [if_pos rfl, List.getElem?_set_self (by simp only [List.length_set]; omega)]
        · rw [if_neg e9, List.getElem?_set_ne (by omega)]
          by_cases e8 : m = 8
          · subst e8; rw [if_pos rfl, List.getElem?_set_self (by simp only [List.length_set]; omega)]
          · rw [if_neg e8, List.getElem?_set_ne (by omega)]
            by_cases e3 : m = 3
            · subst e3; rw [if_pos rfl, List.getElem?_set_self (by omega)]
            · rw [if_neg e3, List.getElem?_set_ne (by omega)]
              exact e m hm
      · have o1 : On K' w3 (fun w' => Bytes w' u1 L[j].data ∧ ∀ b o n C, u1 = .slice (some ⟨b, o, none⟩) n C → ∀ i, w'.frozen? ⟨b, i, none⟩ = false) := fun w' t =>
          have t1 : Turned (fun b => ¬ u1.ownBlock = some b) w1 w' := (Turned.of_below _ (b2.trans (b3.mono b2.size))).trans (t.mono fun b z k => z ((hK' b).2 (.inr (.inl k)))) (Grown.refl _ _)
          ⟨slice_on byteR_world hu1 w' t1, built_free hu1 w' t1⟩
        have o2 : On K' w3 (fun w' => Bytes w' u2 L[j].out) := fun w' t => slice_on byteR_world hu2 w' ((Turned.of_below _ b3).trans (t.mono fun b z k => z ((hK' b).2 (.inr (.inr (.inl k))))) (Grown.refl _ _))
        have o3 : On K' w3 (fun w' => Strs w' u3 L[j].keys) := fun w' t => slice_on strR_world hu3 w' (t.mono fun b z k => z ((hK' b).2 (.inr (.inr (.inr k)))))
        have hOn : On K' w3 (fun w' => CallW w' (fun m => if m = 9 then u3 else if m = 8 then u2 else if m = 3 then u1 else f m) L[j]) := fun w' t =>
          ⟨⟨hc.r0, hc.r1, hc.r2, (o1 w' t).1, hc.r4, hc.r5, hc.r6, hc.r7, o2 w' t, o3 w' t, hc.ok⟩, fun b o n C e => (o1 w' t).2 b o n C e⟩
        exact hOn.turned hset (fun b q z => (hK0 b z).2.2 q)
    · obtain ⟨f, e, hd, hf⟩ := h3 j hj
      refine ⟨f, fun m hm => ?_, fun q => ?_, fun q => ?_⟩
      · rw [List.getElem?_set_ne (fun z => ej (place_eq (by omega) hm z).1.symm), List.getElem?_set_ne (fun z => ej (place_eq (by omega) hm z).1.symm), List.getElem?_set_ne (fun z => ej (place_eq (by omega) hm z).1.symm)]
        exact e m hm
      · exact (((hd (by omega)).turned (Turned.of_below (fun _ => False) b13) (fun _ z => z.elim)).more (fun b z => (hK' b).2 (.inl z))).turned hset (fun b z k => (hK0 b k).2.2 z)
      · exact ((hf (by omega)).turned (Turned.of_below (fun _ => False) b13) (fun _ z => z.elim)).turned hset (fun b z k => by have h5 := hE b k; have h6 : b = g := z; omega)
  · exact (h4.trans (b13.mono h4.size)).trans (hset.below (fun b z => by rw [z]; exact hgl.1) (Nat.le_trans h4.size b13.size))
set_option maxRecDepth 100000 in
set_option maxHeartbeats 8000000 in
theorem callsC {w : World} {F : Nat → Prop} {p : Nat} {s : St} (h : PDh w F p s) (hfew : Few s) :
    Calls Try.prog 11 #[.pointer (some ⟨p, 0, none⟩)] w fun e w' => ∃ V, e = .returned V ∧ Own w w' (fun w'' => Cells 10 CallW w'' V s.calls) := by
  obtain ⟨E, M, V, hat, rfl⟩ := h
  obtain ⟨AV, CV, rfl, -, -, -⟩ := hat.calls.len
  have c1 : w.cell? ⟨p, 1, none⟩ = some (.slice AV s.calls.length CV) := hat.cell (i := 1) (by omega)
  have HK := Lib.hid (cloneK hat.calls (by have := hfew.1; omega))
  have HE := Lib.hid hat.lt
  have HFEW := Lib.hid hfew.1
  obtain ⟨L, hL⟩ : ∃ L, s.calls = L := ⟨_, rfl⟩
  rw [hL] at c1 HK HFEW ⊢
  clear hat hfew hL
  go_enter Try.func11, Try.ntmps11
  go_wp2_with fail
  refine HK.out.mono ?_
  rintro _ w1 ⟨u, xs, rfl, hrow, hel, hb1⟩
  obtain ⟨A, C, rfl, hnC, hCm⟩ : ∃ A C, u = .slice A L.length C ∧ L.length ≤ C ∧ C ≤ 9223372036854775807 := by
    rcases hrow.2 with ⟨e1, e2⟩ | ⟨g, cap, cur, e1, _, _, e3, e4, _⟩
    · exact ⟨none, 0, by rw [e1, e2], by omega, by omega⟩
    · unfold maxLen at e4
      exact ⟨_, cap, e1, e3, e4⟩
  have HMID := Lib.hid (show CpMid E w (.slice A L.length C) L 0 w1 from ⟨xs, fun _ => False, hrow, fun b q => q.elim, fun j hj => by
    obtain ⟨f, e, hR⟩ := hel j hj
    exact ⟨f, e, fun q => by omega, fun _ => hR.turned (Turned.of_below (fun _ => False) hb1) (fun _ z => z.elim)⟩, hb1⟩)
  obtain ⟨N, hN⟩ : ∃ N, L.length = N := ⟨_, rfl⟩
  have HN := Lib.hid hN
  rw [hN] at HMID hnC ⊢
  clear hrow hel hb1 hN c1
  go_wp2
  go_loopw [15] (fun c wr => ∃ i : Nat, i ≤ N ∧ c = .int .i64 i ∧ CpMid E w (.slice A N C) L i wr) (fun c _ => N - (intOf c).toNat)
  case atStart => exact ⟨0, Nat.zero_le _, rfl, HMID.out⟩
  case round =>
    obtain ⟨i, hi, rfl, hm⟩ := hrel
    have HM := Lib.hid hm
    by_cases hlt : i < N
    · have hil : i < L.length := by rw [HN.out]; exact hlt
      obtain ⟨xr, K, hrow, hKK, hel, hbl⟩ := hm
      obtain ⟨g, rfl⟩ : ∃ g, A = some ⟨g, 0, none⟩ := by
        rcases hrow.2 with ⟨e1, e2⟩ | ⟨g, cap, cur, e1, _⟩
        · omega
        · injection e1 with e1
          exact ⟨g, e1⟩
      obtain ⟨f, ef, -, hR⟩ := hel i hil
      have hc := (hR (Nat.le_refl _))
      obtain ⟨A3, C3, e3, -⟩ := hc.here.r3.shape
      obtain ⟨A8, C8, e8, -⟩ := hc.here.r8.shape
      obtain ⟨A9, C9, e9, -⟩ := hc.here.r9.shape
      have hcell : ∀ m, m < 10 → wr.cell? ⟨g, i * 10 + m, none⟩ = some (f m) := fun m hm => by
        have hrow' := hrow
        rw [← HN.out] at hrow'
        rw [hrow'.cellAt (i * 10 + m) (by omega)]
        exact ef m hm
      have c3 := hcell 3 (by omega)
      have c8 := hcell 8 (by omega)
      have c9 := hcell 9 (by omega)
      rw [e3] at c3
      rw [e8] at c8
      rw [e9] at c9
      have HC1 := Lib.hid (cloneB L[i].data (f 3) wr.drew (hc.here.r3.below (below_drewN _ _ 1)) (by have := hc.here.ok.data; omega))
      have HC2 := Lib.hid (fun (w1 : World) (hb : Below wr.drew.heap.size wr.drew w1) => cloneB L[i].out (f 8) w1 (hc.here.r8.below ((Go.Mem.below_drewN _ wr 1).trans hb)) (by have := hc.here.ok.out; omega))
      have HC3 := Lib.hid (fun (w2 : World) (hb : Below wr.drew.heap.size wr.drew w2) => cloneS L[i].keys (f 9) w2 (hc.here.r9.below ((Go.Mem.below_drewN _ wr 1).trans hb)) (by have := hc.here.ok.keys; omega))
      rw [e3] at HC1
      rw [e8] at HC2
      rw [e9] at HC3
      have HNX := Lib.hid (fun (w1 w2 w3 : World) (u1 u2 u3 : Value) (b1 : Below wr.heap.size wr w1) (hu1 : Built ByteR w1 wr.heap.size 5 u1 L[i].data) (b2 : Below w1.heap.size w1 w2) (hu2 : Built ByteR w2 w1.heap.size 5 u2 L[i].out) (b3 : Below w2.heap.size w2 w3) (hu3 : Built StrR w3 w2.heap.size 9 u3 L[i].keys) => HM.out.next hil HE.out b1 hu1 b2 hu2 b3 hu3)
      obtain ⟨x, hx⟩ : ∃ x, L[i] = x := ⟨_, rfl⟩
      rw [hx] at HC1 HC2 HC3 HNX c3 c8 c9
      obtain ⟨ND, hND⟩ : ∃ z, x.data.length = z := ⟨_, rfl⟩
      obtain ⟨NO, hNO⟩ : ∃ z, x.out.length = z := ⟨_, rfl⟩
      obtain ⟨NK, hNK⟩ : ∃ z, x.keys.length = z := ⟨_, rfl⟩
      rw [hND] at c3 HC1
      rw [hNO] at c8 HC2
      rw [hNK] at c9 HC3
      have hbl' := hbl
      have HSX := Lib.hid (show ∀ w' : World, Below wr.drew.heap.size wr.drew w' → w'.cell? ⟨g, i * 10 + 3, none⟩ = some (.slice A3 ND C3) ∧ w'.cell? ⟨g, i * 10 + 8, none⟩ = some (.slice A8 NO C8) ∧ w'.cell? ⟨g, i * 10 + 9, none⟩ = some (.slice A9 NK C9) from fun w' hb =>
        ⟨below_cell ((Go.Mem.below_drewN _ wr 1).trans hb) _ _ c3, below_cell ((Go.Mem.below_drewN _ wr 1).trans hb) _ _ c8, below_cell ((Go.Mem.below_drewN _ wr 1).trans hb) _ _ c9⟩)
      have hSd := HSX.out _ (Below.refl _ _)
      have q1 : (0 : Int) ≤ (i : Int) := by omega
      have q2 : (i : Int) < (N : Int) := by omega
      clear hrow hKK hel hbl hbl' ef hR hc hcell c3 c8 c9 hND hNO hNK hil e3 e8 e9 hx
      go_upto_region 8 with fail
      refine wp_region_noPanic ?_
      refine wp_region_till [7, 12, 17] (fun w' => w'.cell? ⟨g, i * 10 + 3, none⟩ = some (.slice A3 ND C3) ∧ w'.cell? ⟨g, i * 10 + 8, none⟩ = some (.slice A8 NO C8) ∧ w'.cell? ⟨g, i * 10 + 9, none⟩ = some (.slice A9 NK C9)) (by kernel_rfl) hSd (fun _ => ?_)
      have hHeld := hSd
      refine wpAnyT_take (i := 0) (oi := ?oiz1) (v := ?vz1) ?h1z1 (by kernel_rfl) (by kernel_rfl) (by kernel_rfl) (by kernel_rfl) (fun _ _ _ h => h) ?hyz1 (HeldT.of hHeld) ?_
      case h1z1 => (simp only [List.getElem?_toArray, List.getElem?_cons_zero]; rfl)
      case hyz1 => first | (refine Or.inr ⟨rfl, ?_⟩; rfl) | (refine Or.inl ⟨rfl, ?_⟩; intro w hSw; (try dsimp only at hSw); go_simp; done) | (refine Or.inl ⟨rfl, ?_⟩; intro w hSw; (try dsimp only at hSw); go_simp; with_reducible rfl)
      try simp only [Act.put, List.setIfInBounds_toArray, List.set_cons_zero, List.set_cons_succ]
      refine wpAnyT_take (i := 1) (oi := ?oiz2) (v := ?vz2) ?h1z2 (by kernel_rfl) (by kernel_rfl) (by kernel_rfl) (by kernel_rfl) (fun _ _ _ h => h) ?hyz2 (HeldT.of hHeld) ?_
      case h1z2 => (simp only [List.getElem?_toArray, List.getElem?_cons_succ, List.getElem?_cons_zero]; rfl)
      case hyz2 => first | (refine Or.inr ⟨rfl, ?_⟩; rfl) | (refine Or.inl ⟨rfl, ?_⟩; intro w hSw; (try dsimp only at hSw); go_simp; done) | (refine Or.inl ⟨rfl, ?_⟩; intro w hSw; (try dsimp only at hSw); go_simp; with_reducible rfl)
      try simp only [Act.put, List.setIfInBounds_toArray, List.set_cons_zero, List.set_cons_succ]
      refine wpAnyT_take (i := 2) (oi := ?oiz3) (v := ?vz3) ?h1z3 (by kernel_rfl) (by kernel_rfl) (by kernel_rfl) (by kernel_rfl) (fun _ _ _ h => h) ?hyz3 (HeldT.of hHeld) ?_
      case h1z3 => (simp only [List.getElem?_toArray, List.getElem?_cons_succ, List.getElem?_cons_zero]; rfl)
      case hyz3 => first | (refine Or.inr ⟨rfl, ?_⟩; rfl) | (refine Or.inl ⟨rfl, ?_⟩; intro w hSw; (try dsimp only at hSw); go_simp; done) | (refine Or.inl ⟨rfl, ?_⟩; intro w hSw; (try dsimp only at hSw); go_simp; with_reducible rfl)
      try simp only [Act.put, List.setIfInBounds_toArray, List.set_cons_zero, List.set_cons_succ]
      refine wpAnyT_take (i := 3) (oi := ?oiz4) (v := ?vz4) ?h1z4 (by kernel_rfl) (by kernel_rfl) (by kernel_rfl) (by kernel_rfl) (fun _ _ _ h => h) ?hyz4 (HeldT.of hHeld) ?_
      case h1z4 => (simp only [List.getElem?_toArray, List.getElem?_cons_succ, List.getElem?_cons_zero]; rfl)
      case hyz4 => first | (refine Or.inr ⟨rfl, ?_⟩; rfl) | (refine Or.inl ⟨rfl, ?_⟩; intro w hSw; (try dsimp only at hSw); go_simp; done) | (refine Or.inl ⟨rfl, ?_⟩; intro w hSw; (try dsimp only at hSw); go_simp; with_reducible rfl)
      try simp only [Act.put, List.setIfInBounds_toArray, List.set_cons_zero, List.set_cons_succ]
      refine wpAnyT_take (i := 4) (oi := ?oiz5) (v := ?vz5) ?h1z5 (by kernel_rfl) (by kernel_rfl) (by kernel_rfl) (by kernel_rfl) (fun _ _ _ h => h) ?hyz5 (HeldT.of hHeld) ?_
      case h1z5 => (simp only [List.getElem?_toArray, List.getElem?_cons_succ, List.getElem?_cons_zero]; rfl)
      case hyz5 => first | (refine Or.inr ⟨rfl, ?_⟩; rfl) | (refine Or.inl ⟨rfl, ?_⟩; intro w hSw; (try dsimp only at hSw); go_simp; done) | (refine Or.inl ⟨rfl, ?_⟩; intro w hSw; (try dsimp only at hSw); go_simp; with_reducible rfl)
      try simp only [Act.put, List.setIfInBounds_toArray, List.set_cons_zero, List.set_cons_succ]
      refine wpAnyT_take (i := 5) (oi := ?oiz6) (v := ?vz6) ?h1z6 (by kernel_rfl) (by kernel_rfl) (by kernel_rfl) (by kernel_rfl) (fun _ _ _ h => h) ?hyz6 (HeldT.of hHeld) ?_
      case h1z6 => (simp only [List.getElem?_toArray, List.getElem?_cons_succ, List.getElem?_cons_zero]; rfl)
      case hyz6 => first | (refine Or.inr ⟨rfl, ?_⟩; rfl) | (refine Or.inl ⟨rfl, ?_⟩; intro w hSw; (try dsimp only at hSw); go_simp; done) | (refine Or.inl ⟨rfl, ?_⟩; intro w hSw; (try dsimp only at hSw); go_simp; with_reducible rfl)
      try simp only [Act.put, List.setIfInBounds_toArray, List.set_cons_zero, List.set_cons_succ]
      refine wpAnyT_load 7 (i := 6) (oi := ?oiz7) (v := ?vz7) ?h1z7 (by kernel_rfl) (by kernel_rfl) (by kernel_rfl) (by kernel_rfl) (fun _ _ _ h => h) ?hyz7 (HeldT.of hHeld) ?_
      case h1z7 => (simp only [List.getElem?_toArray, List.getElem?_cons_succ, List.getElem?_cons_zero]; rfl)
      case hyz7 => first | (refine Or.inr ⟨rfl, ?_⟩; rfl) | (refine Or.inl ⟨rfl, ?_⟩; intro w hSw; (try dsimp only at hSw); go_simp; done) | (refine Or.inl ⟨rfl, ?_⟩; intro w hSw; (try dsimp only at hSw); go_simp; with_reducible rfl)
      try simp only [Act.put, List.setIfInBounds_toArray, List.set_cons_zero, List.set_cons_succ]
      refine wpAnyT_take (i := 8) (oi := ?oiz8) (v := ?vz8) ?h1z8 (by kernel_rfl) (by kernel_rfl) (by kernel_rfl) (by kernel_rfl) (fun _ _ _ h => h) ?hyz8 (HeldT.of hHeld) ?_
      case h1z8 => (simp only [List.getElem?_toArray, List.getElem?_cons_succ, List.getElem?_cons_zero]; rfl)
      case hyz8 => first | (refine Or.inr ⟨rfl, ?_⟩; rfl) | (refine Or.inl ⟨rfl, ?_⟩; intro w hSw; (try dsimp only at hSw); go_simp; done) | (refine Or.inl ⟨rfl, ?_⟩; intro w hSw; (try dsimp only at hSw); go_simp; with_reducible rfl)
      try simp only [Act.put, List.setIfInBounds_toArray, List.set_cons_zero, List.set_cons_succ]
      refine wpAnyT_take (i := 9) (oi := ?oiz9) (v := ?vz9) ?h1z9 (by kernel_rfl) (by kernel_rfl) (by kernel_rfl) (by kernel_rfl) (fun _ _ _ h => h) ?hyz9 (HeldT.of hHeld) ?_
      case h1z9 => (simp only [List.getElem?_toArray, List.getElem?_cons_succ, List.getElem?_cons_zero]; rfl)
      case hyz9 => first | (refine Or.inr ⟨rfl, ?_⟩; rfl) | (refine Or.inl ⟨rfl, ?_⟩; intro w hSw; (try dsimp only at hSw); go_simp; done) | (refine Or.inl ⟨rfl, ?_⟩; intro w hSw; (try dsimp only at hSw); go_simp; with_reducible rfl)
      try simp only [Act.put, List.setIfInBounds_toArray, List.set_cons_zero, List.set_cons_succ]
      refine wpAnyT_take (i := 10) (oi := ?oiz10) (v := ?vz10) ?h1z10 (by kernel_rfl) (by kernel_rfl) (by kernel_rfl) (by kernel_rfl) (fun _ _ _ h => h) ?hyz10 (HeldT.of hHeld) ?_
      case h1z10 => (simp only [List.getElem?_toArray, List.getElem?_cons_succ, List.getElem?_cons_zero]; rfl)
      case hyz10 => first | (refine Or.inr ⟨rfl, ?_⟩; rfl) | (refine Or.inl ⟨rfl, ?_⟩; intro w hSw; (try dsimp only at hSw); go_simp; done) | (refine Or.inl ⟨rfl, ?_⟩; intro w hSw; (try dsimp only at hSw); go_simp; with_reducible rfl)
      try simp only [Act.put, List.setIfInBounds_toArray, List.set_cons_zero, List.set_cons_succ]
      refine wpAnyT_load 12 (i := 11) (oi := ?oiz11) (v := ?vz11) ?h1z11 (by kernel_rfl) (by kernel_rfl) (by kernel_rfl) (by kernel_rfl) (fun _ _ _ h => h) ?hyz11 (HeldT.of hHeld) ?_
      case h1z11 => (simp only [List.getElem?_toArray, List.getElem?_cons_succ, List.getElem?_cons_zero]; rfl)
      case hyz11 => first | (refine Or.inr ⟨rfl, ?_⟩; rfl) | (refine Or.inl ⟨rfl, ?_⟩; intro w hSw; (try dsimp only at hSw); go_simp; done) | (refine Or.inl ⟨rfl, ?_⟩; intro w hSw; (try dsimp only at hSw); go_simp; with_reducible rfl)
      try simp only [Act.put, List.setIfInBounds_toArray, List.set_cons_zero, List.set_cons_succ]
      refine wpAnyT_take (i := 13) (oi := ?oiz12) (v := ?vz12) ?h1z12 (by kernel_rfl) (by kernel_rfl) (by kernel_rfl) (by kernel_rfl) (fun _ _ _ h => h) ?hyz12 (HeldT.of hHeld) ?_
      case h1z12 => (simp only [List.getElem?_toArray, List.getElem?_cons_succ, List.getElem?_cons_zero]; rfl)
      case hyz12 => first | (refine Or.inr ⟨rfl, ?_⟩; rfl) | (refine Or.inl ⟨rfl, ?_⟩; intro w hSw; (try dsimp only at hSw); go_simp; done) | (refine Or.inl ⟨rfl, ?_⟩; intro w hSw; (try dsimp only at hSw); go_simp; with_reducible rfl)
      try simp only [Act.put, List.setIfInBounds_toArray, List.set_cons_zero, List.set_cons_succ]
      refine wpAnyT_take (i := 14) (oi := ?oiz13) (v := ?vz13) ?h1z13 (by kernel_rfl) (by kernel_rfl) (by kernel_rfl) (by kernel_rfl) (fun _ _ _ h => h) ?hyz13 (HeldT.of hHeld) ?_
      case h1z13 => (simp only [List.getElem?_toArray, List.getElem?_cons_succ, List.getElem?_cons_zero]; rfl)
      case hyz13 => first | (refine Or.inr ⟨rfl, ?_⟩; rfl) | (refine Or.inl ⟨rfl, ?_⟩; intro w hSw; (try dsimp only at hSw); go_simp; done) | (refine Or.inl ⟨rfl, ?_⟩; intro w hSw; (try dsimp only at hSw); go_simp; with_reducible rfl)
      try simp only [Act.put, List.setIfInBounds_toArray, List.set_cons_zero, List.set_cons_succ]
      refine wpAnyT_take (i := 15) (oi := ?oiz14) (v := ?vz14) ?h1z14 (by kernel_rfl) (by kernel_rfl) (by kernel_rfl) (by kernel_rfl) (fun _ _ _ h => h) ?hyz14 (HeldT.of hHeld) ?_
      case h1z14 => (simp only [List.getElem?_toArray, List.getElem?_cons_succ, List.getElem?_cons_zero]; rfl)
      case hyz14 => first | (refine Or.inr ⟨rfl, ?_⟩; rfl) | (refine Or.inl ⟨rfl, ?_⟩; intro w hSw; (try dsimp only at hSw); go_simp; done) | (refine Or.inl ⟨rfl, ?_⟩; intro w hSw; (try dsimp only at hSw); go_simp; with_reducible rfl)
      try simp only [Act.put, List.setIfInBounds_toArray, List.set_cons_zero, List.set_cons_succ]
      refine wpAnyT_load 17 (i := 16) (oi := ?oiz15) (v := ?vz15) ?h1z15 (by kernel_rfl) (by kernel_rfl) (by kernel_rfl) (by kernel_rfl) (fun _ _ _ h => h) ?hyz15 (HeldT.of hHeld) ?_
      case h1z15 => (simp only [List.getElem?_toArray, List.getElem?_cons_succ, List.getElem?_cons_zero]; rfl)
      case hyz15 => first | (refine Or.inr ⟨rfl, ?_⟩; rfl) | (refine Or.inl ⟨rfl, ?_⟩; intro w hSw; (try dsimp only at hSw); go_simp; done) | (refine Or.inl ⟨rfl, ?_⟩; intro w hSw; (try dsimp only at hSw); go_simp; with_reducible rfl)
      try simp only [Act.put, List.setIfInBounds_toArray, List.set_cons_zero, List.set_cons_succ]
      refine wpAnyT_ready (rs := [7]) (by kernel_rfl) (by simp) ?_
      refine AllReadyT.cons (o := ?oiz16) ?h1z16 (fun K hK => ?_) ?morez16
      case h1z16 => (simp only [List.getElem?_toArray, List.getElem?_cons_succ, List.getElem?_cons_zero]; rfl)
      case morez16 => exact AllReadyT.nil
      go_simp
      go_at_call 16
      refine HC1.out.mono ?_
      rintro _ w1 ⟨u1, rfl, hu1, hb1⟩
      obtain ⟨B3, D3, rfl, -⟩ := hu1.slice.shape
      have HU1 := Lib.hid hu1
      have HB1 := Lib.hid hb1
      clear hu1 hb1
      have hHeld := HSX.out w1 HB1.out
      refine hK.out _ _ (HeldT.of hHeld) (fun _ => ?_)
      clear hK K
      try simp only [Act.put, List.setIfInBounds_toArray, List.set_cons_zero, List.set_cons_succ]
      refine wpAnyT_ready (rs := [12]) (by kernel_rfl) (by simp) ?_
      refine AllReadyT.cons (o := ?oiz17) ?h1z17 (fun K hK => ?_) ?morez17
      case h1z17 => (simp only [List.getElem?_toArray, List.getElem?_cons_succ, List.getElem?_cons_zero]; rfl)
      case morez17 => exact AllReadyT.nil
      go_simp
      go_at_call 16
      refine (HC2.out w1 HB1.out).mono ?_
      rintro _ w2 ⟨u2, rfl, hu2, hb2⟩
      obtain ⟨B8, D8, rfl, -⟩ := hu2.slice.shape
      have HU2 := Lib.hid hu2
      have HB2 := Lib.hid hb2
      clear hu2 hb2
      have hHeld := HSX.out w2 (HB1.out.trans (HB2.out.mono HB1.out.size))
      refine hK.out _ _ (HeldT.of hHeld) (fun _ => ?_)
      clear hK K
      try simp only [Act.put, List.setIfInBounds_toArray, List.set_cons_zero, List.set_cons_succ]
      refine wpAnyT_ready (rs := [17]) (by kernel_rfl) (by simp) ?_
      refine AllReadyT.cons (o := ?oiz18) ?h1z18 (fun K hK => ?_) ?morez18
      case h1z18 => (simp only [List.getElem?_toArray, List.getElem?_cons_succ, List.getElem?_cons_zero]; rfl)
      case morez18 => exact AllReadyT.nil
      go_simp
      go_at_call 17
      refine (HC3.out w2 (HB1.out.trans (HB2.out.mono HB1.out.size))).mono ?_
      rintro _ w3 ⟨u3, rfl, hu3, hb3⟩
      obtain ⟨B9, D9, rfl, -⟩ := hu3.slice.shape
      obtain ⟨hcl, hfr, hfin⟩ := HNX.out w1 w2 w3 _ _ _ ((Go.Mem.below_drewN _ wr 1).trans HB1.out) HU1.out HB2.out HU2.out hb3 hu3
      have HFIN := Lib.hid hfin
      obtain ⟨v3, y3⟩ := hcl 3 (by omega)
      obtain ⟨v8, y8⟩ := hcl 8 (by omega)
      obtain ⟨v9, y9⟩ := hcl 9 (by omega)
      have j3 : w3.frozen? ⟨g, i * 10 + 3, none⟩ = false := hfr _
      have j8 : w3.frozen? ⟨g, i * 10 + 8, none⟩ = false := hfr _
      have j9 : w3.frozen? ⟨g, i * 10 + 9, none⟩ = false := hfr _
      clear hcl hfr hfin hu3 hb3
      refine hK.out _ _ (HeldT.over (by kernel_rfl)) (fun _ => ?_)
      clear hK K
      try simp only [Act.put, List.setIfInBounds_toArray, List.set_cons_zero, List.set_cons_succ]
      refine wpAnyT_take (i := 18) (oi := ?oiz19) (v := ?vz19) ?h1z19 (by kernel_rfl) (by kernel_rfl) (by kernel_rfl) (by kernel_rfl) (fun _ _ _ h => h) ?hyz19 (HeldT.over (by kernel_rfl)) ?_
      case h1z19 => (simp only [List.getElem?_toArray, List.getElem?_cons_succ, List.getElem?_cons_zero]; rfl)
      case hyz19 => first | (refine Or.inr ⟨rfl, ?_⟩; rfl) | (refine Or.inl ⟨rfl, ?_⟩; intro w hSw; (try dsimp only at hSw); go_simp; done) | (refine Or.inl ⟨rfl, ?_⟩; intro w hSw; (try dsimp only at hSw); go_simp; with_reducible rfl)
      try simp only [Act.put, List.setIfInBounds_toArray, List.set_cons_zero, List.set_cons_succ]
      refine wpAnyT_take (i := 19) (oi := ?oiz20) (v := ?vz20) ?h1z20 (by kernel_rfl) (by kernel_rfl) (by kernel_rfl) (by kernel_rfl) (fun _ _ _ h => h) ?hyz20 (HeldT.over (by kernel_rfl)) ?_
      case h1z20 => (simp only [List.getElem?_toArray, List.getElem?_cons_succ, List.getElem?_cons_zero]; rfl)
      case hyz20 => first | (refine Or.inr ⟨rfl, ?_⟩; rfl) | (refine Or.inl ⟨rfl, ?_⟩; intro w hSw; (try dsimp only at hSw); go_simp; done) | (refine Or.inl ⟨rfl, ?_⟩; intro w hSw; (try dsimp only at hSw); go_simp; with_reducible rfl)
      try simp only [Act.put, List.setIfInBounds_toArray, List.set_cons_zero, List.set_cons_succ]
      refine wpAnyT_ready (rs := [20]) (by kernel_rfl) (by simp) ?_
      refine AllReadyT.cons (o := ?oiz21) ?h1z21 (fun K hK => ?_) ?morez21
      case h1z21 => (simp only [List.getElem?_toArray, List.getElem?_cons_succ, List.getElem?_cons_zero]; rfl)
      case morez21 => exact AllReadyT.nil
      go_simp
      refine hK.out _ _ (HeldT.over (by kernel_rfl)) (fun _ => ?_)
      clear hK K
      try simp only [Act.put, List.setIfInBounds_toArray, List.set_cons_zero, List.set_cons_succ]
      refine wpAnyT_take (i := 21) (oi := ?oiz22) (v := ?vz22) ?h1z22 (by kernel_rfl) (by kernel_rfl) (by kernel_rfl) (by kernel_rfl) (fun _ _ _ h => h) ?hyz22 (HeldT.over (by kernel_rfl)) ?_
      case h1z22 => (simp only [List.getElem?_toArray, List.getElem?_cons_succ, List.getElem?_cons_zero]; rfl)
      case hyz22 => first | (refine Or.inr ⟨rfl, ?_⟩; rfl) | (refine Or.inl ⟨rfl, ?_⟩; intro w hSw; (try dsimp only at hSw); go_simp; done) | (refine Or.inl ⟨rfl, ?_⟩; intro w hSw; (try dsimp only at hSw); go_simp; with_reducible rfl)
      try simp only [Act.put, List.setIfInBounds_toArray, List.set_cons_zero, List.set_cons_succ]
      refine wpAnyT_take (i := 22) (oi := ?oiz23) (v := ?vz23) ?h1z23 (by kernel_rfl) (by kernel_rfl) (by kernel_rfl) (by kernel_rfl) (fun _ _ _ h => h) ?hyz23 (HeldT.over (by kernel_rfl)) ?_
      case h1z23 => (simp only [List.getElem?_toArray, List.getElem?_cons_succ, List.getElem?_cons_zero]; rfl)
      case hyz23 => first | (refine Or.inr ⟨rfl, ?_⟩; rfl) | (refine Or.inl ⟨rfl, ?_⟩; intro w hSw; (try dsimp only at hSw); go_simp; done) | (refine Or.inl ⟨rfl, ?_⟩; intro w hSw; (try dsimp only at hSw); go_simp; with_reducible rfl)
      try simp only [Act.put, List.setIfInBounds_toArray, List.set_cons_zero, List.set_cons_succ]
      refine wpAnyT_ready (rs := [23]) (by kernel_rfl) (by simp) ?_
      refine AllReadyT.cons (o := ?oiz24) ?h1z24 (fun K hK => ?_) ?morez24
      case h1z24 => (simp only [List.getElem?_toArray, List.getElem?_cons_succ, List.getElem?_cons_zero]; rfl)
      case morez24 => exact AllReadyT.nil
      go_simp
      refine hK.out _ _ (HeldT.over (by kernel_rfl)) (fun _ => ?_)
      clear hK K
      try simp only [Act.put, List.setIfInBounds_toArray, List.set_cons_zero, List.set_cons_succ]
      refine wpAnyT_take (i := 24) (oi := ?oiz25) (v := ?vz25) ?h1z25 (by kernel_rfl) (by kernel_rfl) (by kernel_rfl) (by kernel_rfl) (fun _ _ _ h => h) ?hyz25 (HeldT.over (by kernel_rfl)) ?_
      case h1z25 => (simp only [List.getElem?_toArray, List.getElem?_cons_succ, List.getElem?_cons_zero]; rfl)
      case hyz25 => first | (refine Or.inr ⟨rfl, ?_⟩; rfl) | (refine Or.inl ⟨rfl, ?_⟩; intro w hSw; (try dsimp only at hSw); go_simp; done) | (refine Or.inl ⟨rfl, ?_⟩; intro w hSw; (try dsimp only at hSw); go_simp; with_reducible rfl)
      try simp only [Act.put, List.setIfInBounds_toArray, List.set_cons_zero, List.set_cons_succ]
      refine wpAnyT_take (i := 25) (oi := ?oiz26) (v := ?vz26) ?h1z26 (by kernel_rfl) (by kernel_rfl) (by kernel_rfl) (by kernel_rfl) (fun _ _ _ h => h) ?hyz26 (HeldT.over (by kernel_rfl)) ?_
      case h1z26 => (simp only [List.getElem?_toArray, List.getElem?_cons_succ, List.getElem?_cons_zero]; rfl)
      case hyz26 => first | (refine Or.inr ⟨rfl, ?_⟩; rfl) | (refine Or.inl ⟨rfl, ?_⟩; intro w hSw; (try dsimp only at hSw); go_simp; done) | (refine Or.inl ⟨rfl, ?_⟩; intro w hSw; (try dsimp only at hSw); go_simp; with_reducible rfl)
      try simp only [Act.put, List.setIfInBounds_toArray, List.set_cons_zero, List.set_cons_succ]
      refine wpAnyT_ready (rs := [26]) (by kernel_rfl) (by simp) ?_
      refine AllReadyT.cons (o := ?oiz27) ?h1z27 (fun K hK => ?_) ?morez27
      case h1z27 => (simp only [List.getElem?_toArray, List.getElem?_cons_succ, List.getElem?_cons_zero]; rfl)
      case morez27 => exact AllReadyT.nil
      go_simp
      refine hK.out _ _ (HeldT.over (by kernel_rfl)) (fun _ => ?_)
      clear hK K
      try simp only [Act.put, List.setIfInBounds_toArray, List.set_cons_zero, List.set_cons_succ]
      refine wpAnyT_done (by kernel_rfl) ?_ _
      refine NoPanic.normal ?_
      go_wp2_with fail
      go_roundw
      case rel => exact ⟨i + 1, by omega, by go_num, HFIN.out⟩
      case measure => simp [intOf]; omega
    · obtain rfl : i = N := by omega
      have HO := Lib.hid (show Own w wr (fun w'' => Cells 10 CallW w'' (.slice A i C) L) from by
        have := HM.out
        rw [← HN.out] at this ⊢
        exact this.own)
      clear hm
      go_wp2
      go_ret
      exact ⟨_, rfl, HO.out⟩
theorem noAdd (w : World) (x : StepD) (a : AnsD) (X A : Value) (hX : StepV w X x) (hA : AnsV w A a) : Calls Try.prog 9 #[.pointer none, X, A] w fun e w' => e = .returned (.tuple #[]) ∧ Below w.heap.size w w' := by
  obtain ⟨AX, CX, rfl, -⟩ := hX
  obtain ⟨AD, CD, AK, CK, rfl, -⟩ := hA
  unfold stepVal ansVal
  go_enter Try.func9, Try.ntmps9
  go_wp2
  refine bodyPost_ret (results_none rfl _ _ _) rfl ?_
  exact ⟨rfl, ((Below.refl _ _).alloc (Nat.le_refl _) _).alloc (by simp) _⟩
theorem noCalls (w : World) : Calls Try.prog 11 #[.pointer none] w fun e w' => e = .returned (.slice none 0 0) ∧ w = w' := by
  go_enter Try.func11, Try.ntmps11
  go_wp2
  go_ret
  exact ⟨rfl, rfl⟩
theorem histI : HsI PDh where
  turned := fun ⟨E, M, V, h, e⟩ ht hG => ⟨E, M, V, h.turned ht (fun b q => by rw [← e]; exact hG b q), e⟩
  lt := fun ⟨E, M, V, h, e⟩ b q => h.foot_lt b (by rw [← e]; exact q)
  uniq := fun ⟨E, M, V, h, e⟩ => h.uniq
  new := newC
  add := fun h hf x a X A hX hA hfit => addC h hf x a X A hX hA hfit
  calls := fun h hf => callsC h hf
theorem noHist : NoHist where
  add := noAdd
  calls := noCalls
end Go.Proofs.Ytcljpniknpgmpaa.Hst
