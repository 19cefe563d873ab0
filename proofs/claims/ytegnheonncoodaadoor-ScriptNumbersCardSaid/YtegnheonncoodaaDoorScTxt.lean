/- The law's own text of steps, walked. -/
import Derived.Test.YtegnheonncoodaaDoorScTxM
import Derived.Test.YtegnheonncoodaaDoorTill
namespace Go.Proofs.YtegnheonncoodaaDoor.Scr
set_option linter.unusedVariables false
open Go.ChangeShapes Go.WideShapes Go.ChangeAt Go.RowKit
open Go.Mem Sc
/-- []byte(s) -/
theorem str_bytes (l : List UInt8) (hl : l.length ≤ 1000000) (w : World) : ∃ C w', (convert 9 33 (.string (str l))).run Tryd.prog w = .ok (.slice (some ⟨w.heap.size, 0, none⟩) l.length C) w' ∧ Bytes w' (.slice (some ⟨w.heap.size, 0, none⟩) l.length C) (nums l) ∧ Below w.heap.size w w' := by
  have h := run_bytes_of_string (P := Tryd.prog) w 9 33 5 (str l) Tryd.underlying9 Tryd.underlying33 Tryd.underlying5
  have hge := grownCap_ge w (str l).size 0 5
  have hle := grownCap_le_maxLen w (str l).size 0 5 (by unfold maxLen; rw [str_size]; omega)
  generalize grownCap w (str l).size 0 5 = C at h hge hle
  rw [str_size] at h hge
  refine ⟨C, _, h, ⟨_, l.length, C, rfl, (nums_len l).symm, hge, hle, (fun e => by cases e), fun i hi => ⟨w.heap.size, 0, .int .u8 ((nums l)[i] : Nat), rfl, ?_, rfl, nums_lt _ _ (List.getElem_mem hi)⟩⟩, ?_⟩
  · have hb : (w.drew.alloc (.cells (bytesRow (str l) C) 5 ((bytesRow (str l) C).size, (bytesRow (str l) C).size + 1))).heap[w.heap.size]? = some (.cells (bytesRow (str l) C) 5 ((bytesRow (str l) C).size, (bytesRow (str l) C).size + 1)) := by
      show (w.heap.push _)[w.heap.size]? = _
      simp
    have hi2 : i < l.length := by rw [nums_len] at hi; exact hi
    have hi3 : i < (str l).data.size := by show i < (str l).size; rw [str_size]; exact hi2
    unfold World.cell?
    dsimp only
    rw [hb]
    unfold bytesRow
    dsimp only
    rw [Array.getElem?_append_left (by simpa using hi3)]
    simp [nums, str, hi2]
  · exact ((Below.refl w.heap.size w).drew).alloc (Nat.le_refl _) _
set_option maxHeartbeats 16000000 in
set_option maxRecDepth 100000 in
theorem textC (L : List SD) (v : Value) (w : World) (hv : Steps w v L) (hs : ∀ i (h : i < L.length), Small L[i]) (ht : (textOf L).length ≤ 1000000000) : Calls Tryd.prog 12 #[v] w fun e w' => e = .returned (.string (str (textOf L))) ∧ Below w.heap.size w w' := by
  obtain ⟨A, C, rfl, hl, hC, _⟩ := hv.shape
  have HV := Lib.hid hv
  have HSM := Lib.hid hs
  clear hv hs
  go_enter Tryd.func12, Tryd.ntmps12
  go_wp2
  go_loopw [3, 4] (fun u i wr => ∃ k : Nat, k ≤ L.length ∧ i = .int .i64 k ∧ u = .string (str (textOf (L.take k))) ∧ Below w.heap.size w wr) (fun _ i _ => L.length - (intOf i).toNat)
  case atStart => exact ⟨0, Nat.zero_le _, rfl, rfl, Below.refl _ _⟩
  case round =>
    obtain ⟨k, hk, rfl, rfl, hW⟩ := hrel
    by_cases hlt : k < L.length
    · obtain ⟨b, o, A1, C1, rfl, c0, c1, c2, c3, c4, hby, hok⟩ := HV.out.at hlt
      have hsk := HSM.out k hlt
      have HTX := Lib.hid (textOf_snoc L k hlt)
      have hle := textOf_le L k
      generalize L[k] = x at c0 c1 c2 c3 c4 hby hok hsk HTX
      have hT : (textOf (L.take k)).length ≤ 1000000000 := by omega
      generalize textOf (L.take k) = T at hT HTX
      obtain ⟨s0, s1, s2, s3, s4, s5, s6, s7, s8, s9, s10, n1, n2, n3, h1, h2, q0, q1, q2, q3, q4, q5, ⟨e1, a1, b1⟩, ⟨e2, a2, b2⟩, ⟨e3, a3, b3⟩, ⟨e4, a4, b4⟩, ⟨e5, a5, b5⟩, ⟨e6, a6, b6⟩, ⟨e7, a7, b7⟩, ⟨e8, a8, b8⟩, ⟨e9, a9, b9⟩, ⟨e10, a10, b10⟩, q10⟩ := line_adds T x hok hsk hT
      rw [← q0]
      have HQ10 := Lib.hid q10
      have g1 : x.key.length ≤ 1000000 := hsk.1
      have g2 : x.data.length ≤ 1000000 := hsk.2
      have HN1 : Hid (∀ W, Below w.heap.size w W → Calls Tryd.prog 18 #[.int .i64 x.kind] W fun e w' => e = .returned (.string n1) ∧ Below w.heap.size w w' ∧ Below W.heap.size W w') := fun W hb => (numC x.kind hok.k W).mono fun e w' h => ⟨by rw [q1]; exact h.1, hb.trans (h.2.mono hb.size), h.2⟩
      have HN2 : Hid (∀ W, Below w.heap.size w W → Calls Tryd.prog 18 #[.int .i64 x.a] W fun e w' => e = .returned (.string n2) ∧ Below w.heap.size w w' ∧ Below W.heap.size W w') := fun W hb => (numC x.a hok.a W).mono fun e w' h => ⟨by rw [q2]; exact h.1, hb.trans (h.2.mono hb.size), h.2⟩
      have HN3 : Hid (∀ W, Below w.heap.size w W → Calls Tryd.prog 19 #[.int .u64 (x.keep : Nat)] W fun e w' => e = .returned (.string n3) ∧ Below w.heap.size w w' ∧ Below W.heap.size W w') := fun W hb => (decN x.keep W hok.p).mono fun e w' h => ⟨by rw [q3]; exact h.1, hb.trans (h.2.mono hb.size), h.2⟩
      have HH1 : Hid (∀ W V, Bytes W V (nums x.key) → Below w.heap.size w W → Calls Tryd.prog 20 #[V] W fun e w' => e = .returned (.string h1) ∧ Below w.heap.size w w' ∧ Below W.heap.size W w') := fun W V hV hb => (hexC x.key g1 V W hV).mono fun e w' h => ⟨by rw [q4]; exact h.1, hb.trans (h.2.mono hb.size), h.2⟩
      have HH2 : Hid (∀ W, Below w.heap.size w W → Calls Tryd.prog 20 #[.slice A1 x.data.length C1] W fun e w' => e = .returned (.string h2) ∧ Below w.heap.size w w' ∧ Below W.heap.size W w') := fun W hb => (hexC x.data g2 _ W (hby.below hb)).mono fun e w' h => ⟨by rw [q5]; exact h.1, hb.trans (h.2.mono hb.size), h.2⟩
      have HCV : Hid (∀ W, Below w.heap.size w W → ∃ C w', (convert 9 33 (.string (str x.key))).run Tryd.prog W = .ok (.slice (some ⟨W.heap.size, 0, none⟩) x.key.length C) w' ∧ Bytes w' (.slice (some ⟨W.heap.size, 0, none⟩) x.key.length C) (nums x.key) ∧ Below w.heap.size w w') := fun W hb => by
        obtain ⟨C, w', h1, h2, h3⟩ := str_bytes x.key g1 W
        exact ⟨C, w', h1, h2, hb.trans (h3.mono hb.size)⟩
      have HKP : Hid (∀ w', Below w.heap.size w w' → (Below w.heap.size w w' ∧ w'.cell? ⟨b, o + k * 5, none⟩ = some (.int .i64 x.kind) ∧ w'.cell? ⟨b, o + k * 5 + 1, none⟩ = some (.int .i64 x.a) ∧ w'.cell? ⟨b, o + k * 5 + 2, none⟩ = some (.string (str x.key)) ∧ w'.cell? ⟨b, o + k * 5 + 3, none⟩ = some (.slice A1 x.data.length C1) ∧ w'.cell? ⟨b, o + k * 5 + 4, none⟩ = some (.int .u64 (x.keep : Nat)))) :=
        fun w' hb => ⟨hb, below_cell hb _ _ c0, below_cell hb _ _ c1, below_cell hb _ _ c2, below_cell hb _ _ c3, below_cell hb _ _ c4⟩
      have hd0 : Below w.heap.size w wr.drew := hW.drew
      have k0 : (0 : Int) ≤ (k : Int) := by omega
      have k1 : (k : Int) < (L.length : Int) := by omega
      clear q0 q1 q2 q3 q4 q5 q10 hok hsk g1 g2 hby c0 c1 c2 c3 c4 hle hT hlt hk
      go_wp2_with fail
      refine wp_region_noPanic ?_
      refine wp_region_till [6, 14, 22, 30, 39] (fun w' => (Below w.heap.size w w' ∧ w'.cell? ⟨b, o + k * 5, none⟩ = some (.int .i64 x.kind) ∧ w'.cell? ⟨b, o + k * 5 + 1, none⟩ = some (.int .i64 x.a) ∧ w'.cell? ⟨b, o + k * 5 + 2, none⟩ = some (.string (str x.key)) ∧ w'.cell? ⟨b, o + k * 5 + 3, none⟩ = some (.slice A1 x.data.length C1) ∧ w'.cell? ⟨b, o + k * 5 + 4, none⟩ = some (.int .u64 (x.keep : Nat)))) (by kernel_rfl) (HKP.out _ hd0) (fun _ => ?_)
      have hHeld := HKP.out _ hd0
      refine wpAnyT_take (i := 0) (oi := ?oiz1) (v := ?vz1) ?h1z1 (by kernel_rfl) (by kernel_rfl) (by kernel_rfl) (by kernel_rfl) (fun _ _ _ h => h) ?hyz1 (HeldT.of hHeld) ?_
      case h1z1 => (simp only [List.getElem?_toArray, List.getElem?_cons_zero]; rfl)
      case hyz1 => first | (refine Or.inr ⟨rfl, ?_⟩; rfl) | (refine Or.inl ⟨rfl, ?_⟩; intro w hSw; (try dsimp only at hSw); go_simp; done) | (refine Or.inl ⟨rfl, ?_⟩; intro w hSw; (try dsimp only at hSw); go_simp; with_reducible rfl)
      try simp only [Act.put, List.setIfInBounds_toArray, List.set_cons_zero, List.set_cons_succ]
      refine wpAnyT_take (i := 1) (oi := ?oiz2) (v := ?vz2) ?h1z2 (by kernel_rfl) (by kernel_rfl) (by kernel_rfl) (by kernel_rfl) (fun _ _ _ h => h) ?hyz2 (HeldT.of hHeld) ?_
      case h1z2 => (simp only [List.getElem?_toArray, List.getElem?_cons_succ, List.getElem?_cons_zero]; rfl)
      case hyz2 => first | (refine Or.inr ⟨rfl, ?_⟩; rfl) | (refine Or.inl ⟨rfl, ?_⟩; intro w hSw; (try dsimp only at hSw); go_simp; done) | (refine Or.inl ⟨rfl, ?_⟩; intro w hSw; (try dsimp only at hSw); go_simp; with_reducible rfl)
      try simp only [Act.put, List.setIfInBounds_toArray, List.set_cons_zero, List.set_cons_succ]
      refine wpAnyT_take (i := 2) (oi := ?oiz3) (v := ?vz3) ?h1z3 (by kernel_rfl) (by kernel_rfl) (by kernel_rfl) (by kernel_rfl) (fun _ _ _ h => h) ?hyz3 (HeldT.of hHeld) ?_
      case h1z3 => (simp only [List.getElem?_toArray, List.getElem?_cons_succ, List.getElem?_cons_zero]; rfl)
      case hyz3 => first | (refine Or.inr ⟨rfl, ?_⟩; rfl) | (refine Or.inl ⟨rfl, ?_⟩; intro w hSw; (try dsimp only at hSw); go_simp; done) | (refine Or.inl ⟨rfl, ?_⟩; intro w hSw; (try dsimp only at hSw); go_simp; with_reducible rfl)
      try simp only [Act.put, List.setIfInBounds_toArray, List.set_cons_zero, List.set_cons_succ]
      refine wpAnyT_take (i := 3) (oi := ?oiz4) (v := ?vz4) ?h1z4 (by kernel_rfl) (by kernel_rfl) (by kernel_rfl) (by kernel_rfl) (fun _ _ _ h => h) ?hyz4 (HeldT.of hHeld) ?_
      case h1z4 => (simp only [List.getElem?_toArray, List.getElem?_cons_succ, List.getElem?_cons_zero]; rfl)
      case hyz4 => first | (refine Or.inr ⟨rfl, ?_⟩; rfl) | (refine Or.inl ⟨rfl, ?_⟩; intro w hSw; (try dsimp only at hSw); go_simp; done) | (refine Or.inl ⟨rfl, ?_⟩; intro w hSw; (try dsimp only at hSw); go_simp; with_reducible rfl)
      try simp only [Act.put, List.setIfInBounds_toArray, List.set_cons_zero, List.set_cons_succ]
      refine wpAnyT_take (i := 4) (oi := ?oiz5) (v := ?vz5) ?h1z5 (by kernel_rfl) (by kernel_rfl) (by kernel_rfl) (by kernel_rfl) (fun _ _ _ h => h) ?hyz5 (HeldT.of hHeld) ?_
      case h1z5 => (simp only [List.getElem?_toArray, List.getElem?_cons_succ, List.getElem?_cons_zero]; rfl)
      case hyz5 => first | (refine Or.inr ⟨rfl, ?_⟩; rfl) | (refine Or.inl ⟨rfl, ?_⟩; intro w hSw; (try dsimp only at hSw); go_simp; done) | (refine Or.inl ⟨rfl, ?_⟩; intro w hSw; (try dsimp only at hSw); go_simp; with_reducible rfl)
      try simp only [Act.put, List.setIfInBounds_toArray, List.set_cons_zero, List.set_cons_succ]
      refine wpAnyT_load 6 (i := 5) (oi := ?oiz6) (v := ?vz6) ?h1z6 (by kernel_rfl) (by kernel_rfl) (by kernel_rfl) (by kernel_rfl) (fun _ _ _ h => h) ?hyz6 (HeldT.of hHeld) ?_
      case h1z6 => (simp only [List.getElem?_toArray, List.getElem?_cons_succ, List.getElem?_cons_zero]; rfl)
      case hyz6 => first | (refine Or.inr ⟨rfl, ?_⟩; rfl) | (refine Or.inl ⟨rfl, ?_⟩; intro w hSw; ((try dsimp only at hSw); obtain ⟨hB0, hB1, hB2, hB3, hB4, hB5⟩ := hSw); go_simp; done) | (refine Or.inl ⟨rfl, ?_⟩; intro w hSw; ((try dsimp only at hSw); obtain ⟨hB0, hB1, hB2, hB3, hB4, hB5⟩ := hSw); go_simp; with_reducible rfl)
      try simp only [Act.put, List.setIfInBounds_toArray, List.set_cons_zero, List.set_cons_succ]
      refine wpAnyT_take (i := 9) (oi := ?oiz7) (v := ?vz7) ?h1z7 (by kernel_rfl) (by kernel_rfl) (by kernel_rfl) (by kernel_rfl) (fun _ _ _ h => h) ?hyz7 (HeldT.of hHeld) ?_
      case h1z7 => (simp only [List.getElem?_toArray, List.getElem?_cons_succ, List.getElem?_cons_zero]; rfl)
      case hyz7 => first | (refine Or.inr ⟨rfl, ?_⟩; rfl) | (refine Or.inl ⟨rfl, ?_⟩; intro w hSw; (try dsimp only at hSw); go_simp; done) | (refine Or.inl ⟨rfl, ?_⟩; intro w hSw; (try dsimp only at hSw); go_simp; with_reducible rfl)
      try simp only [Act.put, List.setIfInBounds_toArray, List.set_cons_zero, List.set_cons_succ]
      refine wpAnyT_take (i := 10) (oi := ?oiz8) (v := ?vz8) ?h1z8 (by kernel_rfl) (by kernel_rfl) (by kernel_rfl) (by kernel_rfl) (fun _ _ _ h => h) ?hyz8 (HeldT.of hHeld) ?_
      case h1z8 => (simp only [List.getElem?_toArray, List.getElem?_cons_succ, List.getElem?_cons_zero]; rfl)
      case hyz8 => first | (refine Or.inr ⟨rfl, ?_⟩; rfl) | (refine Or.inl ⟨rfl, ?_⟩; intro w hSw; (try dsimp only at hSw); go_simp; done) | (refine Or.inl ⟨rfl, ?_⟩; intro w hSw; (try dsimp only at hSw); go_simp; with_reducible rfl)
      try simp only [Act.put, List.setIfInBounds_toArray, List.set_cons_zero, List.set_cons_succ]
      refine wpAnyT_take (i := 11) (oi := ?oiz9) (v := ?vz9) ?h1z9 (by kernel_rfl) (by kernel_rfl) (by kernel_rfl) (by kernel_rfl) (fun _ _ _ h => h) ?hyz9 (HeldT.of hHeld) ?_
      case h1z9 => (simp only [List.getElem?_toArray, List.getElem?_cons_succ, List.getElem?_cons_zero]; rfl)
      case hyz9 => first | (refine Or.inr ⟨rfl, ?_⟩; rfl) | (refine Or.inl ⟨rfl, ?_⟩; intro w hSw; (try dsimp only at hSw); go_simp; done) | (refine Or.inl ⟨rfl, ?_⟩; intro w hSw; (try dsimp only at hSw); go_simp; with_reducible rfl)
      try simp only [Act.put, List.setIfInBounds_toArray, List.set_cons_zero, List.set_cons_succ]
      refine wpAnyT_take (i := 12) (oi := ?oiz10) (v := ?vz10) ?h1z10 (by kernel_rfl) (by kernel_rfl) (by kernel_rfl) (by kernel_rfl) (fun _ _ _ h => h) ?hyz10 (HeldT.of hHeld) ?_
      case h1z10 => (simp only [List.getElem?_toArray, List.getElem?_cons_succ, List.getElem?_cons_zero]; rfl)
      case hyz10 => first | (refine Or.inr ⟨rfl, ?_⟩; rfl) | (refine Or.inl ⟨rfl, ?_⟩; intro w hSw; (try dsimp only at hSw); go_simp; done) | (refine Or.inl ⟨rfl, ?_⟩; intro w hSw; (try dsimp only at hSw); go_simp; with_reducible rfl)
      try simp only [Act.put, List.setIfInBounds_toArray, List.set_cons_zero, List.set_cons_succ]
      refine wpAnyT_load 14 (i := 13) (oi := ?oiz11) (v := ?vz11) ?h1z11 (by kernel_rfl) (by kernel_rfl) (by kernel_rfl) (by kernel_rfl) (fun _ _ _ h => h) ?hyz11 (HeldT.of hHeld) ?_
      case h1z11 => (simp only [List.getElem?_toArray, List.getElem?_cons_succ, List.getElem?_cons_zero]; rfl)
      case hyz11 => first | (refine Or.inr ⟨rfl, ?_⟩; rfl) | (refine Or.inl ⟨rfl, ?_⟩; intro w hSw; ((try dsimp only at hSw); obtain ⟨hB0, hB1, hB2, hB3, hB4, hB5⟩ := hSw); go_simp; done) | (refine Or.inl ⟨rfl, ?_⟩; intro w hSw; ((try dsimp only at hSw); obtain ⟨hB0, hB1, hB2, hB3, hB4, hB5⟩ := hSw); go_simp; with_reducible rfl)
      try simp only [Act.put, List.setIfInBounds_toArray, List.set_cons_zero, List.set_cons_succ]
      refine wpAnyT_take (i := 17) (oi := ?oiz12) (v := ?vz12) ?h1z12 (by kernel_rfl) (by kernel_rfl) (by kernel_rfl) (by kernel_rfl) (fun _ _ _ h => h) ?hyz12 (HeldT.of hHeld) ?_
      case h1z12 => (simp only [List.getElem?_toArray, List.getElem?_cons_succ, List.getElem?_cons_zero]; rfl)
      case hyz12 => first | (refine Or.inr ⟨rfl, ?_⟩; rfl) | (refine Or.inl ⟨rfl, ?_⟩; intro w hSw; (try dsimp only at hSw); go_simp; done) | (refine Or.inl ⟨rfl, ?_⟩; intro w hSw; (try dsimp only at hSw); go_simp; with_reducible rfl)
      try simp only [Act.put, List.setIfInBounds_toArray, List.set_cons_zero, List.set_cons_succ]
      refine wpAnyT_take (i := 18) (oi := ?oiz13) (v := ?vz13) ?h1z13 (by kernel_rfl) (by kernel_rfl) (by kernel_rfl) (by kernel_rfl) (fun _ _ _ h => h) ?hyz13 (HeldT.of hHeld) ?_
      case h1z13 => (simp only [List.getElem?_toArray, List.getElem?_cons_succ, List.getElem?_cons_zero]; rfl)
      case hyz13 => first | (refine Or.inr ⟨rfl, ?_⟩; rfl) | (refine Or.inl ⟨rfl, ?_⟩; intro w hSw; (try dsimp only at hSw); go_simp; done) | (refine Or.inl ⟨rfl, ?_⟩; intro w hSw; (try dsimp only at hSw); go_simp; with_reducible rfl)
      try simp only [Act.put, List.setIfInBounds_toArray, List.set_cons_zero, List.set_cons_succ]
      refine wpAnyT_take (i := 19) (oi := ?oiz14) (v := ?vz14) ?h1z14 (by kernel_rfl) (by kernel_rfl) (by kernel_rfl) (by kernel_rfl) (fun _ _ _ h => h) ?hyz14 (HeldT.of hHeld) ?_
      case h1z14 => (simp only [List.getElem?_toArray, List.getElem?_cons_succ, List.getElem?_cons_zero]; rfl)
      case hyz14 => first | (refine Or.inr ⟨rfl, ?_⟩; rfl) | (refine Or.inl ⟨rfl, ?_⟩; intro w hSw; (try dsimp only at hSw); go_simp; done) | (refine Or.inl ⟨rfl, ?_⟩; intro w hSw; (try dsimp only at hSw); go_simp; with_reducible rfl)
      try simp only [Act.put, List.setIfInBounds_toArray, List.set_cons_zero, List.set_cons_succ]
      refine wpAnyT_take (i := 20) (oi := ?oiz15) (v := ?vz15) ?h1z15 (by kernel_rfl) (by kernel_rfl) (by kernel_rfl) (by kernel_rfl) (fun _ _ _ h => h) ?hyz15 (HeldT.of hHeld) ?_
      case h1z15 => (simp only [List.getElem?_toArray, List.getElem?_cons_succ, List.getElem?_cons_zero]; rfl)
      case hyz15 => first | (refine Or.inr ⟨rfl, ?_⟩; rfl) | (refine Or.inl ⟨rfl, ?_⟩; intro w hSw; (try dsimp only at hSw); go_simp; done) | (refine Or.inl ⟨rfl, ?_⟩; intro w hSw; (try dsimp only at hSw); go_simp; with_reducible rfl)
      try simp only [Act.put, List.setIfInBounds_toArray, List.set_cons_zero, List.set_cons_succ]
      refine wpAnyT_load 22 (i := 21) (oi := ?oiz16) (v := ?vz16) ?h1z16 (by kernel_rfl) (by kernel_rfl) (by kernel_rfl) (by kernel_rfl) (fun _ _ _ h => h) ?hyz16 (HeldT.of hHeld) ?_
      case h1z16 => (simp only [List.getElem?_toArray, List.getElem?_cons_succ, List.getElem?_cons_zero]; rfl)
      case hyz16 => first | (refine Or.inr ⟨rfl, ?_⟩; rfl) | (refine Or.inl ⟨rfl, ?_⟩; intro w hSw; ((try dsimp only at hSw); obtain ⟨hB0, hB1, hB2, hB3, hB4, hB5⟩ := hSw); go_simp; done) | (refine Or.inl ⟨rfl, ?_⟩; intro w hSw; ((try dsimp only at hSw); obtain ⟨hB0, hB1, hB2, hB3, hB4, hB5⟩ := hSw); go_simp; with_reducible rfl)
      try simp only [Act.put, List.setIfInBounds_toArray, List.set_cons_zero, List.set_cons_succ]
      refine wpAnyT_take (i := 25) (oi := ?oiz17) (v := ?vz17) ?h1z17 (by kernel_rfl) (by kernel_rfl) (by kernel_rfl) (by kernel_rfl) (fun _ _ _ h => h) ?hyz17 (HeldT.of hHeld) ?_
      case h1z17 => (simp only [List.getElem?_toArray, List.getElem?_cons_succ, List.getElem?_cons_zero]; rfl)
      case hyz17 => first | (refine Or.inr ⟨rfl, ?_⟩; rfl) | (refine Or.inl ⟨rfl, ?_⟩; intro w hSw; (try dsimp only at hSw); go_simp; done) | (refine Or.inl ⟨rfl, ?_⟩; intro w hSw; (try dsimp only at hSw); go_simp; with_reducible rfl)
      try simp only [Act.put, List.setIfInBounds_toArray, List.set_cons_zero, List.set_cons_succ]
      refine wpAnyT_take (i := 26) (oi := ?oiz18) (v := ?vz18) ?h1z18 (by kernel_rfl) (by kernel_rfl) (by kernel_rfl) (by kernel_rfl) (fun _ _ _ h => h) ?hyz18 (HeldT.of hHeld) ?_
      case h1z18 => (simp only [List.getElem?_toArray, List.getElem?_cons_succ, List.getElem?_cons_zero]; rfl)
      case hyz18 => first | (refine Or.inr ⟨rfl, ?_⟩; rfl) | (refine Or.inl ⟨rfl, ?_⟩; intro w hSw; (try dsimp only at hSw); go_simp; done) | (refine Or.inl ⟨rfl, ?_⟩; intro w hSw; (try dsimp only at hSw); go_simp; with_reducible rfl)
      try simp only [Act.put, List.setIfInBounds_toArray, List.set_cons_zero, List.set_cons_succ]
      refine wpAnyT_take (i := 27) (oi := ?oiz19) (v := ?vz19) ?h1z19 (by kernel_rfl) (by kernel_rfl) (by kernel_rfl) (by kernel_rfl) (fun _ _ _ h => h) ?hyz19 (HeldT.of hHeld) ?_
      case h1z19 => (simp only [List.getElem?_toArray, List.getElem?_cons_succ, List.getElem?_cons_zero]; rfl)
      case hyz19 => first | (refine Or.inr ⟨rfl, ?_⟩; rfl) | (refine Or.inl ⟨rfl, ?_⟩; intro w hSw; (try dsimp only at hSw); go_simp; done) | (refine Or.inl ⟨rfl, ?_⟩; intro w hSw; (try dsimp only at hSw); go_simp; with_reducible rfl)
      try simp only [Act.put, List.setIfInBounds_toArray, List.set_cons_zero, List.set_cons_succ]
      refine wpAnyT_take (i := 28) (oi := ?oiz20) (v := ?vz20) ?h1z20 (by kernel_rfl) (by kernel_rfl) (by kernel_rfl) (by kernel_rfl) (fun _ _ _ h => h) ?hyz20 (HeldT.of hHeld) ?_
      case h1z20 => (simp only [List.getElem?_toArray, List.getElem?_cons_succ, List.getElem?_cons_zero]; rfl)
      case hyz20 => first | (refine Or.inr ⟨rfl, ?_⟩; rfl) | (refine Or.inl ⟨rfl, ?_⟩; intro w hSw; (try dsimp only at hSw); go_simp; done) | (refine Or.inl ⟨rfl, ?_⟩; intro w hSw; (try dsimp only at hSw); go_simp; with_reducible rfl)
      try simp only [Act.put, List.setIfInBounds_toArray, List.set_cons_zero, List.set_cons_succ]
      refine wpAnyT_load 30 (i := 29) (oi := ?oiz21) (v := ?vz21) ?h1z21 (by kernel_rfl) (by kernel_rfl) (by kernel_rfl) (by kernel_rfl) (fun _ _ _ h => h) ?hyz21 (HeldT.of hHeld) ?_
      case h1z21 => (simp only [List.getElem?_toArray, List.getElem?_cons_succ, List.getElem?_cons_zero]; rfl)
      case hyz21 => first | (refine Or.inr ⟨rfl, ?_⟩; rfl) | (refine Or.inl ⟨rfl, ?_⟩; intro w hSw; ((try dsimp only at hSw); obtain ⟨hB0, hB1, hB2, hB3, hB4, hB5⟩ := hSw); go_simp; done) | (refine Or.inl ⟨rfl, ?_⟩; intro w hSw; ((try dsimp only at hSw); obtain ⟨hB0, hB1, hB2, hB3, hB4, hB5⟩ := hSw); go_simp; with_reducible rfl)
      try simp only [Act.put, List.setIfInBounds_toArray, List.set_cons_zero, List.set_cons_succ]
      refine wpAnyT_take (i := 34) (oi := ?oiz22) (v := ?vz22) ?h1z22 (by kernel_rfl) (by kernel_rfl) (by kernel_rfl) (by kernel_rfl) (fun _ _ _ h => h) ?hyz22 (HeldT.of hHeld) ?_
      case h1z22 => (simp only [List.getElem?_toArray, List.getElem?_cons_succ, List.getElem?_cons_zero]; rfl)
      case hyz22 => first | (refine Or.inr ⟨rfl, ?_⟩; rfl) | (refine Or.inl ⟨rfl, ?_⟩; intro w hSw; (try dsimp only at hSw); go_simp; done) | (refine Or.inl ⟨rfl, ?_⟩; intro w hSw; (try dsimp only at hSw); go_simp; with_reducible rfl)
      try simp only [Act.put, List.setIfInBounds_toArray, List.set_cons_zero, List.set_cons_succ]
      refine wpAnyT_take (i := 35) (oi := ?oiz23) (v := ?vz23) ?h1z23 (by kernel_rfl) (by kernel_rfl) (by kernel_rfl) (by kernel_rfl) (fun _ _ _ h => h) ?hyz23 (HeldT.of hHeld) ?_
      case h1z23 => (simp only [List.getElem?_toArray, List.getElem?_cons_succ, List.getElem?_cons_zero]; rfl)
      case hyz23 => first | (refine Or.inr ⟨rfl, ?_⟩; rfl) | (refine Or.inl ⟨rfl, ?_⟩; intro w hSw; (try dsimp only at hSw); go_simp; done) | (refine Or.inl ⟨rfl, ?_⟩; intro w hSw; (try dsimp only at hSw); go_simp; with_reducible rfl)
      try simp only [Act.put, List.setIfInBounds_toArray, List.set_cons_zero, List.set_cons_succ]
      refine wpAnyT_take (i := 36) (oi := ?oiz24) (v := ?vz24) ?h1z24 (by kernel_rfl) (by kernel_rfl) (by kernel_rfl) (by kernel_rfl) (fun _ _ _ h => h) ?hyz24 (HeldT.of hHeld) ?_
      case h1z24 => (simp only [List.getElem?_toArray, List.getElem?_cons_succ, List.getElem?_cons_zero]; rfl)
      case hyz24 => first | (refine Or.inr ⟨rfl, ?_⟩; rfl) | (refine Or.inl ⟨rfl, ?_⟩; intro w hSw; (try dsimp only at hSw); go_simp; done) | (refine Or.inl ⟨rfl, ?_⟩; intro w hSw; (try dsimp only at hSw); go_simp; with_reducible rfl)
      try simp only [Act.put, List.setIfInBounds_toArray, List.set_cons_zero, List.set_cons_succ]
      refine wpAnyT_take (i := 37) (oi := ?oiz25) (v := ?vz25) ?h1z25 (by kernel_rfl) (by kernel_rfl) (by kernel_rfl) (by kernel_rfl) (fun _ _ _ h => h) ?hyz25 (HeldT.of hHeld) ?_
      case h1z25 => (simp only [List.getElem?_toArray, List.getElem?_cons_succ, List.getElem?_cons_zero]; rfl)
      case hyz25 => first | (refine Or.inr ⟨rfl, ?_⟩; rfl) | (refine Or.inl ⟨rfl, ?_⟩; intro w hSw; (try dsimp only at hSw); go_simp; done) | (refine Or.inl ⟨rfl, ?_⟩; intro w hSw; (try dsimp only at hSw); go_simp; with_reducible rfl)
      try simp only [Act.put, List.setIfInBounds_toArray, List.set_cons_zero, List.set_cons_succ]
      refine wpAnyT_load 39 (i := 38) (oi := ?oiz26) (v := ?vz26) ?h1z26 (by kernel_rfl) (by kernel_rfl) (by kernel_rfl) (by kernel_rfl) (fun _ _ _ h => h) ?hyz26 (HeldT.of hHeld) ?_
      case h1z26 => (simp only [List.getElem?_toArray, List.getElem?_cons_succ, List.getElem?_cons_zero]; rfl)
      case hyz26 => first | (refine Or.inr ⟨rfl, ?_⟩; rfl) | (refine Or.inl ⟨rfl, ?_⟩; intro w hSw; ((try dsimp only at hSw); obtain ⟨hB0, hB1, hB2, hB3, hB4, hB5⟩ := hSw); go_simp; done) | (refine Or.inl ⟨rfl, ?_⟩; intro w hSw; ((try dsimp only at hSw); obtain ⟨hB0, hB1, hB2, hB3, hB4, hB5⟩ := hSw); go_simp; with_reducible rfl)
      try simp only [Act.put, List.setIfInBounds_toArray, List.set_cons_zero, List.set_cons_succ]
      refine wpAnyT_ready (rs := [6, 30]) (by kernel_rfl) (by simp) ?_
      refine AllReadyT.cons (o := ?oiz44) ?h1z44 (fun K hK => ?_) ?morez44
      case h1z44 => (simp only [List.getElem?_toArray, List.getElem?_cons_succ, List.getElem?_cons_zero]; rfl)
      case morez44 =>
        refine AllReadyT.cons (o := ?oiz27) ?h1z27 (fun K hK => ?_) ?morez27
        case h1z27 => (simp only [List.getElem?_toArray, List.getElem?_cons_succ, List.getElem?_cons_zero]; rfl)
        case morez27 =>
          exact AllReadyT.nil
        obtain ⟨Cv, wv, cvv, yv, dv⟩ := HCV.out _ hd0
        go_simp
        have hHeld := HKP.out _ dv
        refine hK.out _ _ (HeldT.of hHeld) (fun _ => ?_)
        clear hK K
        try simp only [Act.put, List.setIfInBounds_toArray, List.set_cons_zero, List.set_cons_succ]
        refine wpAnyT_ready (rs := [6]) (by kernel_rfl) (by simp) ?_
        refine AllReadyT.cons (o := ?oiz28) ?h1z28 (fun K hK => ?_) ?morez28
        case h1z28 => (simp only [List.getElem?_toArray, List.getElem?_cons_succ, List.getElem?_cons_zero]; rfl)
        case morez28 =>
          exact AllReadyT.nil
        go_simp
        go_at_call 18
        refine (HN1.out _ dv).mono ?_
        rintro _ wvc ⟨rfl, dvc, lvc⟩
        have yvc := yv.below lvc
        have hHeld := HKP.out _ dvc
        refine hK.out _ _ (HeldT.of hHeld) (fun _ => ?_)
        clear hK K
        try simp only [Act.put, List.setIfInBounds_toArray, List.set_cons_zero, List.set_cons_succ]
        refine wpAnyT_take (i := 7) (oi := ?oiz29) (v := ?vz29) ?h1z29 (by kernel_rfl) (by kernel_rfl) (by kernel_rfl) (by kernel_rfl) (fun _ _ _ h => h) ?hyz29 (HeldT.of hHeld) ?_
        case h1z29 => (simp only [List.getElem?_toArray, List.getElem?_cons_succ, List.getElem?_cons_zero]; rfl)
        case hyz29 => first | (refine Or.inr ⟨rfl, ?_⟩; rfl) | (refine Or.inl ⟨rfl, ?_⟩; intro w hSw; (try dsimp only at hSw); go_simp; done) | (refine Or.inl ⟨rfl, ?_⟩; intro w hSw; (try dsimp only at hSw); go_simp; with_reducible rfl)
        try simp only [Act.put, List.setIfInBounds_toArray, List.set_cons_zero, List.set_cons_succ]
        refine wpAnyT_take (i := 8) (oi := ?oiz30) (v := ?vz30) ?h1z30 (by kernel_rfl) (by kernel_rfl) (by kernel_rfl) (by kernel_rfl) (fun _ _ _ h => h) ?hyz30 (HeldT.of hHeld) ?_
        case h1z30 => (simp only [List.getElem?_toArray, List.getElem?_cons_succ, List.getElem?_cons_zero]; rfl)
        case hyz30 => first | (refine Or.inr ⟨rfl, ?_⟩; rfl) | (refine Or.inl ⟨rfl, ?_⟩; intro w hSw; (try dsimp only at hSw); go_simp; done) | (refine Or.inl ⟨rfl, ?_⟩; intro w hSw; (try dsimp only at hSw); go_simp; with_reducible rfl)
        try simp only [Act.put, List.setIfInBounds_toArray, List.set_cons_zero, List.set_cons_succ]
        refine wpAnyT_ready (rs := [14]) (by kernel_rfl) (by simp) ?_
        refine AllReadyT.cons (o := ?oiz31) ?h1z31 (fun K hK => ?_) ?morez31
        case h1z31 => (simp only [List.getElem?_toArray, List.getElem?_cons_succ, List.getElem?_cons_zero]; rfl)
        case morez31 =>
          exact AllReadyT.nil
        go_simp
        go_at_call 18
        refine (HN2.out _ dvc).mono ?_
        rintro _ wvcc ⟨rfl, dvcc, lvcc⟩
        have yvcc := yvc.below lvcc
        have hHeld := HKP.out _ dvcc
        refine hK.out _ _ (HeldT.of hHeld) (fun _ => ?_)
        clear hK K
        try simp only [Act.put, List.setIfInBounds_toArray, List.set_cons_zero, List.set_cons_succ]
        refine wpAnyT_take (i := 15) (oi := ?oiz32) (v := ?vz32) ?h1z32 (by kernel_rfl) (by kernel_rfl) (by kernel_rfl) (by kernel_rfl) (fun _ _ _ h => h) ?hyz32 (HeldT.of hHeld) ?_
        case h1z32 => (simp only [List.getElem?_toArray, List.getElem?_cons_succ, List.getElem?_cons_zero]; rfl)
        case hyz32 => first | (refine Or.inr ⟨rfl, ?_⟩; rfl) | (refine Or.inl ⟨rfl, ?_⟩; intro w hSw; (try dsimp only at hSw); go_simp; done) | (refine Or.inl ⟨rfl, ?_⟩; intro w hSw; (try dsimp only at hSw); go_simp; with_reducible rfl)
        try simp only [Act.put, List.setIfInBounds_toArray, List.set_cons_zero, List.set_cons_succ]
        refine wpAnyT_take (i := 16) (oi := ?oiz33) (v := ?vz33) ?h1z33 (by kernel_rfl) (by kernel_rfl) (by kernel_rfl) (by kernel_rfl) (fun _ _ _ h => h) ?hyz33 (HeldT.of hHeld) ?_
        case h1z33 => (simp only [List.getElem?_toArray, List.getElem?_cons_succ, List.getElem?_cons_zero]; rfl)
        case hyz33 => first | (refine Or.inr ⟨rfl, ?_⟩; rfl) | (refine Or.inl ⟨rfl, ?_⟩; intro w hSw; (try dsimp only at hSw); go_simp; done) | (refine Or.inl ⟨rfl, ?_⟩; intro w hSw; (try dsimp only at hSw); go_simp; with_reducible rfl)
        try simp only [Act.put, List.setIfInBounds_toArray, List.set_cons_zero, List.set_cons_succ]
        refine wpAnyT_ready (rs := [22]) (by kernel_rfl) (by simp) ?_
        refine AllReadyT.cons (o := ?oiz34) ?h1z34 (fun K hK => ?_) ?morez34
        case h1z34 => (simp only [List.getElem?_toArray, List.getElem?_cons_succ, List.getElem?_cons_zero]; rfl)
        case morez34 =>
          exact AllReadyT.nil
        go_simp
        go_at_call 19
        refine (HN3.out _ dvcc).mono ?_
        rintro _ wvccc ⟨rfl, dvccc, lvccc⟩
        have yvccc := yvcc.below lvccc
        have hHeld := HKP.out _ dvccc
        refine hK.out _ _ (HeldT.of hHeld) (fun _ => ?_)
        clear hK K
        try simp only [Act.put, List.setIfInBounds_toArray, List.set_cons_zero, List.set_cons_succ]
        refine wpAnyT_take (i := 23) (oi := ?oiz35) (v := ?vz35) ?h1z35 (by kernel_rfl) (by kernel_rfl) (by kernel_rfl) (by kernel_rfl) (fun _ _ _ h => h) ?hyz35 (HeldT.of hHeld) ?_
        case h1z35 => (simp only [List.getElem?_toArray, List.getElem?_cons_succ, List.getElem?_cons_zero]; rfl)
        case hyz35 => first | (refine Or.inr ⟨rfl, ?_⟩; rfl) | (refine Or.inl ⟨rfl, ?_⟩; intro w hSw; (try dsimp only at hSw); go_simp; done) | (refine Or.inl ⟨rfl, ?_⟩; intro w hSw; (try dsimp only at hSw); go_simp; with_reducible rfl)
        try simp only [Act.put, List.setIfInBounds_toArray, List.set_cons_zero, List.set_cons_succ]
        refine wpAnyT_take (i := 24) (oi := ?oiz36) (v := ?vz36) ?h1z36 (by kernel_rfl) (by kernel_rfl) (by kernel_rfl) (by kernel_rfl) (fun _ _ _ h => h) ?hyz36 (HeldT.of hHeld) ?_
        case h1z36 => (simp only [List.getElem?_toArray, List.getElem?_cons_succ, List.getElem?_cons_zero]; rfl)
        case hyz36 => first | (refine Or.inr ⟨rfl, ?_⟩; rfl) | (refine Or.inl ⟨rfl, ?_⟩; intro w hSw; (try dsimp only at hSw); go_simp; done) | (refine Or.inl ⟨rfl, ?_⟩; intro w hSw; (try dsimp only at hSw); go_simp; with_reducible rfl)
        try simp only [Act.put, List.setIfInBounds_toArray, List.set_cons_zero, List.set_cons_succ]
        refine wpAnyT_ready (rs := [31]) (by kernel_rfl) (by simp) ?_
        refine AllReadyT.cons (o := ?oiz37) ?h1z37 (fun K hK => ?_) ?morez37
        case h1z37 => (simp only [List.getElem?_toArray, List.getElem?_cons_succ, List.getElem?_cons_zero]; rfl)
        case morez37 =>
          exact AllReadyT.nil
        go_simp
        go_at_call 20
        refine (HH1.out _ _ yvccc dvccc).mono ?_
        rintro _ wvcccc ⟨rfl, dvcccc, lvcccc⟩
        have hHeld := HKP.out _ dvcccc
        refine hK.out _ _ (HeldT.of hHeld) (fun _ => ?_)
        clear hK K
        try simp only [Act.put, List.setIfInBounds_toArray, List.set_cons_zero, List.set_cons_succ]
        refine wpAnyT_take (i := 32) (oi := ?oiz38) (v := ?vz38) ?h1z38 (by kernel_rfl) (by kernel_rfl) (by kernel_rfl) (by kernel_rfl) (fun _ _ _ h => h) ?hyz38 (HeldT.of hHeld) ?_
        case h1z38 => (simp only [List.getElem?_toArray, List.getElem?_cons_succ, List.getElem?_cons_zero]; rfl)
        case hyz38 => first | (refine Or.inr ⟨rfl, ?_⟩; rfl) | (refine Or.inl ⟨rfl, ?_⟩; intro w hSw; (try dsimp only at hSw); go_simp; done) | (refine Or.inl ⟨rfl, ?_⟩; intro w hSw; (try dsimp only at hSw); go_simp; with_reducible rfl)
        try simp only [Act.put, List.setIfInBounds_toArray, List.set_cons_zero, List.set_cons_succ]
        refine wpAnyT_take (i := 33) (oi := ?oiz39) (v := ?vz39) ?h1z39 (by kernel_rfl) (by kernel_rfl) (by kernel_rfl) (by kernel_rfl) (fun _ _ _ h => h) ?hyz39 (HeldT.of hHeld) ?_
        case h1z39 => (simp only [List.getElem?_toArray, List.getElem?_cons_succ, List.getElem?_cons_zero]; rfl)
        case hyz39 => first | (refine Or.inr ⟨rfl, ?_⟩; rfl) | (refine Or.inl ⟨rfl, ?_⟩; intro w hSw; (try dsimp only at hSw); go_simp; done) | (refine Or.inl ⟨rfl, ?_⟩; intro w hSw; (try dsimp only at hSw); go_simp; with_reducible rfl)
        try simp only [Act.put, List.setIfInBounds_toArray, List.set_cons_zero, List.set_cons_succ]
        refine wpAnyT_ready (rs := [39]) (by kernel_rfl) (by simp) ?_
        refine AllReadyT.cons (o := ?oiz40) ?h1z40 (fun K hK => ?_) ?morez40
        case h1z40 => (simp only [List.getElem?_toArray, List.getElem?_cons_succ, List.getElem?_cons_zero]; rfl)
        case morez40 =>
          exact AllReadyT.nil
        go_simp
        go_at_call 20
        refine (HH2.out _ dvcccc).mono ?_
        rintro _ wvccccc ⟨rfl, dvccccc, lvccccc⟩
        have hHeld := HKP.out _ dvccccc
        refine hK.out _ _ (HeldT.of hHeld) (fun _ => ?_)
        clear hK K
        try simp only [Act.put, List.setIfInBounds_toArray, List.set_cons_zero, List.set_cons_succ]
        refine wpAnyT_take (i := 40) (oi := ?oiz41) (v := ?vz41) ?h1z41 (by kernel_rfl) (by kernel_rfl) (by kernel_rfl) (by kernel_rfl) (fun _ _ _ h => h) ?hyz41 (HeldT.of hHeld) ?_
        case h1z41 => (simp only [List.getElem?_toArray, List.getElem?_cons_succ, List.getElem?_cons_zero]; rfl)
        case hyz41 => first | (refine Or.inr ⟨rfl, ?_⟩; rfl) | (refine Or.inl ⟨rfl, ?_⟩; intro w hSw; (try dsimp only at hSw); go_simp; done) | (refine Or.inl ⟨rfl, ?_⟩; intro w hSw; (try dsimp only at hSw); go_simp; with_reducible rfl)
        try simp only [Act.put, List.setIfInBounds_toArray, List.set_cons_zero, List.set_cons_succ]
        refine wpAnyT_take (i := 41) (oi := ?oiz42) (v := ?vz42) ?h1z42 (by kernel_rfl) (by kernel_rfl) (by kernel_rfl) (by kernel_rfl) (fun _ _ _ h => h) ?hyz42 (HeldT.of hHeld) ?_
        case h1z42 => (simp only [List.getElem?_toArray, List.getElem?_cons_succ, List.getElem?_cons_zero]; rfl)
        case hyz42 => first | (refine Or.inr ⟨rfl, ?_⟩; rfl) | (refine Or.inl ⟨rfl, ?_⟩; intro w hSw; (try dsimp only at hSw); go_simp; done) | (refine Or.inl ⟨rfl, ?_⟩; intro w hSw; (try dsimp only at hSw); go_simp; with_reducible rfl)
        try simp only [Act.put, List.setIfInBounds_toArray, List.set_cons_zero, List.set_cons_succ]
        refine wpAnyT_take (i := 42) (oi := ?oiz43) (v := ?vz43) ?h1z43 (by kernel_rfl) (by kernel_rfl) (by kernel_rfl) (by kernel_rfl) (fun _ _ _ h => h) ?hyz43 (HeldT.of hHeld) ?_
        case h1z43 => (simp only [List.getElem?_toArray, List.getElem?_cons_succ, List.getElem?_cons_zero]; rfl)
        case hyz43 => first | (refine Or.inr ⟨rfl, ?_⟩; rfl) | (refine Or.inl ⟨rfl, ?_⟩; intro w hSw; (try dsimp only at hSw); go_simp; done) | (refine Or.inl ⟨rfl, ?_⟩; intro w hSw; (try dsimp only at hSw); go_simp; with_reducible rfl)
        try simp only [Act.put, List.setIfInBounds_toArray, List.set_cons_zero, List.set_cons_succ]
        refine wpAnyT_done (by kernel_rfl) ?_ _
        refine NoPanic.normal ?_
        go_wp2
        go_roundw
        case rel => exact ⟨k + 1, by omega, by go_num, by rw [HTX.out, HQ10.out], dvccccc⟩
        case measure => simp [intOf]; omega
      go_simp
      go_at_call 18
      refine (HN1.out _ hd0).mono ?_
      rintro _ wc ⟨rfl, dc, lc⟩
      have hHeld := HKP.out _ dc
      refine hK.out _ _ (HeldT.of hHeld) (fun _ => ?_)
      clear hK K
      try simp only [Act.put, List.setIfInBounds_toArray, List.set_cons_zero, List.set_cons_succ]
      refine wpAnyT_take (i := 7) (oi := ?oiz45) (v := ?vz45) ?h1z45 (by kernel_rfl) (by kernel_rfl) (by kernel_rfl) (by kernel_rfl) (fun _ _ _ h => h) ?hyz45 (HeldT.of hHeld) ?_
      case h1z45 => (simp only [List.getElem?_toArray, List.getElem?_cons_succ, List.getElem?_cons_zero]; rfl)
      case hyz45 => first | (refine Or.inr ⟨rfl, ?_⟩; rfl) | (refine Or.inl ⟨rfl, ?_⟩; intro w hSw; (try dsimp only at hSw); go_simp; done) | (refine Or.inl ⟨rfl, ?_⟩; intro w hSw; (try dsimp only at hSw); go_simp; with_reducible rfl)
      try simp only [Act.put, List.setIfInBounds_toArray, List.set_cons_zero, List.set_cons_succ]
      refine wpAnyT_take (i := 8) (oi := ?oiz46) (v := ?vz46) ?h1z46 (by kernel_rfl) (by kernel_rfl) (by kernel_rfl) (by kernel_rfl) (fun _ _ _ h => h) ?hyz46 (HeldT.of hHeld) ?_
      case h1z46 => (simp only [List.getElem?_toArray, List.getElem?_cons_succ, List.getElem?_cons_zero]; rfl)
      case hyz46 => first | (refine Or.inr ⟨rfl, ?_⟩; rfl) | (refine Or.inl ⟨rfl, ?_⟩; intro w hSw; (try dsimp only at hSw); go_simp; done) | (refine Or.inl ⟨rfl, ?_⟩; intro w hSw; (try dsimp only at hSw); go_simp; with_reducible rfl)
      try simp only [Act.put, List.setIfInBounds_toArray, List.set_cons_zero, List.set_cons_succ]
      refine wpAnyT_ready (rs := [14, 30]) (by kernel_rfl) (by simp) ?_
      refine AllReadyT.cons (o := ?oiz61) ?h1z61 (fun K hK => ?_) ?morez61
      case h1z61 => (simp only [List.getElem?_toArray, List.getElem?_cons_succ, List.getElem?_cons_zero]; rfl)
      case morez61 =>
        refine AllReadyT.cons (o := ?oiz47) ?h1z47 (fun K hK => ?_) ?morez47
        case h1z47 => (simp only [List.getElem?_toArray, List.getElem?_cons_succ, List.getElem?_cons_zero]; rfl)
        case morez47 =>
          exact AllReadyT.nil
        obtain ⟨Ccv, wcv, cvcv, ycv, dcv⟩ := HCV.out _ dc
        go_simp
        have hHeld := HKP.out _ dcv
        refine hK.out _ _ (HeldT.of hHeld) (fun _ => ?_)
        clear hK K
        try simp only [Act.put, List.setIfInBounds_toArray, List.set_cons_zero, List.set_cons_succ]
        refine wpAnyT_ready (rs := [14]) (by kernel_rfl) (by simp) ?_
        refine AllReadyT.cons (o := ?oiz48) ?h1z48 (fun K hK => ?_) ?morez48
        case h1z48 => (simp only [List.getElem?_toArray, List.getElem?_cons_succ, List.getElem?_cons_zero]; rfl)
        case morez48 =>
          exact AllReadyT.nil
        go_simp
        go_at_call 18
        refine (HN2.out _ dcv).mono ?_
        rintro _ wcvc ⟨rfl, dcvc, lcvc⟩
        have ycvc := ycv.below lcvc
        have hHeld := HKP.out _ dcvc
        refine hK.out _ _ (HeldT.of hHeld) (fun _ => ?_)
        clear hK K
        try simp only [Act.put, List.setIfInBounds_toArray, List.set_cons_zero, List.set_cons_succ]
        refine wpAnyT_take (i := 15) (oi := ?oiz49) (v := ?vz49) ?h1z49 (by kernel_rfl) (by kernel_rfl) (by kernel_rfl) (by kernel_rfl) (fun _ _ _ h => h) ?hyz49 (HeldT.of hHeld) ?_
        case h1z49 => (simp only [List.getElem?_toArray, List.getElem?_cons_succ, List.getElem?_cons_zero]; rfl)
        case hyz49 => first | (refine Or.inr ⟨rfl, ?_⟩; rfl) | (refine Or.inl ⟨rfl, ?_⟩; intro w hSw; (try dsimp only at hSw); go_simp; done) | (refine Or.inl ⟨rfl, ?_⟩; intro w hSw; (try dsimp only at hSw); go_simp; with_reducible rfl)
        try simp only [Act.put, List.setIfInBounds_toArray, List.set_cons_zero, List.set_cons_succ]
        refine wpAnyT_take (i := 16) (oi := ?oiz50) (v := ?vz50) ?h1z50 (by kernel_rfl) (by kernel_rfl) (by kernel_rfl) (by kernel_rfl) (fun _ _ _ h => h) ?hyz50 (HeldT.of hHeld) ?_
        case h1z50 => (simp only [List.getElem?_toArray, List.getElem?_cons_succ, List.getElem?_cons_zero]; rfl)
        case hyz50 => first | (refine Or.inr ⟨rfl, ?_⟩; rfl) | (refine Or.inl ⟨rfl, ?_⟩; intro w hSw; (try dsimp only at hSw); go_simp; done) | (refine Or.inl ⟨rfl, ?_⟩; intro w hSw; (try dsimp only at hSw); go_simp; with_reducible rfl)
        try simp only [Act.put, List.setIfInBounds_toArray, List.set_cons_zero, List.set_cons_succ]
        refine wpAnyT_ready (rs := [22]) (by kernel_rfl) (by simp) ?_
        refine AllReadyT.cons (o := ?oiz51) ?h1z51 (fun K hK => ?_) ?morez51
        case h1z51 => (simp only [List.getElem?_toArray, List.getElem?_cons_succ, List.getElem?_cons_zero]; rfl)
        case morez51 =>
          exact AllReadyT.nil
        go_simp
        go_at_call 19
        refine (HN3.out _ dcvc).mono ?_
        rintro _ wcvcc ⟨rfl, dcvcc, lcvcc⟩
        have ycvcc := ycvc.below lcvcc
        have hHeld := HKP.out _ dcvcc
        refine hK.out _ _ (HeldT.of hHeld) (fun _ => ?_)
        clear hK K
        try simp only [Act.put, List.setIfInBounds_toArray, List.set_cons_zero, List.set_cons_succ]
        refine wpAnyT_take (i := 23) (oi := ?oiz52) (v := ?vz52) ?h1z52 (by kernel_rfl) (by kernel_rfl) (by kernel_rfl) (by kernel_rfl) (fun _ _ _ h => h) ?hyz52 (HeldT.of hHeld) ?_
        case h1z52 => (simp only [List.getElem?_toArray, List.getElem?_cons_succ, List.getElem?_cons_zero]; rfl)
        case hyz52 => first | (refine Or.inr ⟨rfl, ?_⟩; rfl) | (refine Or.inl ⟨rfl, ?_⟩; intro w hSw; (try dsimp only at hSw); go_simp; done) | (refine Or.inl ⟨rfl, ?_⟩; intro w hSw; (try dsimp only at hSw); go_simp; with_reducible rfl)
        try simp only [Act.put, List.setIfInBounds_toArray, List.set_cons_zero, List.set_cons_succ]
        refine wpAnyT_take (i := 24) (oi := ?oiz53) (v := ?vz53) ?h1z53 (by kernel_rfl) (by kernel_rfl) (by kernel_rfl) (by kernel_rfl) (fun _ _ _ h => h) ?hyz53 (HeldT.of hHeld) ?_
        case h1z53 => (simp only [List.getElem?_toArray, List.getElem?_cons_succ, List.getElem?_cons_zero]; rfl)
        case hyz53 => first | (refine Or.inr ⟨rfl, ?_⟩; rfl) | (refine Or.inl ⟨rfl, ?_⟩; intro w hSw; (try dsimp only at hSw); go_simp; done) | (refine Or.inl ⟨rfl, ?_⟩; intro w hSw; (try dsimp only at hSw); go_simp; with_reducible rfl)
        try simp only [Act.put, List.setIfInBounds_toArray, List.set_cons_zero, List.set_cons_succ]
        refine wpAnyT_ready (rs := [31]) (by kernel_rfl) (by simp) ?_
        refine AllReadyT.cons (o := ?oiz54) ?h1z54 (fun K hK => ?_) ?morez54
        case h1z54 => (simp only [List.getElem?_toArray, List.getElem?_cons_succ, List.getElem?_cons_zero]; rfl)
        case morez54 =>
          exact AllReadyT.nil
        go_simp
        go_at_call 20
        refine (HH1.out _ _ ycvcc dcvcc).mono ?_
        rintro _ wcvccc ⟨rfl, dcvccc, lcvccc⟩
        have hHeld := HKP.out _ dcvccc
        refine hK.out _ _ (HeldT.of hHeld) (fun _ => ?_)
        clear hK K
        try simp only [Act.put, List.setIfInBounds_toArray, List.set_cons_zero, List.set_cons_succ]
        refine wpAnyT_take (i := 32) (oi := ?oiz55) (v := ?vz55) ?h1z55 (by kernel_rfl) (by kernel_rfl) (by kernel_rfl) (by kernel_rfl) (fun _ _ _ h => h) ?hyz55 (HeldT.of hHeld) ?_
        case h1z55 => (simp only [List.getElem?_toArray, List.getElem?_cons_succ, List.getElem?_cons_zero]; rfl)
        case hyz55 => first | (refine Or.inr ⟨rfl, ?_⟩; rfl) | (refine Or.inl ⟨rfl, ?_⟩; intro w hSw; (try dsimp only at hSw); go_simp; done) | (refine Or.inl ⟨rfl, ?_⟩; intro w hSw; (try dsimp only at hSw); go_simp; with_reducible rfl)
        try simp only [Act.put, List.setIfInBounds_toArray, List.set_cons_zero, List.set_cons_succ]
        refine wpAnyT_take (i := 33) (oi := ?oiz56) (v := ?vz56) ?h1z56 (by kernel_rfl) (by kernel_rfl) (by kernel_rfl) (by kernel_rfl) (fun _ _ _ h => h) ?hyz56 (HeldT.of hHeld) ?_
        case h1z56 => (simp only [List.getElem?_toArray, List.getElem?_cons_succ, List.getElem?_cons_zero]; rfl)
        case hyz56 => first | (refine Or.inr ⟨rfl, ?_⟩; rfl) | (refine Or.inl ⟨rfl, ?_⟩; intro w hSw; (try dsimp only at hSw); go_simp; done) | (refine Or.inl ⟨rfl, ?_⟩; intro w hSw; (try dsimp only at hSw); go_simp; with_reducible rfl)
        try simp only [Act.put, List.setIfInBounds_toArray, List.set_cons_zero, List.set_cons_succ]
        refine wpAnyT_ready (rs := [39]) (by kernel_rfl) (by simp) ?_
        refine AllReadyT.cons (o := ?oiz57) ?h1z57 (fun K hK => ?_) ?morez57
        case h1z57 => (simp only [List.getElem?_toArray, List.getElem?_cons_succ, List.getElem?_cons_zero]; rfl)
        case morez57 =>
          exact AllReadyT.nil
        go_simp
        go_at_call 20
        refine (HH2.out _ dcvccc).mono ?_
        rintro _ wcvcccc ⟨rfl, dcvcccc, lcvcccc⟩
        have hHeld := HKP.out _ dcvcccc
        refine hK.out _ _ (HeldT.of hHeld) (fun _ => ?_)
        clear hK K
        try simp only [Act.put, List.setIfInBounds_toArray, List.set_cons_zero, List.set_cons_succ]
        refine wpAnyT_take (i := 40) (oi := ?oiz58) (v := ?vz58) ?h1z58 (by kernel_rfl) (by kernel_rfl) (by kernel_rfl) (by kernel_rfl) (fun _ _ _ h => h) ?hyz58 (HeldT.of hHeld) ?_
        case h1z58 => (simp only [List.getElem?_toArray, List.getElem?_cons_succ, List.getElem?_cons_zero]; rfl)
        case hyz58 => first | (refine Or.inr ⟨rfl, ?_⟩; rfl) | (refine Or.inl ⟨rfl, ?_⟩; intro w hSw; (try dsimp only at hSw); go_simp; done) | (refine Or.inl ⟨rfl, ?_⟩; intro w hSw; (try dsimp only at hSw); go_simp; with_reducible rfl)
        try simp only [Act.put, List.setIfInBounds_toArray, List.set_cons_zero, List.set_cons_succ]
        refine wpAnyT_take (i := 41) (oi := ?oiz59) (v := ?vz59) ?h1z59 (by kernel_rfl) (by kernel_rfl) (by kernel_rfl) (by kernel_rfl) (fun _ _ _ h => h) ?hyz59 (HeldT.of hHeld) ?_
        case h1z59 => (simp only [List.getElem?_toArray, List.getElem?_cons_succ, List.getElem?_cons_zero]; rfl)
        case hyz59 => first | (refine Or.inr ⟨rfl, ?_⟩; rfl) | (refine Or.inl ⟨rfl, ?_⟩; intro w hSw; (try dsimp only at hSw); go_simp; done) | (refine Or.inl ⟨rfl, ?_⟩; intro w hSw; (try dsimp only at hSw); go_simp; with_reducible rfl)
        try simp only [Act.put, List.setIfInBounds_toArray, List.set_cons_zero, List.set_cons_succ]
        refine wpAnyT_take (i := 42) (oi := ?oiz60) (v := ?vz60) ?h1z60 (by kernel_rfl) (by kernel_rfl) (by kernel_rfl) (by kernel_rfl) (fun _ _ _ h => h) ?hyz60 (HeldT.of hHeld) ?_
        case h1z60 => (simp only [List.getElem?_toArray, List.getElem?_cons_succ, List.getElem?_cons_zero]; rfl)
        case hyz60 => first | (refine Or.inr ⟨rfl, ?_⟩; rfl) | (refine Or.inl ⟨rfl, ?_⟩; intro w hSw; (try dsimp only at hSw); go_simp; done) | (refine Or.inl ⟨rfl, ?_⟩; intro w hSw; (try dsimp only at hSw); go_simp; with_reducible rfl)
        try simp only [Act.put, List.setIfInBounds_toArray, List.set_cons_zero, List.set_cons_succ]
        refine wpAnyT_done (by kernel_rfl) ?_ _
        refine NoPanic.normal ?_
        go_wp2
        go_roundw
        case rel => exact ⟨k + 1, by omega, by go_num, by rw [HTX.out, HQ10.out], dcvcccc⟩
        case measure => simp [intOf]; omega
      go_simp
      go_at_call 18
      refine (HN2.out _ dc).mono ?_
      rintro _ wcc ⟨rfl, dcc, lcc⟩
      have hHeld := HKP.out _ dcc
      refine hK.out _ _ (HeldT.of hHeld) (fun _ => ?_)
      clear hK K
      try simp only [Act.put, List.setIfInBounds_toArray, List.set_cons_zero, List.set_cons_succ]
      refine wpAnyT_take (i := 15) (oi := ?oiz62) (v := ?vz62) ?h1z62 (by kernel_rfl) (by kernel_rfl) (by kernel_rfl) (by kernel_rfl) (fun _ _ _ h => h) ?hyz62 (HeldT.of hHeld) ?_
      case h1z62 => (simp only [List.getElem?_toArray, List.getElem?_cons_succ, List.getElem?_cons_zero]; rfl)
      case hyz62 => first | (refine Or.inr ⟨rfl, ?_⟩; rfl) | (refine Or.inl ⟨rfl, ?_⟩; intro w hSw; (try dsimp only at hSw); go_simp; done) | (refine Or.inl ⟨rfl, ?_⟩; intro w hSw; (try dsimp only at hSw); go_simp; with_reducible rfl)
      try simp only [Act.put, List.setIfInBounds_toArray, List.set_cons_zero, List.set_cons_succ]
      refine wpAnyT_take (i := 16) (oi := ?oiz63) (v := ?vz63) ?h1z63 (by kernel_rfl) (by kernel_rfl) (by kernel_rfl) (by kernel_rfl) (fun _ _ _ h => h) ?hyz63 (HeldT.of hHeld) ?_
      case h1z63 => (simp only [List.getElem?_toArray, List.getElem?_cons_succ, List.getElem?_cons_zero]; rfl)
      case hyz63 => first | (refine Or.inr ⟨rfl, ?_⟩; rfl) | (refine Or.inl ⟨rfl, ?_⟩; intro w hSw; (try dsimp only at hSw); go_simp; done) | (refine Or.inl ⟨rfl, ?_⟩; intro w hSw; (try dsimp only at hSw); go_simp; with_reducible rfl)
      try simp only [Act.put, List.setIfInBounds_toArray, List.set_cons_zero, List.set_cons_succ]
      refine wpAnyT_ready (rs := [22, 30]) (by kernel_rfl) (by simp) ?_
      refine AllReadyT.cons (o := ?oiz75) ?h1z75 (fun K hK => ?_) ?morez75
      case h1z75 => (simp only [List.getElem?_toArray, List.getElem?_cons_succ, List.getElem?_cons_zero]; rfl)
      case morez75 =>
        refine AllReadyT.cons (o := ?oiz64) ?h1z64 (fun K hK => ?_) ?morez64
        case h1z64 => (simp only [List.getElem?_toArray, List.getElem?_cons_succ, List.getElem?_cons_zero]; rfl)
        case morez64 =>
          exact AllReadyT.nil
        obtain ⟨Cccv, wccv, cvccv, yccv, dccv⟩ := HCV.out _ dcc
        go_simp
        have hHeld := HKP.out _ dccv
        refine hK.out _ _ (HeldT.of hHeld) (fun _ => ?_)
        clear hK K
        try simp only [Act.put, List.setIfInBounds_toArray, List.set_cons_zero, List.set_cons_succ]
        refine wpAnyT_ready (rs := [22]) (by kernel_rfl) (by simp) ?_
        refine AllReadyT.cons (o := ?oiz65) ?h1z65 (fun K hK => ?_) ?morez65
        case h1z65 => (simp only [List.getElem?_toArray, List.getElem?_cons_succ, List.getElem?_cons_zero]; rfl)
        case morez65 =>
          exact AllReadyT.nil
        go_simp
        go_at_call 19
        refine (HN3.out _ dccv).mono ?_
        rintro _ wccvc ⟨rfl, dccvc, lccvc⟩
        have yccvc := yccv.below lccvc
        have hHeld := HKP.out _ dccvc
        refine hK.out _ _ (HeldT.of hHeld) (fun _ => ?_)
        clear hK K
        try simp only [Act.put, List.setIfInBounds_toArray, List.set_cons_zero, List.set_cons_succ]
        refine wpAnyT_take (i := 23) (oi := ?oiz66) (v := ?vz66) ?h1z66 (by kernel_rfl) (by kernel_rfl) (by kernel_rfl) (by kernel_rfl) (fun _ _ _ h => h) ?hyz66 (HeldT.of hHeld) ?_
        case h1z66 => (simp only [List.getElem?_toArray, List.getElem?_cons_succ, List.getElem?_cons_zero]; rfl)
        case hyz66 => first | (refine Or.inr ⟨rfl, ?_⟩; rfl) | (refine Or.inl ⟨rfl, ?_⟩; intro w hSw; (try dsimp only at hSw); go_simp; done) | (refine Or.inl ⟨rfl, ?_⟩; intro w hSw; (try dsimp only at hSw); go_simp; with_reducible rfl)
        try simp only [Act.put, List.setIfInBounds_toArray, List.set_cons_zero, List.set_cons_succ]
        refine wpAnyT_take (i := 24) (oi := ?oiz67) (v := ?vz67) ?h1z67 (by kernel_rfl) (by kernel_rfl) (by kernel_rfl) (by kernel_rfl) (fun _ _ _ h => h) ?hyz67 (HeldT.of hHeld) ?_
        case h1z67 => (simp only [List.getElem?_toArray, List.getElem?_cons_succ, List.getElem?_cons_zero]; rfl)
        case hyz67 => first | (refine Or.inr ⟨rfl, ?_⟩; rfl) | (refine Or.inl ⟨rfl, ?_⟩; intro w hSw; (try dsimp only at hSw); go_simp; done) | (refine Or.inl ⟨rfl, ?_⟩; intro w hSw; (try dsimp only at hSw); go_simp; with_reducible rfl)
        try simp only [Act.put, List.setIfInBounds_toArray, List.set_cons_zero, List.set_cons_succ]
        refine wpAnyT_ready (rs := [31]) (by kernel_rfl) (by simp) ?_
        refine AllReadyT.cons (o := ?oiz68) ?h1z68 (fun K hK => ?_) ?morez68
        case h1z68 => (simp only [List.getElem?_toArray, List.getElem?_cons_succ, List.getElem?_cons_zero]; rfl)
        case morez68 =>
          exact AllReadyT.nil
        go_simp
        go_at_call 20
        refine (HH1.out _ _ yccvc dccvc).mono ?_
        rintro _ wccvcc ⟨rfl, dccvcc, lccvcc⟩
        have hHeld := HKP.out _ dccvcc
        refine hK.out _ _ (HeldT.of hHeld) (fun _ => ?_)
        clear hK K
        try simp only [Act.put, List.setIfInBounds_toArray, List.set_cons_zero, List.set_cons_succ]
        refine wpAnyT_take (i := 32) (oi := ?oiz69) (v := ?vz69) ?h1z69 (by kernel_rfl) (by kernel_rfl) (by kernel_rfl) (by kernel_rfl) (fun _ _ _ h => h) ?hyz69 (HeldT.of hHeld) ?_
        case h1z69 => (simp only [List.getElem?_toArray, List.getElem?_cons_succ, List.getElem?_cons_zero]; rfl)
        case hyz69 => first | (refine Or.inr ⟨rfl, ?_⟩; rfl) | (refine Or.inl ⟨rfl, ?_⟩; intro w hSw; (try dsimp only at hSw); go_simp; done) | (refine Or.inl ⟨rfl, ?_⟩; intro w hSw; (try dsimp only at hSw); go_simp; with_reducible rfl)
        try simp only [Act.put, List.setIfInBounds_toArray, List.set_cons_zero, List.set_cons_succ]
        refine wpAnyT_take (i := 33) (oi := ?oiz70) (v := ?vz70) ?h1z70 (by kernel_rfl) (by kernel_rfl) (by kernel_rfl) (by kernel_rfl) (fun _ _ _ h => h) ?hyz70 (HeldT.of hHeld) ?_
        case h1z70 => (simp only [List.getElem?_toArray, List.getElem?_cons_succ, List.getElem?_cons_zero]; rfl)
        case hyz70 => first | (refine Or.inr ⟨rfl, ?_⟩; rfl) | (refine Or.inl ⟨rfl, ?_⟩; intro w hSw; (try dsimp only at hSw); go_simp; done) | (refine Or.inl ⟨rfl, ?_⟩; intro w hSw; (try dsimp only at hSw); go_simp; with_reducible rfl)
        try simp only [Act.put, List.setIfInBounds_toArray, List.set_cons_zero, List.set_cons_succ]
        refine wpAnyT_ready (rs := [39]) (by kernel_rfl) (by simp) ?_
        refine AllReadyT.cons (o := ?oiz71) ?h1z71 (fun K hK => ?_) ?morez71
        case h1z71 => (simp only [List.getElem?_toArray, List.getElem?_cons_succ, List.getElem?_cons_zero]; rfl)
        case morez71 =>
          exact AllReadyT.nil
        go_simp
        go_at_call 20
        refine (HH2.out _ dccvcc).mono ?_
        rintro _ wccvccc ⟨rfl, dccvccc, lccvccc⟩
        have hHeld := HKP.out _ dccvccc
        refine hK.out _ _ (HeldT.of hHeld) (fun _ => ?_)
        clear hK K
        try simp only [Act.put, List.setIfInBounds_toArray, List.set_cons_zero, List.set_cons_succ]
        refine wpAnyT_take (i := 40) (oi := ?oiz72) (v := ?vz72) ?h1z72 (by kernel_rfl) (by kernel_rfl) (by kernel_rfl) (by kernel_rfl) (fun _ _ _ h => h) ?hyz72 (HeldT.of hHeld) ?_
        case h1z72 => (simp only [List.getElem?_toArray, List.getElem?_cons_succ, List.getElem?_cons_zero]; rfl)
        case hyz72 => first | (refine Or.inr ⟨rfl, ?_⟩; rfl) | (refine Or.inl ⟨rfl, ?_⟩; intro w hSw; (try dsimp only at hSw); go_simp; done) | (refine Or.inl ⟨rfl, ?_⟩; intro w hSw; (try dsimp only at hSw); go_simp; with_reducible rfl)
        try simp only [Act.put, List.setIfInBounds_toArray, List.set_cons_zero, List.set_cons_succ]
        refine wpAnyT_take (i := 41) (oi := ?oiz73) (v := ?vz73) ?h1z73 (by kernel_rfl) (by kernel_rfl) (by kernel_rfl) (by kernel_rfl) (fun _ _ _ h => h) ?hyz73 (HeldT.of hHeld) ?_
        case h1z73 => (simp only [List.getElem?_toArray, List.getElem?_cons_succ, List.getElem?_cons_zero]; rfl)
        case hyz73 => first | (refine Or.inr ⟨rfl, ?_⟩; rfl) | (refine Or.inl ⟨rfl, ?_⟩; intro w hSw; (try dsimp only at hSw); go_simp; done) | (refine Or.inl ⟨rfl, ?_⟩; intro w hSw; (try dsimp only at hSw); go_simp; with_reducible rfl)
        try simp only [Act.put, List.setIfInBounds_toArray, List.set_cons_zero, List.set_cons_succ]
        refine wpAnyT_take (i := 42) (oi := ?oiz74) (v := ?vz74) ?h1z74 (by kernel_rfl) (by kernel_rfl) (by kernel_rfl) (by kernel_rfl) (fun _ _ _ h => h) ?hyz74 (HeldT.of hHeld) ?_
        case h1z74 => (simp only [List.getElem?_toArray, List.getElem?_cons_succ, List.getElem?_cons_zero]; rfl)
        case hyz74 => first | (refine Or.inr ⟨rfl, ?_⟩; rfl) | (refine Or.inl ⟨rfl, ?_⟩; intro w hSw; (try dsimp only at hSw); go_simp; done) | (refine Or.inl ⟨rfl, ?_⟩; intro w hSw; (try dsimp only at hSw); go_simp; with_reducible rfl)
        try simp only [Act.put, List.setIfInBounds_toArray, List.set_cons_zero, List.set_cons_succ]
        refine wpAnyT_done (by kernel_rfl) ?_ _
        refine NoPanic.normal ?_
        go_wp2
        go_roundw
        case rel => exact ⟨k + 1, by omega, by go_num, by rw [HTX.out, HQ10.out], dccvccc⟩
        case measure => simp [intOf]; omega
      go_simp
      go_at_call 19
      refine (HN3.out _ dcc).mono ?_
      rintro _ wccc ⟨rfl, dccc, lccc⟩
      have hHeld := HKP.out _ dccc
      refine hK.out _ _ (HeldT.of hHeld) (fun _ => ?_)
      clear hK K
      try simp only [Act.put, List.setIfInBounds_toArray, List.set_cons_zero, List.set_cons_succ]
      refine wpAnyT_take (i := 23) (oi := ?oiz76) (v := ?vz76) ?h1z76 (by kernel_rfl) (by kernel_rfl) (by kernel_rfl) (by kernel_rfl) (fun _ _ _ h => h) ?hyz76 (HeldT.of hHeld) ?_
      case h1z76 => (simp only [List.getElem?_toArray, List.getElem?_cons_succ, List.getElem?_cons_zero]; rfl)
      case hyz76 => first | (refine Or.inr ⟨rfl, ?_⟩; rfl) | (refine Or.inl ⟨rfl, ?_⟩; intro w hSw; (try dsimp only at hSw); go_simp; done) | (refine Or.inl ⟨rfl, ?_⟩; intro w hSw; (try dsimp only at hSw); go_simp; with_reducible rfl)
      try simp only [Act.put, List.setIfInBounds_toArray, List.set_cons_zero, List.set_cons_succ]
      refine wpAnyT_take (i := 24) (oi := ?oiz77) (v := ?vz77) ?h1z77 (by kernel_rfl) (by kernel_rfl) (by kernel_rfl) (by kernel_rfl) (fun _ _ _ h => h) ?hyz77 (HeldT.of hHeld) ?_
      case h1z77 => (simp only [List.getElem?_toArray, List.getElem?_cons_succ, List.getElem?_cons_zero]; rfl)
      case hyz77 => first | (refine Or.inr ⟨rfl, ?_⟩; rfl) | (refine Or.inl ⟨rfl, ?_⟩; intro w hSw; (try dsimp only at hSw); go_simp; done) | (refine Or.inl ⟨rfl, ?_⟩; intro w hSw; (try dsimp only at hSw); go_simp; with_reducible rfl)
      try simp only [Act.put, List.setIfInBounds_toArray, List.set_cons_zero, List.set_cons_succ]
      refine wpAnyT_ready (rs := [30]) (by kernel_rfl) (by simp) ?_
      refine AllReadyT.cons (o := ?oiz78) ?h1z78 (fun K hK => ?_) ?morez78
      case h1z78 => (simp only [List.getElem?_toArray, List.getElem?_cons_succ, List.getElem?_cons_zero]; rfl)
      case morez78 =>
        exact AllReadyT.nil
      obtain ⟨Ccccv, wcccv, cvcccv, ycccv, dcccv⟩ := HCV.out _ dccc
      go_simp
      have hHeld := HKP.out _ dcccv
      refine hK.out _ _ (HeldT.of hHeld) (fun _ => ?_)
      clear hK K
      try simp only [Act.put, List.setIfInBounds_toArray, List.set_cons_zero, List.set_cons_succ]
      refine wpAnyT_ready (rs := [31]) (by kernel_rfl) (by simp) ?_
      refine AllReadyT.cons (o := ?oiz79) ?h1z79 (fun K hK => ?_) ?morez79
      case h1z79 => (simp only [List.getElem?_toArray, List.getElem?_cons_succ, List.getElem?_cons_zero]; rfl)
      case morez79 =>
        exact AllReadyT.nil
      go_simp
      go_at_call 20
      refine (HH1.out _ _ ycccv dcccv).mono ?_
      rintro _ wcccvc ⟨rfl, dcccvc, lcccvc⟩
      have hHeld := HKP.out _ dcccvc
      refine hK.out _ _ (HeldT.of hHeld) (fun _ => ?_)
      clear hK K
      try simp only [Act.put, List.setIfInBounds_toArray, List.set_cons_zero, List.set_cons_succ]
      refine wpAnyT_take (i := 32) (oi := ?oiz80) (v := ?vz80) ?h1z80 (by kernel_rfl) (by kernel_rfl) (by kernel_rfl) (by kernel_rfl) (fun _ _ _ h => h) ?hyz80 (HeldT.of hHeld) ?_
      case h1z80 => (simp only [List.getElem?_toArray, List.getElem?_cons_succ, List.getElem?_cons_zero]; rfl)
      case hyz80 => first | (refine Or.inr ⟨rfl, ?_⟩; rfl) | (refine Or.inl ⟨rfl, ?_⟩; intro w hSw; (try dsimp only at hSw); go_simp; done) | (refine Or.inl ⟨rfl, ?_⟩; intro w hSw; (try dsimp only at hSw); go_simp; with_reducible rfl)
      try simp only [Act.put, List.setIfInBounds_toArray, List.set_cons_zero, List.set_cons_succ]
      refine wpAnyT_take (i := 33) (oi := ?oiz81) (v := ?vz81) ?h1z81 (by kernel_rfl) (by kernel_rfl) (by kernel_rfl) (by kernel_rfl) (fun _ _ _ h => h) ?hyz81 (HeldT.of hHeld) ?_
      case h1z81 => (simp only [List.getElem?_toArray, List.getElem?_cons_succ, List.getElem?_cons_zero]; rfl)
      case hyz81 => first | (refine Or.inr ⟨rfl, ?_⟩; rfl) | (refine Or.inl ⟨rfl, ?_⟩; intro w hSw; (try dsimp only at hSw); go_simp; done) | (refine Or.inl ⟨rfl, ?_⟩; intro w hSw; (try dsimp only at hSw); go_simp; with_reducible rfl)
      try simp only [Act.put, List.setIfInBounds_toArray, List.set_cons_zero, List.set_cons_succ]
      refine wpAnyT_ready (rs := [39]) (by kernel_rfl) (by simp) ?_
      refine AllReadyT.cons (o := ?oiz82) ?h1z82 (fun K hK => ?_) ?morez82
      case h1z82 => (simp only [List.getElem?_toArray, List.getElem?_cons_succ, List.getElem?_cons_zero]; rfl)
      case morez82 =>
        exact AllReadyT.nil
      go_simp
      go_at_call 20
      refine (HH2.out _ dcccvc).mono ?_
      rintro _ wcccvcc ⟨rfl, dcccvcc, lcccvcc⟩
      have hHeld := HKP.out _ dcccvcc
      refine hK.out _ _ (HeldT.of hHeld) (fun _ => ?_)
      clear hK K
      try simp only [Act.put, List.setIfInBounds_toArray, List.set_cons_zero, List.set_cons_succ]
      refine wpAnyT_take (i := 40) (oi := ?oiz83) (v := ?vz83) ?h1z83 (by kernel_rfl) (by kernel_rfl) (by kernel_rfl) (by kernel_rfl) (fun _ _ _ h => h) ?hyz83 (HeldT.of hHeld) ?_
      case h1z83 => (simp only [List.getElem?_toArray, List.getElem?_cons_succ, List.getElem?_cons_zero]; rfl)
      case hyz83 => first | (refine Or.inr ⟨rfl, ?_⟩; rfl) | (refine Or.inl ⟨rfl, ?_⟩; intro w hSw; (try dsimp only at hSw); go_simp; done) | (refine Or.inl ⟨rfl, ?_⟩; intro w hSw; (try dsimp only at hSw); go_simp; with_reducible rfl)
      try simp only [Act.put, List.setIfInBounds_toArray, List.set_cons_zero, List.set_cons_succ]
      refine wpAnyT_take (i := 41) (oi := ?oiz84) (v := ?vz84) ?h1z84 (by kernel_rfl) (by kernel_rfl) (by kernel_rfl) (by kernel_rfl) (fun _ _ _ h => h) ?hyz84 (HeldT.of hHeld) ?_
      case h1z84 => (simp only [List.getElem?_toArray, List.getElem?_cons_succ, List.getElem?_cons_zero]; rfl)
      case hyz84 => first | (refine Or.inr ⟨rfl, ?_⟩; rfl) | (refine Or.inl ⟨rfl, ?_⟩; intro w hSw; (try dsimp only at hSw); go_simp; done) | (refine Or.inl ⟨rfl, ?_⟩; intro w hSw; (try dsimp only at hSw); go_simp; with_reducible rfl)
      try simp only [Act.put, List.setIfInBounds_toArray, List.set_cons_zero, List.set_cons_succ]
      refine wpAnyT_take (i := 42) (oi := ?oiz85) (v := ?vz85) ?h1z85 (by kernel_rfl) (by kernel_rfl) (by kernel_rfl) (by kernel_rfl) (fun _ _ _ h => h) ?hyz85 (HeldT.of hHeld) ?_
      case h1z85 => (simp only [List.getElem?_toArray, List.getElem?_cons_succ, List.getElem?_cons_zero]; rfl)
      case hyz85 => first | (refine Or.inr ⟨rfl, ?_⟩; rfl) | (refine Or.inl ⟨rfl, ?_⟩; intro w hSw; (try dsimp only at hSw); go_simp; done) | (refine Or.inl ⟨rfl, ?_⟩; intro w hSw; (try dsimp only at hSw); go_simp; with_reducible rfl)
      try simp only [Act.put, List.setIfInBounds_toArray, List.set_cons_zero, List.set_cons_succ]
      refine wpAnyT_done (by kernel_rfl) ?_ _
      refine NoPanic.normal ?_
      go_wp2
      go_roundw
      case rel => exact ⟨k + 1, by omega, by go_num, by rw [HTX.out, HQ10.out], dcccvcc⟩
      case measure => simp [intOf]; omega
    · obtain rfl : k = L.length := by omega
      rw [List.take_length]
      go_wp2
      go_ret
      exact ⟨rfl, hW⟩
end Go.Proofs.YtegnheonncoodaaDoor.Scr
