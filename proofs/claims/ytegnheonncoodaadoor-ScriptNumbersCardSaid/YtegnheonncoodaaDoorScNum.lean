/- Any numbers, and any bytes, come again. -/
import Derived.Test.YtegnheonncoodaaDoorScLw
import Derived.Test.YtegnheonncoodaaDoorTill
namespace Go.Proofs.YtegnheonncoodaaDoor.Scr
set_option linter.unusedVariables false
open Go.ChangeShapes Go.WideShapes Go.ChangeAt Go.RowKit
open Go.Mem Sc
def twoRow (kind a : Int) (l : List UInt8) (A : Option Addr) (C keep : Nat) : Array Value := #[.int .i64 kind, .int .i64 a, .string (str l), .slice A l.length C, .int .u64 (keep : Nat), .int .i64 kind, .int .i64 a, .string (str l), .slice A l.length C, .int .u64 (keep : Nat)]
theorem two_new {w : World} {x : SD} {A : Option Addr} {C : Nat} (hx : x.Ok) (hv : Bytes w (.slice A x.data.length C) (nums x.data)) (hkd : x.key = x.data) :
    Steps (w.alloc (.cells #[.int .i64 x.kind, .int .i64 x.a, .string (str x.key), .slice A x.data.length C, .int .u64 (x.keep : Nat), .int .i64 x.kind, .int .i64 x.a, .string (str x.key), .slice A x.data.length C, .int .u64 (x.keep : Nat)] TStep)) (.slice (some ⟨w.heap.size, 0, none⟩) 2 2) [x, x] :=
  steps_new w 2 [x, x] _ rfl _ (by omega) (fun i hi => by
    rcases (by have : i < 2 := hi; omega : i = 0 ∨ i = 1) with rfl | rfl
    · exact ⟨_, ⟨rfl, rfl, rfl, rfl, rfl⟩, hv, hx⟩
    · exact ⟨_, ⟨rfl, rfl, rfl, rfl, rfl⟩, hv, hx⟩)
theorem two_small {x : SD} (h1 : x.key.length ≤ 300) (h2 : x.data.length ≤ 300) : ∀ i (h : i < [x, x].length), Small [x, x][i] := fun i hi => by
  rcases (by have : i < 2 := hi; omega : i = 0 ∨ i = 1) with rfl | rfl
  · exact ⟨by show x.key.length ≤ 1000000; omega, by show x.data.length ≤ 1000000; omega⟩
  · exact ⟨by show x.key.length ≤ 1000000; omega, by show x.data.length ≤ 1000000; omega⟩
theorem lineOf_le2 {x : SD} (h : x.Ok) (h1 : x.key.length ≤ 300) (h2 : x.data.length ≤ 300) : (lineOf x).length ≤ 1400 := by
  have q1 := itoa_len x.kind h.k
  have q2 := itoa_len x.a h.a
  have q3 := dec_len x.keep h.p
  unfold lineOf dig
  simp only [List.length_append, List.length_cons, List.length_nil, hexL_ln]
  omega
theorem two_text {x : SD} (h : x.Ok) (h1 : x.key.length ≤ 300) (h2 : x.data.length ≤ 300) : (textOf [x, x]).length ≤ 2800 := by
  have := lineOf_le2 h h1 h2
  unfold textOf
  simp only [List.flatMap_cons, List.flatMap_nil, List.length_append, List.length_nil]
  omega
set_option maxHeartbeats 8000000 in
set_option maxRecDepth 100000 in
theorem numbersC (x : SD) (hx : x.Ok) (hkd : x.key = x.data) (v : Value) (w : World) (hv : Bytes w v (nums x.data)) (hT : Tabs w) : Calls Tryd.prog 7 #[.int .i64 x.kind, .int .i64 x.a, .int .u64 (x.keep : Nat), v] w fun e w' => e = .returned (.bool true) ∧ Below w.heap.size w w' := by
  obtain ⟨A, C, rfl, _⟩ := hv.shape
  rw [nums_len] at hv ⊢
  have HT := Lib.hid hT
  have HV := Lib.hid hv
  have HBS : Hid (∀ W, Below w.heap.size w W → (convert 33 9 (.slice A x.data.length C)).run Tryd.prog W = .ok (.string (str x.key)) W) := fun W hb => by
    rw [hkd]; exact bytes_str (hv.below hb)
  clear hT hv
  have HKD := Lib.hid hkd
  clear hkd
  have hans : ∀ W, Below w.heap.size w W → Calls Tryd.prog 9 #[] W fun e w' => e = .returned (.bool true) ∧ Below w.heap.size w w' ∧ Below W.heap.size W w' := fun W hb => (answersC _ (HT.out.below hb)).mono fun e w' h => ⟨h.1, below_then hb h.2, h.2⟩
  have HA := Lib.hid hans
  clear hans
  go_enter Tryd.func7, Tryd.ntmps7
  by_cases h3 : x.data.length ≤ 300
  · have hd : decide ((300 : Int) < (x.data.length : Int)) = false := by simp; omega
    have hcv := HBS.out w (Below.refl _ _)
    have h3k : x.key.length ≤ 300 := by rw [HKD.out]; exact h3
    have HTW := Lib.hid (two_text hx h3k h3)
    have HSM := Lib.hid (two_small h3k h3)
    have HPT : Hid (parseL [] (lines (textOf [x, x])) = .ok [x, x]) := parse_text (by
      intro y hy
      simp at hy
      rw [hy]; exact hx)
    obtain ⟨wb, hwb⟩ : ∃ wb, w.alloc (.cells #[.int .i64 x.kind, .int .i64 x.a, .string (str x.key), .slice A x.data.length C, .int .u64 (x.keep : Nat)] TStep) = wb := ⟨_, rfl⟩
    have rb : Box5 wb w.heap.size (.int .i64 x.kind) (.int .i64 x.a) (.string (str x.key)) (.slice A x.data.length C) (.int .u64 (x.keep : Nat)) := by rw [← hwb]; exact Box5.new _ _ _ _ _ _
    have hbb : Below w.heap.size w wb := by rw [← hwb]; exact (Below.refl _ _).alloc (Nat.le_refl _) _
    have d0 := rb.c0
    have d1 := rb.c1
    have d2 := rb.c2
    have d3 := rb.c3
    have d4 := rb.c4
    obtain ⟨wc, hwc⟩ : ∃ wc, wb.alloc (.cells #[.int .i64 x.kind, .int .i64 x.a, .string (str x.key), .slice A x.data.length C, .int .u64 (x.keep : Nat), .int .i64 x.kind, .int .i64 x.a, .string (str x.key), .slice A x.data.length C, .int .u64 (x.keep : Nat)] TStep) = wc := ⟨_, rfl⟩
    have hst : Steps wc (.slice (some ⟨wb.heap.size, 0, none⟩) 2 2) [x, x] := by rw [← hwc]; exact two_new hx (HV.out.below hbb) HKD.out
    have hbc : Below wb.heap.size wb wc := by rw [← hwc]; exact (Below.refl _ _).alloc (Nat.le_refl _) _
    have HBC := Lib.hid hbc
    have HST := Lib.hid hst
    have HBB := Lib.hid hbb
    have HRB := Lib.hid rb
    clear hbc hst hbb rb h3 h3k
    go_wp2_with fail
    refine (printC [x, x] _ _ HST.out HSM.out (Nat.le_trans HTW.out (by omega)) (HT.out.below (below_then HBB.out HBC.out))).mono ?_
    rintro e w1 ⟨rfl, hb1⟩
    have HB1 := Lib.hid (below_then HBC.out hb1)
    have HT1 := Lib.hid (HT.out.below (below_then HBB.out HB1.out))
    clear hb1
    go_wp2_with fail
    refine (parseC (textOf [x, x]) (Nat.le_trans HTW.out (by omega)) _ HT1.out).mono ?_
    intro e w2 hp
    obtain ⟨A3, C3, rfl, hst3, hb3⟩ := parse_ok hp HPT.out
    have HB2 := Lib.hid (below_then HB1.out hb3)
    have HS2 := Lib.hid hst3
    clear hp hst3 hb3 d0 d1 d2 d3 d4
    go_wp2_with fail
    have HKP : Hid (∀ w', Below w2.heap.size w2 w' → Below w2.heap.size w2 w' ∧ w'.cell? ⟨w.heap.size, 0, none⟩ = some (.int .i64 x.kind) ∧ w'.cell? ⟨w.heap.size, 1, none⟩ = some (.int .i64 x.a) ∧ w'.cell? ⟨w.heap.size, 2, none⟩ = some (.string (str x.key)) ∧ w'.cell? ⟨w.heap.size, 3, none⟩ = some (.slice A x.data.length C) ∧ w'.cell? ⟨w.heap.size, 4, none⟩ = some (.int .u64 (x.keep : Nat))) := fun w' hb => by
      have hr := (HRB.out.below HB2.out).below hb
      exact ⟨hb, hr.c0, hr.c1, hr.c2, hr.c3, hr.c4⟩
    have HW2 : Hid (∀ W, Below w2.heap.size w2 W → Below w.heap.size w W) := fun W hb => below_then (below_then HBB.out HB2.out) hb
    have HA1 : Hid (∀ W, Below w2.heap.size w2 W → Calls Tryd.prog 9 #[] W fun e w' => e = .returned (.bool true) ∧ Below w2.heap.size w2 w') := fun W hb => (HA.out W (HW2.out W hb)).mono fun e w' h => ⟨h.1, below_then hb h.2.2⟩
    have HTX : Hid (∀ W V, Steps W V [x, x] → Below w2.heap.size w2 W → Calls Tryd.prog 12 #[V] W fun e w' => e = .returned (.string (str (textOf [x, x]))) ∧ Below w2.heap.size w2 w' ∧ Below W.heap.size W w') := fun W V hV hb => (textC [x, x] V W hV HSM.out (Nat.le_trans HTW.out (by omega))).mono fun e w' h => ⟨h.1, below_then hb h.2, h.2⟩
    have HSV : Hid (∀ W, Below w2.heap.size w2 W → Steps W (.slice A3 ([x, x] : List SD).length C3) [x, x]) := fun W hb => HS2.out.below hb
    have HNEW : Hid (∀ W, Below w2.heap.size w2 W → ∃ W', W.alloc (.cells #[.int .i64 x.kind, .int .i64 x.a, .string (str x.key), .slice A x.data.length C, .int .u64 (x.keep : Nat), .int .i64 x.kind, .int .i64 x.a, .string (str x.key), .slice A x.data.length C, .int .u64 (x.keep : Nat)] TStep) = W' ∧ Steps W' (.slice (some ⟨W.heap.size, 0, none⟩) 2 2) [x, x] ∧ Below w2.heap.size w2 W' ∧ Below W.heap.size W W') := fun W hb => by
      have hbl : ∀ o, Below W.heap.size W (W.alloc o) := fun o => (Below.refl _ _).alloc (Nat.le_refl _) o
      exact ⟨_, rfl, two_new hx (HV.out.below (HW2.out W hb)) HKD.out, below_then hb (hbl _), hbl _⟩
    have HFIN : Hid (∀ W, Below w2.heap.size w2 W → Below w.heap.size w W) := HW2
    clear hwb hwc hcv
    generalize str (textOf [x, x]) = TS at HTX ⊢
    refine wp_region_noPanic ?_
    refine wp_region_till [15] (fun w' => Below w2.heap.size w2 w' ∧ w'.cell? ⟨w.heap.size, 0, none⟩ = some (.int .i64 x.kind) ∧ w'.cell? ⟨w.heap.size, 1, none⟩ = some (.int .i64 x.a) ∧ w'.cell? ⟨w.heap.size, 2, none⟩ = some (.string (str x.key)) ∧ w'.cell? ⟨w.heap.size, 3, none⟩ = some (.slice A x.data.length C) ∧ w'.cell? ⟨w.heap.size, 4, none⟩ = some (.int .u64 (x.keep : Nat))) (by kernel_rfl) (HKP.out _ ((Below.refl _ _).drew)) (fun _ => ?_)
    have hHeld := HKP.out _ ((Below.refl _ _).drew)
    refine wpAnyT_ready (rs := [0]) (by kernel_rfl) (by simp) ?_
    refine AllReadyT.cons (o := ?oiz1) ?h1z1 (fun K hK => ?_) ?morez1
    case h1z1 => (simp only [List.getElem?_toArray, List.getElem?_cons_zero]; rfl)
    case morez1 => exact AllReadyT.nil
    go_simp
    go_at_call 9
    refine (HA1.out _ ((Below.refl _ _).drew)).mono ?_
    rintro _ w3 ⟨rfl, hb3⟩
    have hHeld := HKP.out _ hb3
    refine hK.out _ _ (HeldT.of hHeld) (fun _ => ?_)
    clear hK K
    try simp only [Act.put, List.setIfInBounds_toArray, List.set_cons_zero, List.set_cons_succ]
    refine wpAnyT_take (i := 1) (oi := ?oiz2) (v := ?vz2) ?h1z2 (by kernel_rfl) (by kernel_rfl) (by kernel_rfl) (by kernel_rfl) (fun _ _ _ h => h) ?hyz2 (HeldT.of hHeld) ?_
    case h1z2 => (simp only [List.getElem?_toArray, List.getElem?_cons_succ, List.getElem?_cons_zero]; rfl)
    case hyz2 => first | (refine Or.inr ⟨rfl, ?_⟩; rfl) | (refine Or.inl ⟨rfl, ?_⟩; intro w hSw; (try dsimp only at hSw); go_simp; done) | (refine Or.inl ⟨rfl, ?_⟩; intro w hSw; (try dsimp only at hSw); go_simp; with_reducible rfl)
    try simp only [Act.put, List.setIfInBounds_toArray, List.set_cons_zero, List.set_cons_succ]
    refine wpAnyT_take (i := 2) (oi := ?oiz3) (v := ?vz3) ?h1z3 (by kernel_rfl) (by kernel_rfl) (by kernel_rfl) (by kernel_rfl) (fun _ _ _ h => h) ?hyz3 (HeldT.of hHeld) ?_
    case h1z3 => (simp only [List.getElem?_toArray, List.getElem?_cons_succ, List.getElem?_cons_zero]; rfl)
    case hyz3 => first | (refine Or.inr ⟨rfl, ?_⟩; rfl) | (refine Or.inl ⟨rfl, ?_⟩; intro w hSw; (try dsimp only at hSw); go_simp; done) | (refine Or.inl ⟨rfl, ?_⟩; intro w hSw; (try dsimp only at hSw); go_simp; with_reducible rfl)
    try simp only [Act.put, List.setIfInBounds_toArray, List.set_cons_zero, List.set_cons_succ]
    refine wpAnyT_take (i := 3) (oi := ?oiz4) (v := ?vz4) ?h1z4 (by kernel_rfl) (by kernel_rfl) (by kernel_rfl) (by kernel_rfl) (fun _ _ _ h => h) ?hyz4 (HeldT.of hHeld) ?_
    case h1z4 => (simp only [List.getElem?_toArray, List.getElem?_cons_succ, List.getElem?_cons_zero]; rfl)
    case hyz4 => first | (refine Or.inr ⟨rfl, ?_⟩; rfl) | (refine Or.inl ⟨rfl, ?_⟩; intro w hSw; (try dsimp only at hSw); go_simp; done) | (refine Or.inl ⟨rfl, ?_⟩; intro w hSw; (try dsimp only at hSw); go_simp; with_reducible rfl)
    try simp only [Act.put, List.setIfInBounds_toArray, List.set_cons_zero, List.set_cons_succ]
    refine wpAnyT_take (i := 4) (oi := ?oiz5) (v := ?vz5) ?h1z5 (by kernel_rfl) (by kernel_rfl) (by kernel_rfl) (by kernel_rfl) (fun _ _ _ h => h) ?hyz5 (HeldT.of hHeld) ?_
    case h1z5 => (simp only [List.getElem?_toArray, List.getElem?_cons_succ, List.getElem?_cons_zero]; rfl)
    case hyz5 => first | (refine Or.inr ⟨rfl, ?_⟩; rfl) | (refine Or.inl ⟨rfl, ?_⟩; intro w hSw; (try dsimp only at hSw); go_simp; done) | (refine Or.inl ⟨rfl, ?_⟩; intro w hSw; (try dsimp only at hSw); go_simp; with_reducible rfl)
    try simp only [Act.put, List.setIfInBounds_toArray, List.set_cons_zero, List.set_cons_succ]
    refine wpAnyT_take (i := 5) (oi := ?oiz6) (v := ?vz6) ?h1z6 (by kernel_rfl) (by kernel_rfl) (by kernel_rfl) (by kernel_rfl) (fun _ _ _ h => h) ?hyz6 (HeldT.of hHeld) ?_
    case h1z6 => (simp only [List.getElem?_toArray, List.getElem?_cons_succ, List.getElem?_cons_zero]; rfl)
    case hyz6 => first | (refine Or.inr ⟨rfl, ?_⟩; rfl) | (refine Or.inl ⟨rfl, ?_⟩; intro w hSw; (try dsimp only at hSw); go_simp; done) | (refine Or.inl ⟨rfl, ?_⟩; intro w hSw; (try dsimp only at hSw); go_simp; with_reducible rfl)
    try simp only [Act.put, List.setIfInBounds_toArray, List.set_cons_zero, List.set_cons_succ]
    refine wpAnyT_take (i := 6) (oi := ?oiz7) (v := ?vz7) ?h1z7 (by kernel_rfl) (by kernel_rfl) (by kernel_rfl) (by kernel_rfl) (fun _ _ _ h => h) ?hyz7 (HeldT.of hHeld) ?_
    case h1z7 => (simp only [List.getElem?_toArray, List.getElem?_cons_succ, List.getElem?_cons_zero]; rfl)
    case hyz7 => first | (refine Or.inr ⟨rfl, ?_⟩; rfl) | (refine Or.inl ⟨rfl, ?_⟩; intro w hSw; (try dsimp only at hSw); go_simp; done) | (refine Or.inl ⟨rfl, ?_⟩; intro w hSw; (try dsimp only at hSw); go_simp; with_reducible rfl)
    try simp only [Act.put, List.setIfInBounds_toArray, List.set_cons_zero, List.set_cons_succ]
    refine wpAnyT_take (i := 7) (oi := ?oiz8) (v := ?vz8) ?h1z8 (by kernel_rfl) (by kernel_rfl) (by kernel_rfl) (by kernel_rfl) (fun _ _ _ h => h) ?hyz8 (HeldT.of hHeld) ?_
    case h1z8 => (simp only [List.getElem?_toArray, List.getElem?_cons_succ, List.getElem?_cons_zero]; rfl)
    case hyz8 => first | (refine Or.inr ⟨rfl, ?_⟩; rfl) | (refine Or.inl ⟨rfl, ?_⟩; intro w hSw; (try dsimp only at hSw); go_simp; done) | (refine Or.inl ⟨rfl, ?_⟩; intro w hSw; (try dsimp only at hSw); go_simp; with_reducible rfl)
    try simp only [Act.put, List.setIfInBounds_toArray, List.set_cons_zero, List.set_cons_succ]
    refine wpAnyT_take (i := 8) (oi := ?oiz9) (v := ?vz9) ?h1z9 (by kernel_rfl) (by kernel_rfl) (by kernel_rfl) (by kernel_rfl) (fun _ _ _ h => h) ?hyz9 (HeldT.of hHeld) ?_
    case h1z9 => (simp only [List.getElem?_toArray, List.getElem?_cons_succ, List.getElem?_cons_zero]; rfl)
    case hyz9 => first | (refine Or.inr ⟨rfl, ?_⟩; rfl) | (refine Or.inl ⟨rfl, ?_⟩; intro w hSw; (try dsimp only at hSw); go_simp; done) | (refine Or.inl ⟨rfl, ?_⟩; intro w hSw; (try dsimp only at hSw); go_simp; with_reducible rfl)
    try simp only [Act.put, List.setIfInBounds_toArray, List.set_cons_zero, List.set_cons_succ]
    refine wpAnyT_take (i := 9) (oi := ?oiz10) (v := ?vz10) ?h1z10 (by kernel_rfl) (by kernel_rfl) (by kernel_rfl) (by kernel_rfl) (fun _ _ _ h => h) ?hyz10 (HeldT.of hHeld) ?_
    case h1z10 => (simp only [List.getElem?_toArray, List.getElem?_cons_succ, List.getElem?_cons_zero]; rfl)
    case hyz10 => first | (refine Or.inr ⟨rfl, ?_⟩; rfl) | (refine Or.inl ⟨rfl, ?_⟩; intro w hSw; (try dsimp only at hSw); go_simp; done) | (refine Or.inl ⟨rfl, ?_⟩; intro w hSw; (try dsimp only at hSw); go_simp; with_reducible rfl)
    try simp only [Act.put, List.setIfInBounds_toArray, List.set_cons_zero, List.set_cons_succ]
    refine wpAnyT_take (i := 10) (oi := ?oiz11) (v := ?vz11) ?h1z11 (by kernel_rfl) (by kernel_rfl) (by kernel_rfl) (by kernel_rfl) (fun _ _ _ h => h) ?hyz11 (HeldT.of hHeld) ?_
    case h1z11 => (simp only [List.getElem?_toArray, List.getElem?_cons_succ, List.getElem?_cons_zero]; rfl)
    case hyz11 => first | (refine Or.inr ⟨rfl, ?_⟩; rfl) | (refine Or.inl ⟨rfl, ?_⟩; intro w hSw; (try dsimp only at hSw); go_simp; done) | (refine Or.inl ⟨rfl, ?_⟩; intro w hSw; (try dsimp only at hSw); go_simp; with_reducible rfl)
    try simp only [Act.put, List.setIfInBounds_toArray, List.set_cons_zero, List.set_cons_succ]
    refine wpAnyT_take (i := 11) (oi := ?oiz12) (v := ?vz12) ?h1z12 (by kernel_rfl) (by kernel_rfl) (by kernel_rfl) (by kernel_rfl) (fun _ _ _ h => h) ?hyz12 (HeldT.of hHeld) ?_
    case h1z12 => (simp only [List.getElem?_toArray, List.getElem?_cons_succ, List.getElem?_cons_zero]; rfl)
    case hyz12 => first | (refine Or.inr ⟨rfl, ?_⟩; rfl) | (refine Or.inl ⟨rfl, ?_⟩; intro w hSw; (try dsimp only at hSw); go_simp; done) | (refine Or.inl ⟨rfl, ?_⟩; intro w hSw; (try dsimp only at hSw); go_simp; with_reducible rfl)
    try simp only [Act.put, List.setIfInBounds_toArray, List.set_cons_zero, List.set_cons_succ]
    refine wpAnyT_load 15 (i := 13) (oi := ?oiz13) (v := ?vz13) ?h1z13 (by kernel_rfl) (by kernel_rfl) (by kernel_rfl) (by kernel_rfl) (fun _ _ _ h => h) ?hyz13 (HeldT.of hHeld) ?_
    case h1z13 => (simp only [List.getElem?_toArray, List.getElem?_cons_succ, List.getElem?_cons_zero]; rfl)
    case hyz13 => first | (refine Or.inr ⟨rfl, ?_⟩; rfl) | (refine Or.inl ⟨rfl, ?_⟩; intro w hSw; ((try dsimp only at hSw); obtain ⟨hB0, hB1, hB2, hB3, hB4, hB5⟩ := hSw); go_simp; done) | (refine Or.inl ⟨rfl, ?_⟩; intro w hSw; ((try dsimp only at hSw); obtain ⟨hB0, hB1, hB2, hB3, hB4, hB5⟩ := hSw); go_simp; with_reducible rfl)
    try simp only [Act.put, List.setIfInBounds_toArray, List.set_cons_zero, List.set_cons_succ]
    refine wpAnyT_load 15 (i := 14) (oi := ?oiz14) (v := ?vz14) ?h1z14 (by kernel_rfl) (by kernel_rfl) (by kernel_rfl) (by kernel_rfl) (fun _ _ _ h => h) ?hyz14 (HeldT.of hHeld) ?_
    case h1z14 => (simp only [List.getElem?_toArray, List.getElem?_cons_succ, List.getElem?_cons_zero]; rfl)
    case hyz14 => first | (refine Or.inr ⟨rfl, ?_⟩; rfl) | (refine Or.inl ⟨rfl, ?_⟩; intro w hSw; ((try dsimp only at hSw); obtain ⟨hB0, hB1, hB2, hB3, hB4, hB5⟩ := hSw); go_simp; done) | (refine Or.inl ⟨rfl, ?_⟩; intro w hSw; ((try dsimp only at hSw); obtain ⟨hB0, hB1, hB2, hB3, hB4, hB5⟩ := hSw); go_simp; with_reducible rfl)
    try simp only [Act.put, List.setIfInBounds_toArray, List.set_cons_zero, List.set_cons_succ]
    refine wpAnyT_ready (rs := [12, 15]) (by kernel_rfl) (by simp) ?_
    refine AllReadyT.cons (o := ?oiz26) ?h1z26 (fun K hK => ?_) ?morez26
    case h1z26 => (simp only [List.getElem?_toArray, List.getElem?_cons_succ, List.getElem?_cons_zero]; rfl)
    case morez26 =>
      refine AllReadyT.cons (o := ?oiz25) ?h1z25 (fun K hK => ?_) ?morez25
      case h1z25 => (simp only [List.getElem?_toArray, List.getElem?_cons_succ, List.getElem?_cons_zero]; rfl)
      case morez25 =>
        exact AllReadyT.nil
      obtain ⟨w4, hw4, hs4, hb4, hk4⟩ := HNEW.out _ hb3
      go_simp
      refine hK.out _ _ (HeldT.over (by kernel_rfl)) (fun _ => ?_)
      clear hK K
      try simp only [Act.put, List.setIfInBounds_toArray, List.set_cons_zero, List.set_cons_succ]
      refine wpAnyT_ready (rs := [12]) (by kernel_rfl) (by simp) ?_
      refine AllReadyT.cons (o := ?oiz20) ?h1z20 (fun K hK => ?_) ?morez20
      case h1z20 => (simp only [List.getElem?_toArray, List.getElem?_cons_succ, List.getElem?_cons_zero]; rfl)
      case morez20 => exact AllReadyT.nil
      go_simp
      go_at_call 12
      refine (HTX.out _ _ (HSV.out _ hb4) hb4).mono ?_
      rintro _ w5 ⟨rfl, hb5, hk5⟩
      refine hK.out _ _ (HeldT.over (by kernel_rfl)) (fun _ => ?_)
      clear hK K
      try simp only [Act.put, List.setIfInBounds_toArray, List.set_cons_zero, List.set_cons_succ]
      refine wpAnyT_ready (rs := [16]) (by kernel_rfl) (by simp) ?_
      refine AllReadyT.cons (o := ?oiz21) ?h1z21 (fun K hK => ?_) ?morez21
      case h1z21 => (simp only [List.getElem?_toArray, List.getElem?_cons_succ, List.getElem?_cons_zero]; rfl)
      case morez21 => exact AllReadyT.nil
      go_simp
      go_at_call 12
      refine (HTX.out _ _ (hs4.below hk5) hb5).mono ?_
      rintro _ w9 ⟨rfl, hb9, hk9⟩
      refine hK.out _ _ (HeldT.over (by kernel_rfl)) (fun _ => ?_)
      clear hK K
      try simp only [Act.put, List.setIfInBounds_toArray, List.set_cons_zero, List.set_cons_succ]
      refine wpAnyT_take (i := 17) (oi := ?oiz22) (v := ?vz22) ?h1z22 (by kernel_rfl) (by kernel_rfl) (by kernel_rfl) (by kernel_rfl) (fun _ _ _ h => h) ?hyz22 (HeldT.over (by kernel_rfl)) ?_
      case h1z22 => (simp only [List.getElem?_toArray, List.getElem?_cons_succ, List.getElem?_cons_zero]; rfl)
      case hyz22 => first | (refine Or.inr ⟨rfl, ?_⟩; rfl) | (refine Or.inl ⟨rfl, ?_⟩; intro w hSw; (try dsimp only at hSw); go_simp; done) | (refine Or.inl ⟨rfl, ?_⟩; intro w hSw; (try dsimp only at hSw); go_simp; with_reducible rfl)
      try simp only [Act.put, List.setIfInBounds_toArray, List.set_cons_zero, List.set_cons_succ]
      refine wpAnyT_take (i := 18) (oi := ?oiz23) (v := ?vz23) ?h1z23 (by kernel_rfl) (by kernel_rfl) (by kernel_rfl) (by kernel_rfl) (fun _ _ _ h => h) ?hyz23 (HeldT.over (by kernel_rfl)) ?_
      case h1z23 => (simp only [List.getElem?_toArray, List.getElem?_cons_succ, List.getElem?_cons_zero]; rfl)
      case hyz23 => first | (refine Or.inr ⟨rfl, ?_⟩; rfl) | (refine Or.inl ⟨rfl, ?_⟩; intro w hSw; (try dsimp only at hSw); go_simp; done) | (refine Or.inl ⟨rfl, ?_⟩; intro w hSw; (try dsimp only at hSw); go_simp; with_reducible rfl)
      try simp only [Act.put, List.setIfInBounds_toArray, List.set_cons_zero, List.set_cons_succ]
      refine wpAnyT_take (i := 19) (oi := ?oiz24) (v := ?vz24) ?h1z24 (by kernel_rfl) (by kernel_rfl) (by kernel_rfl) (by kernel_rfl) (fun _ _ _ h => h) ?hyz24 (HeldT.over (by kernel_rfl)) ?_
      case h1z24 => (simp only [List.getElem?_toArray, List.getElem?_cons_succ, List.getElem?_cons_zero]; rfl)
      case hyz24 => first | (refine Or.inr ⟨rfl, ?_⟩; rfl) | (refine Or.inl ⟨rfl, ?_⟩; intro w hSw; (try dsimp only at hSw); go_simp; done) | (refine Or.inl ⟨rfl, ?_⟩; intro w hSw; (try dsimp only at hSw); go_simp; with_reducible rfl)
      try simp only [Act.put, List.setIfInBounds_toArray, List.set_cons_zero, List.set_cons_succ]
      refine wpAnyT_done (by kernel_rfl) ?_ _
      refine NoPanic.normal ?_
      go_wp2
      go_ret
      exact ⟨by simp, HFIN.out _ hb9⟩
    go_simp
    go_at_call 12
    refine (HTX.out _ _ (HSV.out _ hb3) hb3).mono ?_
    rintro _ w4 ⟨rfl, hb4, hk4⟩
    have hHeld := HKP.out _ hb4
    refine hK.out _ _ (HeldT.of hHeld) (fun _ => ?_)
    clear hK K
    try simp only [Act.put, List.setIfInBounds_toArray, List.set_cons_zero, List.set_cons_succ]
    refine wpAnyT_ready (rs := [15]) (by kernel_rfl) (by simp) ?_
    refine AllReadyT.cons (o := ?oiz15) ?h1z15 (fun K hK => ?_) ?morez15
    case h1z15 => (simp only [List.getElem?_toArray, List.getElem?_cons_succ, List.getElem?_cons_zero]; rfl)
    case morez15 => exact AllReadyT.nil
    obtain ⟨w5, hw5, hs5, hb5, hk5⟩ := HNEW.out _ hb4
    go_simp
    refine hK.out _ _ (HeldT.over (by kernel_rfl)) (fun _ => ?_)
    clear hK K
    try simp only [Act.put, List.setIfInBounds_toArray, List.set_cons_zero, List.set_cons_succ]
    refine wpAnyT_ready (rs := [16]) (by kernel_rfl) (by simp) ?_
    refine AllReadyT.cons (o := ?oiz16) ?h1z16 (fun K hK => ?_) ?morez16
    case h1z16 => (simp only [List.getElem?_toArray, List.getElem?_cons_succ, List.getElem?_cons_zero]; rfl)
    case morez16 => exact AllReadyT.nil
    go_simp
    go_at_call 12
    refine (HTX.out _ _ (hs5) hb5).mono ?_
    rintro _ w9 ⟨rfl, hb9, hk9⟩
    refine hK.out _ _ (HeldT.over (by kernel_rfl)) (fun _ => ?_)
    clear hK K
    try simp only [Act.put, List.setIfInBounds_toArray, List.set_cons_zero, List.set_cons_succ]
    refine wpAnyT_take (i := 17) (oi := ?oiz17) (v := ?vz17) ?h1z17 (by kernel_rfl) (by kernel_rfl) (by kernel_rfl) (by kernel_rfl) (fun _ _ _ h => h) ?hyz17 (HeldT.over (by kernel_rfl)) ?_
    case h1z17 => (simp only [List.getElem?_toArray, List.getElem?_cons_succ, List.getElem?_cons_zero]; rfl)
    case hyz17 => first | (refine Or.inr ⟨rfl, ?_⟩; rfl) | (refine Or.inl ⟨rfl, ?_⟩; intro w hSw; (try dsimp only at hSw); go_simp; done) | (refine Or.inl ⟨rfl, ?_⟩; intro w hSw; (try dsimp only at hSw); go_simp; with_reducible rfl)
    try simp only [Act.put, List.setIfInBounds_toArray, List.set_cons_zero, List.set_cons_succ]
    refine wpAnyT_take (i := 18) (oi := ?oiz18) (v := ?vz18) ?h1z18 (by kernel_rfl) (by kernel_rfl) (by kernel_rfl) (by kernel_rfl) (fun _ _ _ h => h) ?hyz18 (HeldT.over (by kernel_rfl)) ?_
    case h1z18 => (simp only [List.getElem?_toArray, List.getElem?_cons_succ, List.getElem?_cons_zero]; rfl)
    case hyz18 => first | (refine Or.inr ⟨rfl, ?_⟩; rfl) | (refine Or.inl ⟨rfl, ?_⟩; intro w hSw; (try dsimp only at hSw); go_simp; done) | (refine Or.inl ⟨rfl, ?_⟩; intro w hSw; (try dsimp only at hSw); go_simp; with_reducible rfl)
    try simp only [Act.put, List.setIfInBounds_toArray, List.set_cons_zero, List.set_cons_succ]
    refine wpAnyT_take (i := 19) (oi := ?oiz19) (v := ?vz19) ?h1z19 (by kernel_rfl) (by kernel_rfl) (by kernel_rfl) (by kernel_rfl) (fun _ _ _ h => h) ?hyz19 (HeldT.over (by kernel_rfl)) ?_
    case h1z19 => (simp only [List.getElem?_toArray, List.getElem?_cons_succ, List.getElem?_cons_zero]; rfl)
    case hyz19 => first | (refine Or.inr ⟨rfl, ?_⟩; rfl) | (refine Or.inl ⟨rfl, ?_⟩; intro w hSw; (try dsimp only at hSw); go_simp; done) | (refine Or.inl ⟨rfl, ?_⟩; intro w hSw; (try dsimp only at hSw); go_simp; with_reducible rfl)
    try simp only [Act.put, List.setIfInBounds_toArray, List.set_cons_zero, List.set_cons_succ]
    refine wpAnyT_done (by kernel_rfl) ?_ _
    refine NoPanic.normal ?_
    go_wp2
    go_ret
    exact ⟨by simp, HFIN.out _ hb9⟩
  · have hd : decide ((300 : Int) < (x.data.length : Int)) = true := by simp; omega
    go_wp2_with fail
    refine (HA.out _ (Below.refl _ _)).mono ?_
    rintro e w2 ⟨rfl, hb2, _⟩
    go_wp2
    go_ret
    exact ⟨rfl, hb2⟩
end Go.Proofs.YtegnheonncoodaaDoor.Scr
