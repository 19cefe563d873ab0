/- Which line is the first that is none. -/
import Derived.Test.YtegnheonncoodaaDoorScTails
import Derived.Test.YtegnheonncoodaaDoorTill
import Derived.Deep.RegionHeld3
namespace Go.Proofs.YtegnheonncoodaaDoor.Scr
set_option linter.unusedVariables false
open Go.ChangeShapes Go.WideShapes Go.ChangeAt Go.RowKit
open Go.Mem Sc
def tailRow : Array Value := #[.string ⟨#[]⟩, .string ⟨#[49]⟩, .string ⟨#[49, 32, 50, 32, 51, 32, 120]⟩, .string ⟨#[49, 32, 50, 32, 51, 32, 120, 32, 120, 32, 120]⟩, .string ⟨#[48, 49, 32, 50, 32, 51, 32, 120, 32, 120]⟩, .string ⟨#[49, 32, 43, 50, 32, 51, 32, 120, 32, 120]⟩, .string ⟨#[49, 32, 50, 32, 45, 51, 32, 120, 32, 120]⟩, .string ⟨#[49, 32, 50, 32, 51, 32, 120, 49, 32, 120]⟩, .string ⟨#[49, 32, 50, 32, 51, 32, 120, 65, 66, 32, 120]⟩, .string ⟨#[49, 32, 50, 32, 51, 32, 54, 98, 32, 120]⟩, .string ⟨#[49, 32, 50, 32, 51, 32, 120, 32, 120, 32]⟩, .string ⟨#[49, 32, 50, 32, 32, 51, 32, 120, 32, 120]⟩]
theorem tailRow_get (m : Nat) (h : m < 12) : ∃ t ∈ tails, tailRow[m]? = some (.string (str t)) := by
  refine ⟨tails[m]'(by simpa [tails] using h), List.getElem_mem _, ?_⟩
  rcases (by omega : m = 0 ∨ m = 1 ∨ m = 2 ∨ m = 3 ∨ m = 4 ∨ m = 5 ∨ m = 6 ∨ m = 7 ∨ m = 8 ∨ m = 9 ∨ m = 10 ∨ m = 11) with rfl | rfl | rfl | rfl | rfl | rfl | rfl | rfl | rfl | rfl | rfl | rfl <;> rfl
theorem bad_at {A B : List SD} {t : List UInt8} (hA : ∀ x ∈ A, x.Ok) (h : t ∈ tails) : parseL [] (lines (((textOf A ++ t) ++ [10]) ++ textOf B)) = .bad (A.length + 1) := by
  have := bad_line (A := A) (B := B) hA (tails_no10 t h) (tails_bad t h)
  rw [← this]; simp
set_option maxHeartbeats 8000000 in
set_option maxRecDepth 100000 in
theorem lineAC (L : List SD) (v : Value) (at' bad : Nat) (hat : at' < 256) (hbad : bad < 256) (w : World) (hv : Steps w v L) (hz : SizedL L) (hT : Tabs w) : Calls Tryd.prog 5 #[v, .int .u8 (at' : Nat), .int .u8 (bad : Nat)] w fun e w' => e = .returned (.bool true) ∧ Below w.heap.size w w' := by
  obtain ⟨A, C, rfl, hl, hC, _⟩ := hv.shape
  have HT := Lib.hid hT
  have HV := Lib.hid hv
  have HZ := Lib.hid hz
  clear hT hv hz
  go_enter Tryd.func5, Tryd.ntmps5
  go_wp2_with fail
  refine (smallC L _ _ HV.out HZ.out).mono ?_
  rintro e w1 ⟨⟨b, rfl, hb, _⟩, n, hw1⟩
  have HB1 : Hid (Below w.heap.size w w1) := by rw [hw1]; exact below_drewN _ _ _
  have hs1 : w.heap.size = w1.heap.size := by rw [hw1]; rfl
  clear hw1
  have hans : ∀ W, Below w.heap.size w W → Calls Tryd.prog 9 #[] W fun e w' => e = .returned (.bool true) ∧ Below w.heap.size w w' := fun W hb => (answersC _ (HT.out.below hb)).mono fun e w' h => ⟨h.1, below_then hb h.2⟩
  have HA := Lib.hid hans
  clear hans
  cases b with
  | false =>
    clear hb
    go_wp2_with fail
    refine (HA.out _ HB1.out).mono ?_
    rintro e w2 ⟨rfl, hb2⟩
    go_wp2
    go_ret
    exact ⟨rfl, hb2⟩
  | true =>
    have HS := Lib.hid (hb rfl)
    have HLE := Lib.hid (HS.out.text HV.out)
    clear hb
    -- the tails
    obtain ⟨wt, hwt⟩ : ∃ wt, w1.alloc (.cells #[.string ⟨#[]⟩, .string ⟨#[49]⟩, .string ⟨#[49, 32, 50, 32, 51, 32, 120]⟩, .string ⟨#[49, 32, 50, 32, 51, 32, 120, 32, 120, 32, 120]⟩, .string ⟨#[48, 49, 32, 50, 32, 51, 32, 120, 32, 120]⟩, .string ⟨#[49, 32, 43, 50, 32, 51, 32, 120, 32, 120]⟩, .string ⟨#[49, 32, 50, 32, 45, 51, 32, 120, 32, 120]⟩, .string ⟨#[49, 32, 50, 32, 51, 32, 120, 49, 32, 120]⟩, .string ⟨#[49, 32, 50, 32, 51, 32, 120, 65, 66, 32, 120]⟩, .string ⟨#[49, 32, 50, 32, 51, 32, 54, 98, 32, 120]⟩, .string ⟨#[49, 32, 50, 32, 51, 32, 120, 32, 120, 32]⟩, .string ⟨#[49, 32, 50, 32, 32, 51, 32, 120, 32, 120]⟩] 9) = wt := ⟨_, rfl⟩
    have hbt : Below w.heap.size w wt := by rw [← hwt]; exact HB1.out.alloc HB1.out.size _
    obtain ⟨g, hg⟩ : ∃ g, w1.heap.size = g := ⟨_, rfl⟩
    obtain ⟨m, hm⟩ : ∃ m, bad % 12 = m := ⟨_, rfl⟩
    have hm12 : m < 12 := by omega
    obtain ⟨t, htm, hrow⟩ := tailRow_get m hm12
    have hct : wt.cell? ⟨g, m, none⟩ = some (.string (str t)) := by
      rw [← hwt, ← hg]
      have hob : ∀ o, (w1.alloc o).heap[w1.heap.size]? = some o := fun o => by
        show (w1.heap.push _)[w1.heap.size]? = _
        simp
      unfold World.cell?
      dsimp only
      rw [hob]
      exact hrow
    clear hrow
    -- the place
    obtain ⟨k, hk⟩ : ∃ k, at' % (L.length + 1) = k := ⟨_, rfl⟩
    have hkN : k ≤ L.length := by have := Nat.mod_lt at' (show 0 < L.length + 1 by omega); omega
    obtain ⟨A1, hs1', hv1⟩ := steps_to HV.out rfl hkN
    obtain ⟨A2, hs2', hv2⟩ := steps_from HV.out rfl hkN
    have hl1 := List.length_take_of_le hkN
    have hl2 := List.length_drop (i := k) (l := L)
    have htt := textOf_take L k
    have hlt : (textOf (L.take k)).length + (textOf (L.drop k)).length ≤ 70000 := by rw [← List.length_append, htt]; exact HLE.out
    have htl := tails_len t htm
    have HT1 : Hid (∀ W, Below wt.heap.size wt W → Calls Tryd.prog 12 #[.slice A1 k C] W fun e w' => e = .returned (.string (str (textOf (L.take k)))) ∧ Below wt.heap.size wt w') := fun W hb => by
      have hbw : Below w.heap.size w W := below_then hbt hb
      have := textC (L.take k) _ W (hv1.below hbw) (fun i h => by rw [List.getElem_take]; exact HS.out.small i _) (by omega)
      exact this.mono fun e w' h => ⟨h.1, below_then hb h.2⟩
    have HT2 : Hid (∀ W, Below wt.heap.size wt W → Calls Tryd.prog 12 #[.slice A2 (L.length - k) (C - k)] W fun e w' => e = .returned (.string (str (textOf (L.drop k)))) ∧ Below wt.heap.size wt w') := fun W hb => by
      have hbw : Below w.heap.size w W := below_then hbt hb
      have := textC (L.drop k) _ W (hv2.below hbw) (fun i h => by rw [List.getElem_drop]; exact HS.out.small _ _) (by omega)
      exact this.mono fun e w' h => ⟨h.1, below_then hb h.2⟩
    have hbadl := bad_at (A := L.take k) (B := L.drop k) (t := t) (fun x hx => HV.out.ok x (List.mem_of_mem_take hx)) htm
    rw [hl1] at hbadl
    have HP : Hid (∀ W, Below wt.heap.size wt W → Calls Tryd.prog 11 #[.string (str (((textOf (L.take k) ++ t) ++ [10]) ++ textOf (L.drop k)))] W fun e w' => e = .returned (.tuple #[.slice none 0 0, .int .i64 ((k : Int) + 1), .int .i64 13]) ∧ Below wt.heap.size wt w') := fun W hb => by
      refine (parseC _ (by simp only [List.length_append, List.length_cons, List.length_nil]; omega) W (HT.out.below (below_then hbt hb))).mono fun e w' h => ?_
      obtain ⟨h1, h2⟩ := parse_no h hbadl
      exact ⟨by rw [h1]; simp, below_then hb h2⟩
    obtain ⟨e1, a1, b1⟩ := adds_of (textOf (L.take k)) t (by omega)
    obtain ⟨e2, a2, b2⟩ := adds_of (textOf (L.take k) ++ t) [10] (by simp only [List.length_append, List.length_cons, List.length_nil]; omega)
    obtain ⟨e3, a3, b3⟩ := adds_of ((textOf (L.take k) ++ t) ++ [10]) (textOf (L.drop k)) (by simp only [List.length_append, List.length_cons, List.length_nil]; omega)
    rw [show str [10] = ⟨#[10]⟩ from rfl] at e2 a2
    rw [show ([10] : List UInt8).length = 1 from rfl] at b2
    generalize str (((textOf (L.take k) ++ t) ++ [10]) ++ textOf (L.drop k)) = s3 at HP e3
    generalize str ((textOf (L.take k) ++ t) ++ [10]) = s2 at e2 e3 a3 b3
    generalize str (textOf (L.take k) ++ t) = s1 at e1 e2 a2 b2
    generalize str (textOf (L.take k)) = p1 at HT1 e1 a1 b1
    generalize str (textOf (L.drop k)) = p2 at HT2 e3 a3
    generalize str t = tl at hct e1 a1
    have HBT := Lib.hid hbt
    have HKP : Hid (∀ W, Below wt.heap.size wt W → Below wt.heap.size wt W ∧ W.cell? ⟨g, m, none⟩ = some (.string tl)) := fun W hb => ⟨hb, below_cell hb _ _ hct⟩
    have HN : Hid (∀ w', Below wt.heap.size wt w' → Below w.heap.size w w') := fun w' h => below_then hbt h
    have hwr : IntKind.i64.wrap ((L.length : Int) + 1) = (L.length : Int) + 1 := IntWalk.i64_in _ (by have := HS.out.1; omega)
    have hn0 : ((L.length : Int) + 1 == 0) = false := by rw [beq_eq_false_iff_ne]; omega
    have hq1 : (at' : Int).tmod ((L.length : Int) + 1) = (k : Int) := by
      rw [← hk, Int.tmod_eq_emod_of_nonneg (by omega)]; exact (Int.natCast_emod _ _).symm
    have hq2 : (at' : Int) % ((L.length : Int) + 1) = (k : Int) := by
      rw [← hk]; exact (Int.natCast_emod _ _).symm
    have hq3 : (bad : Int).tmod 12 = (m : Int) := by
      rw [← hm, Int.tmod_eq_emod_of_nonneg (by omega)]; exact (Int.natCast_emod _ _).symm
    have hq4 : (bad : Int) % 12 = (m : Int) := by
      rw [← hm]; exact (Int.natCast_emod _ _).symm
    have k0 : (0 : Int) ≤ (k : Int) := by omega
    have k1 : (k : Int) ≤ (L.length : Int) := by omega
    have m0 : (0 : Int) ≤ (m : Int) := by omega
    have m1 : (m : Int) < 12 := by omega
    clear hk hm hv1 hv2 hl1 hl2 htt hlt htl hbadl hbt htm
    go_wp2_with fail
    refine wp_region_noPanic ?_
    refine wp_region_till [9] (fun w' => Below wt.heap.size wt w' ∧ w'.cell? ⟨g, m, none⟩ = some (.string tl)) (by kernel_rfl) (HKP.out _ ((Below.refl _ _).drew)) (fun _ => ?_)
    have hHeld := HKP.out _ ((Below.refl _ _).drew)
    refine wpAnyT_take (i := 0) (oi := ?oiz1) (v := ?vz1) ?h1z1 (by kernel_rfl) (by kernel_rfl) (by kernel_rfl) (by kernel_rfl) (fun _ _ _ h => h) ?hyz1 (HeldT.of hHeld) ?_
    case h1z1 => (simp only [List.getElem?_toArray, List.getElem?_cons_zero]; rfl)
    case hyz1 => first | (refine Or.inr ⟨rfl, ?_⟩; rfl) | (refine Or.inl ⟨rfl, ?_⟩; intro w hSw; (try dsimp only at hSw); go_simp; done) | (refine Or.inl ⟨rfl, ?_⟩; intro w hSw; (try dsimp only at hSw); go_simp; with_reducible rfl)
    try simp only [Act.put, List.setIfInBounds_toArray, List.set_cons_zero, List.set_cons_succ]
    refine wpAnyT_take (i := 1) (oi := ?oiz2) (v := ?vz2) ?h1z2 (by kernel_rfl) (by kernel_rfl) (by kernel_rfl) (by kernel_rfl) (fun _ _ _ h => h) ?hyz2 (HeldT.of hHeld) ?_
    case h1z2 => (simp only [List.getElem?_toArray, List.getElem?_cons_succ, List.getElem?_cons_zero]; rfl)
    case hyz2 => first | (refine Or.inr ⟨rfl, ?_⟩; rfl) | (refine Or.inl ⟨rfl, ?_⟩; intro w hSw; (try dsimp only at hSw); go_simp; done) | (refine Or.inl ⟨rfl, ?_⟩; intro w hSw; (try dsimp only at hSw); go_simp; with_reducible rfl)
    try simp only [Act.put, List.setIfInBounds_toArray, List.set_cons_zero, List.set_cons_succ]
    refine wpAnyT_take (i := 2) (oi := ?oiz3) (v := ?vz3) ?h1z3 (by kernel_rfl) (by kernel_rfl) (by kernel_rfl) (by kernel_rfl) (fun _ _ _ h => h) ?hyz3 (HeldT.of hHeld) ?_
    case h1z3 => (simp only [List.getElem?_toArray, List.getElem?_cons_succ, List.getElem?_cons_zero]; rfl)
    case hyz3 => first | (refine Or.inr ⟨rfl, ?_⟩; rfl) | (refine Or.inl ⟨rfl, ?_⟩; intro w hSw; (try dsimp only at hSw); go_simp; done) | (refine Or.inl ⟨rfl, ?_⟩; intro w hSw; (try dsimp only at hSw); go_simp; with_reducible rfl)
    try simp only [Act.put, List.setIfInBounds_toArray, List.set_cons_zero, List.set_cons_succ]
    refine wpAnyT_take (i := 4) (oi := ?oiz4) (v := ?vz4) ?h1z4 (by kernel_rfl) (by kernel_rfl) (by kernel_rfl) (by kernel_rfl) (fun _ _ _ h => h) ?hyz4 (HeldT.of hHeld) ?_
    case h1z4 => (simp only [List.getElem?_toArray, List.getElem?_cons_succ, List.getElem?_cons_zero]; rfl)
    case hyz4 => first | (refine Or.inr ⟨rfl, ?_⟩; rfl) | (refine Or.inl ⟨rfl, ?_⟩; intro w hSw; (try dsimp only at hSw); go_simp; done) | (refine Or.inl ⟨rfl, ?_⟩; intro w hSw; (try dsimp only at hSw); go_simp; with_reducible rfl)
    try simp only [Act.put, List.setIfInBounds_toArray, List.set_cons_zero, List.set_cons_succ]
    refine wpAnyT_take (i := 5) (oi := ?oiz5) (v := ?vz5) ?h1z5 (by kernel_rfl) (by kernel_rfl) (by kernel_rfl) (by kernel_rfl) (fun _ _ _ h => h) ?hyz5 (HeldT.of hHeld) ?_
    case h1z5 => (simp only [List.getElem?_toArray, List.getElem?_cons_succ, List.getElem?_cons_zero]; rfl)
    case hyz5 => first | (refine Or.inr ⟨rfl, ?_⟩; rfl) | (refine Or.inl ⟨rfl, ?_⟩; intro w hSw; (try dsimp only at hSw); go_simp; done) | (refine Or.inl ⟨rfl, ?_⟩; intro w hSw; (try dsimp only at hSw); go_simp; with_reducible rfl)
    try simp only [Act.put, List.setIfInBounds_toArray, List.set_cons_zero, List.set_cons_succ]
    refine wpAnyT_take (i := 6) (oi := ?oiz6) (v := ?vz6) ?h1z6 (by kernel_rfl) (by kernel_rfl) (by kernel_rfl) (by kernel_rfl) (fun _ _ _ h => h) ?hyz6 (HeldT.of hHeld) ?_
    case h1z6 => (simp only [List.getElem?_toArray, List.getElem?_cons_succ, List.getElem?_cons_zero]; rfl)
    case hyz6 => first | (refine Or.inr ⟨rfl, ?_⟩; rfl) | (refine Or.inl ⟨rfl, ?_⟩; intro w hSw; (try dsimp only at hSw); go_simp; done) | (refine Or.inl ⟨rfl, ?_⟩; intro w hSw; (try dsimp only at hSw); go_simp; with_reducible rfl)
    try simp only [Act.put, List.setIfInBounds_toArray, List.set_cons_zero, List.set_cons_succ]
    refine wpAnyT_take (i := 7) (oi := ?oiz7) (v := ?vz7) ?h1z7 (by kernel_rfl) (by kernel_rfl) (by kernel_rfl) (by kernel_rfl) (fun _ _ _ h => h) ?hyz7 (HeldT.of hHeld) ?_
    case h1z7 => (simp only [List.getElem?_toArray, List.getElem?_cons_succ, List.getElem?_cons_zero]; rfl)
    case hyz7 => first | (refine Or.inr ⟨rfl, ?_⟩; rfl) | (refine Or.inl ⟨rfl, ?_⟩; intro w hSw; (try dsimp only at hSw); go_simp; done) | (refine Or.inl ⟨rfl, ?_⟩; intro w hSw; (try dsimp only at hSw); go_simp; with_reducible rfl)
    try simp only [Act.put, List.setIfInBounds_toArray, List.set_cons_zero, List.set_cons_succ]
    refine wpAnyT_load 9 (i := 8) (oi := ?oiz8) (v := ?vz8) ?h1z8 (by kernel_rfl) (by kernel_rfl) (by kernel_rfl) (by kernel_rfl) (fun _ _ _ h => h) ?hyz8 (HeldT.of hHeld) ?_
    case h1z8 => (simp only [List.getElem?_toArray, List.getElem?_cons_succ, List.getElem?_cons_zero]; rfl)
    case hyz8 => first | (refine Or.inr ⟨rfl, ?_⟩; rfl) | (refine Or.inl ⟨rfl, ?_⟩; intro w hSw; ((try dsimp only at hSw); obtain ⟨hB0, hB1⟩ := hSw); go_simp; done) | (refine Or.inl ⟨rfl, ?_⟩; intro w hSw; ((try dsimp only at hSw); obtain ⟨hB0, hB1⟩ := hSw); go_simp; with_reducible rfl)
    try simp only [Act.put, List.setIfInBounds_toArray, List.set_cons_zero, List.set_cons_succ]
    refine wpAnyT_take (i := 11) (oi := ?oiz9) (v := ?vz9) ?h1z9 (by kernel_rfl) (by kernel_rfl) (by kernel_rfl) (by kernel_rfl) (fun _ _ _ h => h) ?hyz9 (HeldT.of hHeld) ?_
    case h1z9 => (simp only [List.getElem?_toArray, List.getElem?_cons_succ, List.getElem?_cons_zero]; rfl)
    case hyz9 => first | (refine Or.inr ⟨rfl, ?_⟩; rfl) | (refine Or.inl ⟨rfl, ?_⟩; intro w hSw; (try dsimp only at hSw); go_simp; done) | (refine Or.inl ⟨rfl, ?_⟩; intro w hSw; (try dsimp only at hSw); go_simp; with_reducible rfl)
    try simp only [Act.put, List.setIfInBounds_toArray, List.set_cons_zero, List.set_cons_succ]
    refine wpAnyT_take (i := 12) (oi := ?oiz10) (v := ?vz10) ?h1z10 (by kernel_rfl) (by kernel_rfl) (by kernel_rfl) (by kernel_rfl) (fun _ _ _ h => h) ?hyz10 (HeldT.of hHeld) ?_
    case h1z10 => (simp only [List.getElem?_toArray, List.getElem?_cons_succ, List.getElem?_cons_zero]; rfl)
    case hyz10 => first | (refine Or.inr ⟨rfl, ?_⟩; rfl) | (refine Or.inl ⟨rfl, ?_⟩; intro w hSw; (try dsimp only at hSw); go_simp; done) | (refine Or.inl ⟨rfl, ?_⟩; intro w hSw; (try dsimp only at hSw); go_simp; with_reducible rfl)
    try simp only [Act.put, List.setIfInBounds_toArray, List.set_cons_zero, List.set_cons_succ]
    refine wpAnyT_take (i := 13) (oi := ?oiz11) (v := ?vz11) ?h1z11 (by kernel_rfl) (by kernel_rfl) (by kernel_rfl) (by kernel_rfl) (fun _ _ _ h => h) ?hyz11 (HeldT.of hHeld) ?_
    case h1z11 => (simp only [List.getElem?_toArray, List.getElem?_cons_succ, List.getElem?_cons_zero]; rfl)
    case hyz11 => first | (refine Or.inr ⟨rfl, ?_⟩; rfl) | (refine Or.inl ⟨rfl, ?_⟩; intro w hSw; (try dsimp only at hSw); go_simp; done) | (refine Or.inl ⟨rfl, ?_⟩; intro w hSw; (try dsimp only at hSw); go_simp; with_reducible rfl)
    try simp only [Act.put, List.setIfInBounds_toArray, List.set_cons_zero, List.set_cons_succ]
    refine wpAnyT_ready (rs := [3]) (by kernel_rfl) (by simp) ?_
    refine AllReadyT.cons (o := ?oiz12) ?h1z12 (fun K hK => ?_) ?morez12
    case h1z12 => (simp only [List.getElem?_toArray, List.getElem?_cons_succ, List.getElem?_cons_zero]; rfl)
    case morez12 => exact AllReadyT.nil
    go_simp
    go_at_call 12
    refine (HT1.out _ (Below.refl _ _).drew).mono ?_
    rintro _ w4 ⟨rfl, hb4⟩
    have hHeld := HKP.out _ hb4
    refine hK.out _ _ (HeldT.of hHeld) (fun _ => ?_)
    clear hK K
    try simp only [Act.put, List.setIfInBounds_toArray, List.set_cons_zero, List.set_cons_succ]
    refine wpAnyT_ready (rs := [9, 14]) (by kernel_rfl) (by simp) ?_
    refine AllReadyT.cons (o := ?oiz36) ?h1z36 (fun K hK => ?_) ?morez36
    case h1z36 => (simp only [List.getElem?_toArray, List.getElem?_cons_succ, List.getElem?_cons_zero]; rfl)
    case morez36 =>
      refine AllReadyT.cons (o := ?oiz35) ?h1z35 (fun K hK => ?_) ?morez35
      case h1z35 => (simp only [List.getElem?_toArray, List.getElem?_cons_succ, List.getElem?_cons_zero]; rfl)
      case morez35 =>
        exact AllReadyT.nil
      go_simp
      go_at_call 12
      refine (HT2.out _ hb4).mono ?_
      rintro _ w5 ⟨rfl, hb5⟩
      have hHeld := HKP.out _ hb5
      refine hK.out _ _ (HeldT.of hHeld) (fun _ => ?_)
      clear hK K
      try simp only [Act.put, List.setIfInBounds_toArray, List.set_cons_zero, List.set_cons_succ]
      refine wpAnyT_ready (rs := [9]) (by kernel_rfl) (by simp) ?_
      refine AllReadyT.cons (o := ?oiz24) ?h1z24 (fun K hK => ?_) ?morez24
      case h1z24 => (simp only [List.getElem?_toArray, List.getElem?_cons_succ, List.getElem?_cons_zero]; rfl)
      case morez24 => exact AllReadyT.nil
      go_simp
      refine hK.out _ _ (HeldT.over (by kernel_rfl)) (fun _ => ?_)
      clear hK K
      try simp only [Act.put, List.setIfInBounds_toArray, List.set_cons_zero, List.set_cons_succ]
      refine wpAnyT_take (i := 10) (oi := ?oiz25) (v := ?vz25) ?h1z25 (by kernel_rfl) (by kernel_rfl) (by kernel_rfl) (by kernel_rfl) (fun _ _ _ h => h) ?hyz25 (HeldT.over (by kernel_rfl)) ?_
      case h1z25 => (simp only [List.getElem?_toArray, List.getElem?_cons_succ, List.getElem?_cons_zero]; rfl)
      case hyz25 => first | (refine Or.inr ⟨rfl, ?_⟩; rfl) | (refine Or.inl ⟨rfl, ?_⟩; intro w hSw; (try dsimp only at hSw); go_simp; done) | (refine Or.inl ⟨rfl, ?_⟩; intro w hSw; (try dsimp only at hSw); go_simp; with_reducible rfl)
      try simp only [Act.put, List.setIfInBounds_toArray, List.set_cons_zero, List.set_cons_succ]
      refine wpAnyT_take (i := 15) (oi := ?oiz26) (v := ?vz26) ?h1z26 (by kernel_rfl) (by kernel_rfl) (by kernel_rfl) (by kernel_rfl) (fun _ _ _ h => h) ?hyz26 (HeldT.over (by kernel_rfl)) ?_
      case h1z26 => (simp only [List.getElem?_toArray, List.getElem?_cons_succ, List.getElem?_cons_zero]; rfl)
      case hyz26 => first | (refine Or.inr ⟨rfl, ?_⟩; rfl) | (refine Or.inl ⟨rfl, ?_⟩; intro w hSw; (try dsimp only at hSw); go_simp; done) | (refine Or.inl ⟨rfl, ?_⟩; intro w hSw; (try dsimp only at hSw); go_simp; with_reducible rfl)
      try simp only [Act.put, List.setIfInBounds_toArray, List.set_cons_zero, List.set_cons_succ]
      refine wpAnyT_ready (rs := [16]) (by kernel_rfl) (by simp) ?_
      refine AllReadyT.cons (o := ?oiz27) ?h1z27 (fun K hK => ?_) ?morez27
      case h1z27 => (simp only [List.getElem?_toArray, List.getElem?_cons_succ, List.getElem?_cons_zero]; rfl)
      case morez27 => exact AllReadyT.nil
      go_simp
      go_at_call 11
      refine (HP.out _ hb5).mono ?_
      rintro _ w6 ⟨rfl, hb6⟩
      refine hK.out _ _ (HeldT.over (by kernel_rfl)) (fun _ => ?_)
      clear hK K
      try simp only [Act.put, List.setIfInBounds_toArray, List.set_cons_zero, List.set_cons_succ]
      refine wpAnyT_take (i := 17) (oi := ?oiz28) (v := ?vz28) ?h1z28 (by kernel_rfl) (by kernel_rfl) (by kernel_rfl) (by kernel_rfl) (fun _ _ _ h => h) ?hyz28 (HeldT.over (by kernel_rfl)) ?_
      case h1z28 => (simp only [List.getElem?_toArray, List.getElem?_cons_succ, List.getElem?_cons_zero]; rfl)
      case hyz28 => first | (refine Or.inr ⟨rfl, ?_⟩; rfl) | (refine Or.inl ⟨rfl, ?_⟩; intro w hSw; (try dsimp only at hSw); go_simp; done) | (refine Or.inl ⟨rfl, ?_⟩; intro w hSw; (try dsimp only at hSw); go_simp; with_reducible rfl)
      try simp only [Act.put, List.setIfInBounds_toArray, List.set_cons_zero, List.set_cons_succ]
      refine wpAnyT_take (i := 18) (oi := ?oiz29) (v := ?vz29) ?h1z29 (by kernel_rfl) (by kernel_rfl) (by kernel_rfl) (by kernel_rfl) (fun _ _ _ h => h) ?hyz29 (HeldT.over (by kernel_rfl)) ?_
      case h1z29 => (simp only [List.getElem?_toArray, List.getElem?_cons_succ, List.getElem?_cons_zero]; rfl)
      case hyz29 => first | (refine Or.inr ⟨rfl, ?_⟩; rfl) | (refine Or.inl ⟨rfl, ?_⟩; intro w hSw; (try dsimp only at hSw); go_simp; done) | (refine Or.inl ⟨rfl, ?_⟩; intro w hSw; (try dsimp only at hSw); go_simp; with_reducible rfl)
      try simp only [Act.put, List.setIfInBounds_toArray, List.set_cons_zero, List.set_cons_succ]
      refine wpAnyT_take (i := 19) (oi := ?oiz30) (v := ?vz30) ?h1z30 (by kernel_rfl) (by kernel_rfl) (by kernel_rfl) (by kernel_rfl) (fun _ _ _ h => h) ?hyz30 (HeldT.over (by kernel_rfl)) ?_
      case h1z30 => (simp only [List.getElem?_toArray, List.getElem?_cons_succ, List.getElem?_cons_zero]; rfl)
      case hyz30 => first | (refine Or.inr ⟨rfl, ?_⟩; rfl) | (refine Or.inl ⟨rfl, ?_⟩; intro w hSw; (try dsimp only at hSw); go_simp; done) | (refine Or.inl ⟨rfl, ?_⟩; intro w hSw; (try dsimp only at hSw); go_simp; with_reducible rfl)
      try simp only [Act.put, List.setIfInBounds_toArray, List.set_cons_zero, List.set_cons_succ]
      refine wpAnyT_take (i := 20) (oi := ?oiz31) (v := ?vz31) ?h1z31 (by kernel_rfl) (by kernel_rfl) (by kernel_rfl) (by kernel_rfl) (fun _ _ _ h => h) ?hyz31 (HeldT.over (by kernel_rfl)) ?_
      case h1z31 => (simp only [List.getElem?_toArray, List.getElem?_cons_succ, List.getElem?_cons_zero]; rfl)
      case hyz31 => first | (refine Or.inr ⟨rfl, ?_⟩; rfl) | (refine Or.inl ⟨rfl, ?_⟩; intro w hSw; (try dsimp only at hSw); go_simp; done) | (refine Or.inl ⟨rfl, ?_⟩; intro w hSw; (try dsimp only at hSw); go_simp; with_reducible rfl)
      try simp only [Act.put, List.setIfInBounds_toArray, List.set_cons_zero, List.set_cons_succ]
      refine wpAnyT_take (i := 21) (oi := ?oiz32) (v := ?vz32) ?h1z32 (by kernel_rfl) (by kernel_rfl) (by kernel_rfl) (by kernel_rfl) (fun _ _ _ h => h) ?hyz32 (HeldT.over (by kernel_rfl)) ?_
      case h1z32 => (simp only [List.getElem?_toArray, List.getElem?_cons_succ, List.getElem?_cons_zero]; rfl)
      case hyz32 => first | (refine Or.inr ⟨rfl, ?_⟩; rfl) | (refine Or.inl ⟨rfl, ?_⟩; intro w hSw; (try dsimp only at hSw); go_simp; done) | (refine Or.inl ⟨rfl, ?_⟩; intro w hSw; (try dsimp only at hSw); go_simp; with_reducible rfl)
      try simp only [Act.put, List.setIfInBounds_toArray, List.set_cons_zero, List.set_cons_succ]
      refine wpAnyT_take (i := 22) (oi := ?oiz33) (v := ?vz33) ?h1z33 (by kernel_rfl) (by kernel_rfl) (by kernel_rfl) (by kernel_rfl) (fun _ _ _ h => h) ?hyz33 (HeldT.over (by kernel_rfl)) ?_
      case h1z33 => (simp only [List.getElem?_toArray, List.getElem?_cons_succ, List.getElem?_cons_zero]; rfl)
      case hyz33 => first | (refine Or.inr ⟨rfl, ?_⟩; rfl) | (refine Or.inl ⟨rfl, ?_⟩; intro w hSw; (try dsimp only at hSw); go_simp; done) | (refine Or.inl ⟨rfl, ?_⟩; intro w hSw; (try dsimp only at hSw); go_simp; with_reducible rfl)
      try simp only [Act.put, List.setIfInBounds_toArray, List.set_cons_zero, List.set_cons_succ]
      refine wpAnyT_take (i := 23) (oi := ?oiz34) (v := ?vz34) ?h1z34 (by kernel_rfl) (by kernel_rfl) (by kernel_rfl) (by kernel_rfl) (fun _ _ _ h => h) ?hyz34 (HeldT.over (by kernel_rfl)) ?_
      case h1z34 => (simp only [List.getElem?_toArray, List.getElem?_cons_succ, List.getElem?_cons_zero]; rfl)
      case hyz34 => first | (refine Or.inr ⟨rfl, ?_⟩; rfl) | (refine Or.inl ⟨rfl, ?_⟩; intro w hSw; (try dsimp only at hSw); go_simp; done) | (refine Or.inl ⟨rfl, ?_⟩; intro w hSw; (try dsimp only at hSw); go_simp; with_reducible rfl)
      try simp only [Act.put, List.setIfInBounds_toArray, List.set_cons_zero, List.set_cons_succ]
      refine wpAnyT_done (by kernel_rfl) ?_ _
      refine NoPanic.normal ?_
      have HB6 := Lib.hid (HN.out _ hb6)
      have hwk : IntKind.i64.wrap ((k : Int) + 1) = (k : Int) + 1 := IntWalk.i64_in _ (by have := HS.out.1; omega)
      clear hb4 hb5 hb6 hHeld e1 a1 b1 e2 a2 b2 e3 a3 b3 hwr hn0 hq1 hq2 hq3 hq4 hct hs1' hs2' hs1
      go_wp2_with fail
      refine (HA.out _ HB6.out).mono ?_
      rintro e w7 ⟨rfl, hb7⟩
      go_wp2
      go_ret
      exact ⟨by simp, hb7⟩
    go_simp
    refine hK.out _ _ (HeldT.over (by kernel_rfl)) (fun _ => ?_)
    clear hK K
    try simp only [Act.put, List.setIfInBounds_toArray, List.set_cons_zero, List.set_cons_succ]
    refine wpAnyT_take (i := 10) (oi := ?oiz13) (v := ?vz13) ?h1z13 (by kernel_rfl) (by kernel_rfl) (by kernel_rfl) (by kernel_rfl) (fun _ _ _ h => h) ?hyz13 (HeldT.over (by kernel_rfl)) ?_
    case h1z13 => (simp only [List.getElem?_toArray, List.getElem?_cons_succ, List.getElem?_cons_zero]; rfl)
    case hyz13 => first | (refine Or.inr ⟨rfl, ?_⟩; rfl) | (refine Or.inl ⟨rfl, ?_⟩; intro w hSw; (try dsimp only at hSw); go_simp; done) | (refine Or.inl ⟨rfl, ?_⟩; intro w hSw; (try dsimp only at hSw); go_simp; with_reducible rfl)
    try simp only [Act.put, List.setIfInBounds_toArray, List.set_cons_zero, List.set_cons_succ]
    refine wpAnyT_ready (rs := [14]) (by kernel_rfl) (by simp) ?_
    refine AllReadyT.cons (o := ?oiz14) ?h1z14 (fun K hK => ?_) ?morez14
    case h1z14 => (simp only [List.getElem?_toArray, List.getElem?_cons_succ, List.getElem?_cons_zero]; rfl)
    case morez14 => exact AllReadyT.nil
    go_simp
    go_at_call 12
    refine (HT2.out _ hb4).mono ?_
    rintro _ w5 ⟨rfl, hb5⟩
    refine hK.out _ _ (HeldT.over (by kernel_rfl)) (fun _ => ?_)
    clear hK K
    try simp only [Act.put, List.setIfInBounds_toArray, List.set_cons_zero, List.set_cons_succ]
    refine wpAnyT_take (i := 15) (oi := ?oiz15) (v := ?vz15) ?h1z15 (by kernel_rfl) (by kernel_rfl) (by kernel_rfl) (by kernel_rfl) (fun _ _ _ h => h) ?hyz15 (HeldT.over (by kernel_rfl)) ?_
    case h1z15 => (simp only [List.getElem?_toArray, List.getElem?_cons_succ, List.getElem?_cons_zero]; rfl)
    case hyz15 => first | (refine Or.inr ⟨rfl, ?_⟩; rfl) | (refine Or.inl ⟨rfl, ?_⟩; intro w hSw; (try dsimp only at hSw); go_simp; done) | (refine Or.inl ⟨rfl, ?_⟩; intro w hSw; (try dsimp only at hSw); go_simp; with_reducible rfl)
    try simp only [Act.put, List.setIfInBounds_toArray, List.set_cons_zero, List.set_cons_succ]
    refine wpAnyT_ready (rs := [16]) (by kernel_rfl) (by simp) ?_
    refine AllReadyT.cons (o := ?oiz16) ?h1z16 (fun K hK => ?_) ?morez16
    case h1z16 => (simp only [List.getElem?_toArray, List.getElem?_cons_succ, List.getElem?_cons_zero]; rfl)
    case morez16 => exact AllReadyT.nil
    go_simp
    go_at_call 11
    refine (HP.out _ hb5).mono ?_
    rintro _ w6 ⟨rfl, hb6⟩
    refine hK.out _ _ (HeldT.over (by kernel_rfl)) (fun _ => ?_)
    clear hK K
    try simp only [Act.put, List.setIfInBounds_toArray, List.set_cons_zero, List.set_cons_succ]
    refine wpAnyT_take (i := 17) (oi := ?oiz17) (v := ?vz17) ?h1z17 (by kernel_rfl) (by kernel_rfl) (by kernel_rfl) (by kernel_rfl) (fun _ _ _ h => h) ?hyz17 (HeldT.over (by kernel_rfl)) ?_
    case h1z17 => (simp only [List.getElem?_toArray, List.getElem?_cons_succ, List.getElem?_cons_zero]; rfl)
    case hyz17 => first | (refine Or.inr ⟨rfl, ?_⟩; rfl) | (refine Or.inl ⟨rfl, ?_⟩; intro w hSw; (try dsimp only at hSw); go_simp; done) | (refine Or.inl ⟨rfl, ?_⟩; intro w hSw; (try dsimp only at hSw); go_simp; with_reducible rfl)
    try simp only [Act.put, List.setIfInBounds_toArray, List.set_cons_zero, List.set_cons_succ]
    refine wpAnyT_take (i := 18) (oi := ?oiz18) (v := ?vz18) ?h1z18 (by kernel_rfl) (by kernel_rfl) (by kernel_rfl) (by kernel_rfl) (fun _ _ _ h => h) ?hyz18 (HeldT.over (by kernel_rfl)) ?_
    case h1z18 => (simp only [List.getElem?_toArray, List.getElem?_cons_succ, List.getElem?_cons_zero]; rfl)
    case hyz18 => first | (refine Or.inr ⟨rfl, ?_⟩; rfl) | (refine Or.inl ⟨rfl, ?_⟩; intro w hSw; (try dsimp only at hSw); go_simp; done) | (refine Or.inl ⟨rfl, ?_⟩; intro w hSw; (try dsimp only at hSw); go_simp; with_reducible rfl)
    try simp only [Act.put, List.setIfInBounds_toArray, List.set_cons_zero, List.set_cons_succ]
    refine wpAnyT_take (i := 19) (oi := ?oiz19) (v := ?vz19) ?h1z19 (by kernel_rfl) (by kernel_rfl) (by kernel_rfl) (by kernel_rfl) (fun _ _ _ h => h) ?hyz19 (HeldT.over (by kernel_rfl)) ?_
    case h1z19 => (simp only [List.getElem?_toArray, List.getElem?_cons_succ, List.getElem?_cons_zero]; rfl)
    case hyz19 => first | (refine Or.inr ⟨rfl, ?_⟩; rfl) | (refine Or.inl ⟨rfl, ?_⟩; intro w hSw; (try dsimp only at hSw); go_simp; done) | (refine Or.inl ⟨rfl, ?_⟩; intro w hSw; (try dsimp only at hSw); go_simp; with_reducible rfl)
    try simp only [Act.put, List.setIfInBounds_toArray, List.set_cons_zero, List.set_cons_succ]
    refine wpAnyT_take (i := 20) (oi := ?oiz20) (v := ?vz20) ?h1z20 (by kernel_rfl) (by kernel_rfl) (by kernel_rfl) (by kernel_rfl) (fun _ _ _ h => h) ?hyz20 (HeldT.over (by kernel_rfl)) ?_
    case h1z20 => (simp only [List.getElem?_toArray, List.getElem?_cons_succ, List.getElem?_cons_zero]; rfl)
    case hyz20 => first | (refine Or.inr ⟨rfl, ?_⟩; rfl) | (refine Or.inl ⟨rfl, ?_⟩; intro w hSw; (try dsimp only at hSw); go_simp; done) | (refine Or.inl ⟨rfl, ?_⟩; intro w hSw; (try dsimp only at hSw); go_simp; with_reducible rfl)
    try simp only [Act.put, List.setIfInBounds_toArray, List.set_cons_zero, List.set_cons_succ]
    refine wpAnyT_take (i := 21) (oi := ?oiz21) (v := ?vz21) ?h1z21 (by kernel_rfl) (by kernel_rfl) (by kernel_rfl) (by kernel_rfl) (fun _ _ _ h => h) ?hyz21 (HeldT.over (by kernel_rfl)) ?_
    case h1z21 => (simp only [List.getElem?_toArray, List.getElem?_cons_succ, List.getElem?_cons_zero]; rfl)
    case hyz21 => first | (refine Or.inr ⟨rfl, ?_⟩; rfl) | (refine Or.inl ⟨rfl, ?_⟩; intro w hSw; (try dsimp only at hSw); go_simp; done) | (refine Or.inl ⟨rfl, ?_⟩; intro w hSw; (try dsimp only at hSw); go_simp; with_reducible rfl)
    try simp only [Act.put, List.setIfInBounds_toArray, List.set_cons_zero, List.set_cons_succ]
    refine wpAnyT_take (i := 22) (oi := ?oiz22) (v := ?vz22) ?h1z22 (by kernel_rfl) (by kernel_rfl) (by kernel_rfl) (by kernel_rfl) (fun _ _ _ h => h) ?hyz22 (HeldT.over (by kernel_rfl)) ?_
    case h1z22 => (simp only [List.getElem?_toArray, List.getElem?_cons_succ, List.getElem?_cons_zero]; rfl)
    case hyz22 => first | (refine Or.inr ⟨rfl, ?_⟩; rfl) | (refine Or.inl ⟨rfl, ?_⟩; intro w hSw; (try dsimp only at hSw); go_simp; done) | (refine Or.inl ⟨rfl, ?_⟩; intro w hSw; (try dsimp only at hSw); go_simp; with_reducible rfl)
    try simp only [Act.put, List.setIfInBounds_toArray, List.set_cons_zero, List.set_cons_succ]
    refine wpAnyT_take (i := 23) (oi := ?oiz23) (v := ?vz23) ?h1z23 (by kernel_rfl) (by kernel_rfl) (by kernel_rfl) (by kernel_rfl) (fun _ _ _ h => h) ?hyz23 (HeldT.over (by kernel_rfl)) ?_
    case h1z23 => (simp only [List.getElem?_toArray, List.getElem?_cons_succ, List.getElem?_cons_zero]; rfl)
    case hyz23 => first | (refine Or.inr ⟨rfl, ?_⟩; rfl) | (refine Or.inl ⟨rfl, ?_⟩; intro w hSw; (try dsimp only at hSw); go_simp; done) | (refine Or.inl ⟨rfl, ?_⟩; intro w hSw; (try dsimp only at hSw); go_simp; with_reducible rfl)
    try simp only [Act.put, List.setIfInBounds_toArray, List.set_cons_zero, List.set_cons_succ]
    refine wpAnyT_done (by kernel_rfl) ?_ _
    refine NoPanic.normal ?_
    have HB6 := Lib.hid (HN.out _ hb6)
    have hwk : IntKind.i64.wrap ((k : Int) + 1) = (k : Int) + 1 := IntWalk.i64_in _ (by have := HS.out.1; omega)
    clear hb4 hb5 hb6 hHeld e1 a1 b1 e2 a2 b2 e3 a3 b3 hwr hn0 hq1 hq2 hq3 hq4 hct hs1' hs2' hs1
    go_wp2_with fail
    refine (HA.out _ HB6.out).mono ?_
    rintro e w7 ⟨rfl, hb7⟩
    go_wp2
    go_ret
    exact ⟨by simp, hb7⟩
end Go.Proofs.YtegnheonncoodaaDoor.Scr
