/- The tables of layer 17's laws, as walks. -/
import Derived.Test.YtegbgnjmkohcfaaDoorPlGo
import Derived.Laws.BytesArg
namespace Go.Proofs.YtegbgnjmkohcfaaDoor.Pl
set_option linter.unusedVariables false
open Go.ChangeShapes Go.WideShapes Go.ChangeAt Go.RowKit
open Go.Mem RecM Tbl Rk Rec
theorem ints_away {w : World} {F : Nat → Prop} {v : Value} {l : List Int} (h : Ints w v l) (hn : ∀ b, v.ownBlock = some b → ¬ F b) : Sure F w (fun w' => Ints w' v l) := by
  intro w' ht
  obtain ⟨A, n, C, e, h2, h3, h4, h5, h6⟩ := h
  refine ⟨A, n, C, e, h2, h3, h4, h5, fun i hi => ?_⟩
  obtain ⟨b, o, c, e1, e2, e3⟩ := h6 i hi
  exact ⟨b, o, c, e1, (World.cell?_of_block (w := w) (a := ⟨b, o + i, none⟩) (ht.block b (World.block_lt_of_cell? _ _ e2) (hn b (by rw [e, e1]; rfl)))).trans e2, e3⟩
theorem ints_older {W w : World} {F : Nat → Prop} {v : Value} {l : List Int} (h : Ints W v l) (hb : Below W.heap.size W w) (hF : ∀ b, F b → W.heap.size ≤ b) : Sure F w (fun w' => Ints w' v l) :=
  fun w' ht => h.below (hb.trans (ht.below hF hb.size))
theorem recP_sure {w : World} {F : Nat → Prop} {A : Option Addr} {C : Nat} {x : List Int} {ep : Int} (h : Sure F w (fun w' => Ints w' (.slice A x.length C) x)) (he : I64 ep) (hl : LenOk x.length) :
    Sure F w (fun w' => RecV w' (.agg #[.int .i64 4, .int .i64 ep, .int .i64 0, .string ⟨#[]⟩, .slice none 0 0, .slice none 0 0, .slice A x.length C]) (recP ep x)) := fun w' ht =>
  ⟨none, none, A, 0, 0, C, rfl, ⟨Cells.nil _ _ _, Cells.nil _ _ _, h w' ht, (show I64 4 by unfold I64; decide), he, (show I64 0 by unfold I64; decide), (show KeyOk ⟨#[]⟩ by unfold KeyOk; decide), Nat.zero_le _, Nat.zero_le _, hl⟩⟩
theorem recO_sure {w : World} {F : Nat → Prop} {g : Nat} {A : Option Addr} {C : Nat} {st : List Int} {i t : Nat} (hi : i < 99) (hg : ¬ F g) (c0 : w.cell? ⟨g, 0, none⟩ = some (.int .i64 (sid i))) (c1 : w.cell? ⟨g, 1, none⟩ = some (.int .i64 1))
    (c2 : w.cell? ⟨g, 2, none⟩ = some (.slice A 3 C)) (hl : (locs st i t).length = 3) (h : Sure F w (fun w' => Ints w' (.slice A 3 C) (locs st i t))) :
    Sure F w (fun w' => RecV w' (.agg #[.int .i64 1, .int .i64 ((i : Int) + 1), .int .i64 16, .string (key i), .slice (some ⟨g, 0, none⟩) 1 1, .slice none 0 0, .slice none 0 0]) (recO st i t)) := by
  intro w' ht
  have hlt := World.block_lt_of_cell? _ _ c0
  have e := ht.block g hlt hg
  refine ⟨some ⟨g, 0, none⟩, none, none, 1, 0, 0, rfl, ⟨?_, Cells.nil _ _ _, Ints.nil _, (show I64 1 by unfold I64; decide), (show I64 ((i : Int) + 1) by unfold I64; omega), (show I64 16 by unfold I64; decide), (show KeyOk (key i) from (by decide : 1 ≤ 140737488351232)), (show LenOk 1 by unfold LenOk; decide), Nat.zero_le _, Nat.zero_le _⟩⟩
  refine ⟨_, 1, 1, rfl, rfl, Nat.le_refl _, by unfold maxLen; omega, (fun e => by cases e), fun j hj => ?_⟩
  obtain rfl : j = 0 := by have : j < 1 := hj; omega
  refine ⟨g, 0, fun j => #[Value.int .i64 (sid i), .int .i64 1, .slice A 3 C].getD j undef, rfl, fun j hj => ?_, rfl, rfl, h w' ht, sid_i64 (by omega), (show I64 1 by unfold I64; decide), (show LenOk (locs st i t).length by rw [hl]; unfold LenOk; decide)⟩
  rw [show 0 + 0 * 3 + j = j by omega]
  rcases (by omega : j = 0 ∨ j = 1 ∨ j = 2) with rfl | rfl | rfl
  · exact (World.cell?_of_block (w := w) (a := ⟨g, 0, none⟩) e).trans c0
  · exact (World.cell?_of_block (w := w) (a := ⟨g, 1, none⟩) e).trans c1
  · exact (World.cell?_of_block (w := w) (a := ⟨g, 2, none⟩) e).trans c2
theorem three_ints (w : World) (x y z : Int) (hx : I64 x) (hy : I64 y) (hz : I64 z) : Ints (w.alloc (.cells #[.int .i64 x, .int .i64 y, .int .i64 z] 3)) (.slice (some ⟨w.heap.size, 0, none⟩) 3 3) [x, y, z] := by
  have h := row_of w #[.int .i64 x, .int .i64 y, .int .i64 z] 3
  refine ⟨_, 3, 3, rfl, rfl, Nat.le_refl _, by unfold maxLen; decide, (fun e => by cases e), fun i hi => ?_⟩
  have hi' : i < 3 := hi
  rcases (by omega : i = 0 ∨ i = 1 ∨ i = 2) with rfl | rfl | rfl
  · exact ⟨_, 0, _, rfl, h.cell (i := 0) (by show 0 < 3; omega), rfl, hx⟩
  · exact ⟨_, 0, _, rfl, h.cell (i := 1) (by show 1 < 3; omega), rfl, hy⟩
  · exact ⟨_, 0, _, rfl, h.cell (i := 2) (by show 2 < 3; omega), rfl, hz⟩
theorem key_conv (w : World) (i : Nat) (hi : i < 99) : ∀ n, w.heap.size = n → (convert 23 9 (.slice (some ⟨n, 0, none⟩) 1 1)).run Tryd.prog (w.alloc (.cells #[.int .u8 (97 + (i : Int))] 5)) = .ok (.string (key i)) (w.alloc (.cells #[.int .u8 (97 + (i : Int))] 5)) := by
  intro n hn
  subst hn
  have h := row_of w #[Value.int .u8 (97 + (i : Int))] 5
  have := run_convert_bytes_arg (P := Tryd.prog) (w.alloc (.cells #[.int .u8 (97 + (i : Int))] 5)) 23 5 Tryd.underlying23 Tryd.underlying5 w.heap.size 0 1 1 [97 + (i : Int)] rfl (fun j hj => by
    obtain rfl : j = 0 := by omega
    exact h.cell (i := 0) (by show 0 < 1; omega)) 9 Tryd.underlying9
  rw [this]
  have e : strOfNums [97 + (i : Int)] = key i := by
    unfold strOfNums key
    rw [List.map_cons, List.map_nil, show (97 + (i : Int)).toNat = 97 + i by omega]
  rw [e]
theorem ints_set {w : World} {v : Value} {l : List Int} (h : Ints w v l) {b o : Nat} {x : Value} (hn : v.ownBlock ≠ some b) : Ints (w.setCell ⟨b, o, none⟩ x) v l :=
  ints_away h (F := fun y => y = b) (fun y q z => hn (by rw [q, z])) _ (Turned.set _ rfl)
/-- one cell of a row of ints -/
def IntN (w : World) (f : Nat → Value) (x : Int) : Prop := IntR w (f 0) x
theorem ints_cells {w : World} {v : Value} {l : List Int} (h : Cells 1 IntN w v l) : Ints w v l := by
  obtain ⟨A, n, C, e, h2, h3, h4, h5, h6⟩ := h
  refine ⟨A, n, C, e, h2, h3, h4, h5, fun i hi => ?_⟩
  obtain ⟨b, o, f, e1, hc, hr⟩ := h6 i hi
  have := hc 0 (by decide)
  rw [Nat.mul_one, Nat.add_zero] at this
  exact ⟨b, o, f 0, e1, this, hr⟩
theorem builtN_turned {w w' : World} {F : Nat → Prop} {base t : Nat} {v : Value} {L : List Int} (h : BuiltN 1 IntN w base t v L) (ht : Turned F w w') (hn : ∀ b, v.ownBlock = some b → ¬ F b) : BuiltN 1 IntN w' base t v L := by
  obtain ⟨xs, h1, h2⟩ := h
  refine ⟨xs, ⟨h1.1, ?_⟩, fun i hi => ?_⟩
  · rcases h1.2 with ⟨e, q⟩ | ⟨g, cap, cur, e, hb, hg, rest⟩
    · exact .inl ⟨e, q⟩
    · exact .inr ⟨g, cap, cur, e, hb, (ht.block g (Array.getElem?_eq_some_iff.1 hg).1 (hn g (by rw [e]; rfl))).trans hg, rest⟩
  · obtain ⟨f, e, hR⟩ := h2 i hi
    exact ⟨f, e, fun w'' _ => hR w (World.grownBy.refl _ _)⟩
/-- behind k objects -/
def ThAt (W : World) (st : List Int) (ts : List Nat) (k p : Nat) (V : Value) (wr : World) : Prop :=
  ∃ F : Nat → Prop, PDt wr F p (tabOf st ts k st 1) ∧ (∀ b, F b → W.heap.size ≤ b) ∧ BuiltN 1 IntN wr W.heap.size 3 V (ids k) ∧ (∀ b, V.ownBlock = some b → ¬ F b) ∧ Below W.heap.size W wr
/-- what the laws' tables are -/
def There (W : World) (st : List Int) (ts : List Nat) (e : Ending) (w' : World) : Prop :=
  ∃ F p V k x ep, e = .returned (.tuple #[.pointer (some ⟨p, 0, none⟩), V]) ∧ PDt w' F p (tabOf st ts k x ep) ∧ (∀ b, F b → W.heap.size ≤ b) ∧ Ints w' V (ids k) ∧ (∀ b, V.ownBlock = some b → ¬ F b) ∧ Below W.heap.size W w' ∧
    ((Tb.DrvOk st ∧ k = ts.length ∧ x = st ∧ ep = 1) ∨ (¬ Tb.DrvOk st ∧ k = 0 ∧ x = [] ∧ ep = 0))
/-- one more object, behind its Apply and the append -/
theorem th_next {W wr w6 w7 w8 : World} {st : List Int} {ts : List Nat} {k p : Nat} {v v' : Value} {F F7 : Nat → Prop} (hx : Below wr.heap.size wr w6) (hW : W.heap.size ≤ wr.heap.size) (hWr : Below W.heap.size W wr) (hF : ∀ b, F b → W.heap.size ≤ b)
    (hv : ∀ b, v.ownBlock = some b → ¬ F b) (hvl : ∀ b, v.ownBlock = some b → b < wr.heap.size) (ht : Turned F w6 w7) (hg : Grown F F7 w6) (hp : PDt w7 F7 p (tabOf st ts (k + 1) st 1)) (hgr : w7.grownBy w8 v.ownBlock) (hb : Below W.heap.size w7 w8)
    (hbu : BuiltN 1 IntN w8 W.heap.size 3 v' (ids (k + 1))) (hat : v'.ownBlock = v.ownBlock ∨ v'.ownBlock = some (w7.heap.size + 1)) : ThAt W st ts (k + 1) p v' w8 := by
  have h7 : ∀ b, F7 b → F b ∨ wr.heap.size ≤ b := fun b q => (hg b q).imp id (fun z => Nat.le_trans hx.size z)
  refine ⟨F7, pd_turned hp (G := fun b => v.ownBlock = some b) (Turned.grown hgr (fun b q => q)) (fun b q z => ?_), fun b q => (h7 b q).elim (hF b) (fun z => Nat.le_trans hW z), hbu, fun b q z => ?_, ?_⟩
  · rcases h7 b z with y | y
    · exact hv b q y
    · have := hvl b q; omega
  · rcases hat with e | e
    · rw [e] at q
      rcases h7 b z with y | y
      · exact hv b q y
      · have := hvl b q; omega
    · rw [e] at q
      have h1 := pd_lt hp b z
      have h2 : w7.heap.size + 1 = b := Option.some.inj q
      omega
  · exact (hWr.trans (hx.mono hW)).trans ((ht.below hF (Nat.le_trans hW hx.size)).trans hb)
set_option maxRecDepth 100000 in
set_option maxHeartbeats 16000000 in
theorem thereC (W : World) (st : List Int) (ts : List Nat) (v u : Value) (hI : Ints W v st) (hB : Bytes W u ts) (hs : st.length ≤ 12) (ht : ts.length ≤ 20) :
    Calls Tryd.prog 6 #[v, u] W (There W st ts) := by
  obtain ⟨A, C, rfl, g1, g2, -⟩ := hI.shape
  obtain ⟨A1, C1, rfl, k1, k2, -⟩ := SliceOf.shape hB
  have HI := Lib.hid hI
  have HBY := Lib.hid hB
  have HS := Lib.hid hs
  obtain ⟨n, hn⟩ : ∃ n, st.length = n := ⟨_, rfl⟩
  obtain ⟨N, hN⟩ : ∃ N, ts.length = N := ⟨_, rfl⟩
  have HN := Lib.hid hn
  have HM := Lib.hid hN
  rw [hn] at hs g1 HI ⊢
  rw [hN] at ht k1 HBY ⊢
  clear hI hB hn hN
  go_enter Tryd.func6, Tryd.ntmps6
  go_wp2_with fail
  refine (newP _).mono ?_
  rintro _ w1 ⟨F, p, rfl, hp, hf, hb⟩
  rw [empty_is st ts] at hp
  have HRP := Lib.hid (recP_sure (ep := 1) (A := A) (C := C) (ints_older (by have := HI.out; rw [← HN.out] at this; exact this) hb hf) (by unfold I64; decide) (by unfold LenOk; have := HS.out; omega))
  rw [HN.out] at HRP
  have HP := Lib.hid hp
  have HF := Lib.hid hf
  have HB := Lib.hid hb
  clear hp hf hb
  go_wp2_with fail
  refine (applyP HP.out (by unfold Few; exact Nat.zero_le _) (recP 1 st) _ HRP.out (Nat.zero_le _) (by have := HS.out; show st.length ≤ _; omega)).mono ?_
  rintro _ w2 ⟨rfl, F2, hp2, ht2, hg2⟩
  rw [pool_step] at hp2 ⊢
  have HB2 := Lib.hid (HB.out.trans (ht2.below HF.out HB.out.size))
  have HF2 := Lib.hid (show ∀ b, F2 b → W.heap.size ≤ b from fun b hb => (hg2 b hb).elim (HF.out b) (fun q => Nat.le_trans HB.out.size q))
  clear ht2 hg2
  by_cases hd : Tb.DrvOk st
  · have hc : (1 : Int) = 0 + 1 ∧ (1 : Int) ≤ 1073741824 ∧ Tb.DrvOk st ∧ ([] : List Int).length ≤ st.length := ⟨rfl, by decide, hd, Nat.zero_le _⟩
    rw [if_pos hc] at hp2 ⊢
    have HP2 := Lib.hid (show PDt w2 F2 p (tabOf st ts 0 st 1) from hp2)
    have HD := Lib.hid hd
    clear hp2 hc hd HP HF HB HRP
    rw [show errI (some (tabOf st ts 0 st 1)).isSome = 0 from rfl]
    have HST := Lib.hid (show ThAt W st ts 0 p (.slice none 0 0) w2 from ⟨F2, HP2.out, HF2.out, BuiltN.start _ _ _ _, (fun b q => by cases q), HB2.out⟩)
    go_wp2
    go_loopw [7, 8] (fun V c wr => ∃ k : Nat, k ≤ N ∧ c = .int .i64 k ∧ ThAt W st ts k p V wr) (fun _ c _ => N - (intOf c).toNat)
    case atStart => exact ⟨0, Nat.zero_le _, rfl, HST.out⟩
    case round =>
      obtain ⟨k, hk, rfl, hth⟩ := hrel
      by_cases hlt : k < N
      · have hk' : k < ts.length := by rw [HM.out]; exact hlt
        obtain ⟨F3, hp3, hf3, hbu3, hn3, hb3⟩ := hth
        obtain ⟨b, o, rfl, c0, ct⟩ := (HBY.out.below hb3).at hk'
        have HTD := Lib.hid (show ts.getD k 0 = ts[k] by simp [List.getD, hk'])
        obtain ⟨t, htt⟩ : ∃ t, ts[k] = t := ⟨_, rfl⟩
        rw [htt] at c0 ct HTD
        have q1 : (0 : Int) ≤ (k : Int) := by omega
        have q2 : (k : Int) < (N : Int) := by omega
        have hlo := locs_ok HS.out k t
        have HLO := Lib.hid hlo.1
        obtain ⟨Av, Cv, e1, hl1, hl2, -⟩ := hbu3.len
        rw [ids_len] at e1 hl1
        subst e1
        obtain ⟨wa, hwa⟩ : ∃ wa, wr.alloc (.cells #[.int .i64 ((t : Int) % 12), .int .i64 (((t : Int) + 1) % 12), .int .i64 (((t : Int) + 2) % 12)] 3) = wa := ⟨_, rfl⟩
        have hsa : wa.heap.size = wr.heap.size + 1 := by rw [← hwa]; simp
        have hba : Below wr.heap.size wr wa := by rw [← hwa]; exact (Below.refl _ _).alloc (Nat.le_refl _) _
        have hia : Ints wa (.slice (some ⟨wr.heap.size, 0, none⟩) 3 3) (atFirst t) := by rw [← hwa]; exact three_ints wr _ _ _ (by unfold I64; omega) (by unfold I64; omega) (by unfold I64; omega)
        obtain ⟨wb, hwb⟩ : ∃ wb, wa.alloc (.cells #[.int .i64 (16 * ((k : Int) + 1)), .int .i64 1, .slice (some ⟨wr.heap.size, 0, none⟩) 3 3] TStp) = wb := ⟨_, rfl⟩
        have hbb : Below wr.heap.size wr wb := by rw [← hwb]; exact hba.alloc hba.size _
        have hrow : wb.rowIs (wr.heap.size + 1) TStp 3 (fun j => #[Value.int .i64 (16 * ((k : Int) + 1)), .int .i64 1, .slice (some ⟨wr.heap.size, 0, none⟩) 3 3].getD j undef) := by rw [← hwb, ← hsa]; exact row_of wa _ _
        have hib : Ints wb (.slice (some ⟨wr.heap.size, 0, none⟩) 3 3) (atFirst t) := by rw [← hwb]; exact hia.below ((Below.refl _ _).alloc (Nat.le_refl _) _)
        have HW := Lib.hid (show (wr.alloc (.cells #[.int .i64 ((t : Int) % 12), .int .i64 (((t : Int) + 1) % 12), .int .i64 (((t : Int) + 2) % 12)] 3)).alloc (.cells #[.int .i64 (16 * ((k : Int) + 1)), .int .i64 1, .slice (some ⟨wr.heap.size, 0, none⟩) 3 3] TStp) = wb by rw [hwa, hwb])
        have HTH := Lib.hid hp3
        have HF3 := Lib.hid hf3
        have HBU3 := Lib.hid hbu3
        have HN3 := Lib.hid hn3
        have HB3 := Lib.hid hb3
        have HBB := Lib.hid hbb
        have HLT := Lib.hid (show wr.heap.size + 1 < wb.heap.size from hrow.lt)
        have HROW := Lib.hid hrow
        have HIB := Lib.hid hib
        have d0 := hrow.cell (i := 0) (by omega)
        have cb := below_cell hbb _ _ c0
        have HFL := Lib.hid (show ∀ b, F3 b → b < wr.heap.size from pd_lt hp3)
        have HVL := Lib.hid (show ∀ b, (Value.slice Av k Cv).ownBlock = some b → b < wr.heap.size from fun b q => (hbu3.own_lt b q).2)
        clear hp3 hf3 hn3 hb3 htt hk' hbu3 hwa hsa hba hia hwb hbb hrow hib hlo
        obtain ⟨B1, hB1⟩ : ∃ B1, wr.heap.size + 1 = B1 := ⟨_, rfl⟩
        have HB1 := Lib.hid hB1
        rw [hB1] at d0 HROW HLT
        go_upto_region 10 with fail
        rw [HW.out]
        clear hB1 c0
        go_wp2_with fail
        refine (refTargets _ (sid k) _ st 3 (by have := HI.out.below (HB3.out.trans (HBB.out.mono HB3.out.size)); exact this) (sid_i64 (by omega)) (by unfold I64; decide) (by have := HS.out; omega)).mono ?_
        rintro _ w3 ⟨u3, rfl, hu3, hb3, hn3⟩
        have hbr : Below wr.heap.size wr w3 := HBB.out.trans (hb3.mono HBB.out.size)
        have hrow3 : w3.rowIs B1 TStp 3 (fun j => #[Value.int .i64 (16 * ((k : Int) + 1)), .int .i64 1, .slice (some ⟨wr.heap.size, 0, none⟩) 3 3].getD j undef) := HROW.out.of_block (hb3.block _ HROW.out.lt)
        have cc := below_cell hb3 _ _ cb
        have HI3 := Lib.hid (HIB.out.below hb3)
        have HBR := Lib.hid hbr
        have HROW3 := Lib.hid hrow3
        have HN3T := Lib.hid (show ∀ b, u3.ownBlock = some b → wr.heap.size ≤ b from fun b q => Nat.le_trans HBB.out.size (hn3 b q))
        have HU3 := Lib.hid hu3
        have HN3B := Lib.hid (show ∀ b, u3.ownBlock = some b → wb.heap.size ≤ b from hn3)
        have r0 := hrow3.cell (i := 0) (by omega)
        have f2 := hrow3.frozen 2
        obtain ⟨A3, C3, rfl, -, -, -⟩ := hu3.shape
        clear hu3 hb3 hn3 hbr hrow3 d0 cb
        cases hok : tgtOk st 3
        · have HNM := Lib.hid (show locs st k t = atFirst t by unfold locs; rw [if_neg (by rw [hok]; simp)])
          obtain ⟨m3, hm3⟩ : ∃ m3, (tgt (sid k) st 3).length = m3 := ⟨_, rfl⟩
          rw [hm3]
          clear hok hm3
          go_upto_region 13 with fail
          have r1 := HROW3.out.cell (i := 1) (by omega)
          have r2 := HROW3.out.cell (i := 2) (by omega)
          have HSU := Lib.hid (show ∀ w6, Below w3.heap.size w3 w6 → Sure F3 w6 (fun w' => Ints w' (.slice (some ⟨wr.heap.size, 0, none⟩) 3 3) (locs st k t)) from fun w6 hx => ints_away (by rw [HNM.out]; exact HI3.out.below hx) (fun b q z => by cases q; exact absurd (HFL.out _ z) (Nat.lt_irrefl _)))
          have kc := key_conv w3 k (by omega) w3.heap.size rfl
          obtain ⟨wc, hwc⟩ : ∃ wc, w3.alloc (.cells #[.int .u8 (97 + (k : Int))] 5) = wc := ⟨_, rfl⟩
          have hsc : wc.heap.size = w3.heap.size + 1 := by rw [← hwc]; simp
          obtain ⟨w6, hw6⟩ : ∃ w6, wc.alloc (.cells #[.int .i64 (16 * ((k : Int) + 1)), .int .i64 1, .slice (some ⟨wr.heap.size, 0, none⟩) 3 3] TStp) = w6 := ⟨_, rfl⟩
          have hb6 : Below w3.heap.size w3 w6 := by rw [← hw6, ← hwc]; exact ((Below.refl _ _).alloc (Nat.le_refl _) _).alloc (by simp) _
          have hrow6 : w6.rowIs (w3.heap.size + 1) TStp 3 (fun j => #[Value.int .i64 (16 * ((k : Int) + 1)), .int .i64 1, .slice (some ⟨wr.heap.size, 0, none⟩) 3 3].getD j undef) := by rw [← hw6, ← hsc]; exact row_of wc _ _
          have HREC := Lib.hid (recO_sure (w := w6) (F := F3) (g := w3.heap.size + 1) (st := st) (i := k) (t := t) (by omega) (fun q => by have := HFL.out _ q; have := HBR.out.size; omega) (hrow6.cell (i := 0) (by omega)) (hrow6.cell (i := 1) (by omega)) (hrow6.cell (i := 2) (by omega)) HLO.out (HSU.out w6 hb6))
          have HW6 := Lib.hid (show (w3.alloc (.cells #[.int .u8 (97 + (k : Int))] 5)).alloc (.cells #[.int .i64 (16 * ((k : Int) + 1)), .int .i64 1, .slice (some ⟨wr.heap.size, 0, none⟩) 3 3] TStp) = w6 by rw [hwc, hw6])
          have HB6 := Lib.hid (HBR.out.trans (hb6.mono HBR.out.size))
          have c6 := below_cell hb6 _ _ r0
          have s0 : (w3.alloc (.cells #[.int .u8 (97 + (k : Int))] 5)).cell? ⟨B1, 0, none⟩ = some (.int .i64 (16 * ((k : Int) + 1))) := below_cell ((Below.refl _ _).alloc (Nat.le_refl _) _) _ _ r0
          have s1 : (w3.alloc (.cells #[.int .u8 (97 + (k : Int))] 5)).cell? ⟨B1, 1, none⟩ = some (.int .i64 1) := below_cell ((Below.refl _ _).alloc (Nat.le_refl _) _) _ _ r1
          have s2 : (w3.alloc (.cells #[.int .u8 (97 + (k : Int))] 5)).cell? ⟨B1, 2, none⟩ = some (.slice (some ⟨wr.heap.size, 0, none⟩) 3 3) := below_cell ((Below.refl _ _).alloc (Nat.le_refl _) _) _ _ r2
          clear hwc hsc hw6 hb6 hrow6 r0 r1 r2
          go_wp2_with fail
          rw [HW6.out]
          clear s0 s1 s2 kc
          refine (applyP (pd_below HTH.out HB6.out) (by unfold Few; show (objs st ts k).length ≤ 1000; rw [objs_len]; omega) (recO st k t) _ HREC.out (Nat.zero_le _) (Nat.zero_le _)).mono ?_
          rintro _ w7 ⟨rfl, F7, hp7, ht7, hg7⟩
          have hps := put_step HS.out ts (k := k) (by omega) st 1
          rw [HTD.out] at hps
          rw [hps] at hp7 ⊢
          rw [show errI (some (tabOf st ts (k + 1) st 1)).isSome = 0 from rfl]
          have HP7 := Lib.hid (show PDt w7 F7 p (tabOf st ts (k + 1) st 1) from hp7)
          have HT7 := Lib.hid ht7
          have HG7 := Lib.hid hg7
          have e7 : w7.cell? ⟨B1, 0, none⟩ = some (.int .i64 (16 * ((k : Int) + 1))) := (World.cell?_of_block (w := w6) (a := ⟨B1, 0, none⟩) (ht7.block B1 (World.block_lt_of_cell? _ _ c6) (fun q => by have := HFL.out _ q; have := HB1.out; omega))).trans c6
          have HBU7 := Lib.hid (builtN_turned (HBU3.out.below HB6.out) ht7 HN3.out)
          have HIDS := Lib.hid (show ids (k + 1) = ids k ++ [16 * ((k : Int) + 1)] from ids_succ k)
          have HS7 := Lib.hid (show W.heap.size ≤ w7.heap.size from Nat.le_trans HB3.out.size (Nat.le_trans HB6.out.size ht7.size))
          clear hp7 ht7 hg7 hps c6
          go_wp2_with (at_builtin; refine wpList_append_builtN (k := 1) (R := IntN) _ rfl (.tmp 75) (.tmp 78) 22 rfl W.heap.size 3 (.int .i64 0) 8 Tryd.underlying22 Rk.infoInt rfl (by decide) _ _ rfl HBU7.out #[.int .i64 (16 * ((k : Int) + 1))] (16 * ((k : Int) + 1)) _ rfl rfl rfl (by intro u hu; rw [List.mem_singleton.1 hu]; rfl) (fun _ _ => ⟨rfl, by omega, by omega⟩) (by rw [ids_len]; omega) HS7.out ?_; intro v' w8 hbu8 hg8 hb8 hat8; have HX := Lib.hid (th_next HB6.out HB3.out.size HB3.out HF3.out HN3.out HVL.out HT7.out HG7.out HP7.out hg8 hb8 (by rw [HIDS.out]; exact hbu8) hat8); obtain ⟨A8, C8, e8, -⟩ := hbu8.len; obtain ⟨L8, hL8⟩ : ∃ L8, (ids k ++ [16 * ((k : Int) + 1)]).length = L8 := ⟨_, rfl⟩; rw [hL8] at e8; subst e8; clear hbu8 hg8 hb8 hat8 hL8)
          go_roundw
          case rel => exact ⟨k + 1, by omega, by go_num, HX.out⟩
          case measure => simp [intOf]; omega
        · have hm3 : (tgt (sid k) st 3).length = 3 := tgt_len hok
          rw [hm3]
          have hu3 := HU3.out
          rw [hm3] at hu3 HN3T HN3B
          have HU3' := Lib.hid hu3
          have HOK := Lib.hid hok
          clear hok hm3 hu3
          by_cases hbig : 128 ≤ t
          · have HNM := Lib.hid (show locs st k t = tgt (sid k) st 3 by unfold locs; rw [if_pos ⟨HOK.out, hbig⟩])
            have d1 : decide (128 ≤ (t : Int)) = true := by simp; omega
            have d2 : (128 : Int) ≤ (t : Int) := by omega
            obtain ⟨w4, hw4⟩ : ∃ w4, w3.setCell ⟨B1, 2, none⟩ (.slice A3 3 C3) = w4 := ⟨_, rfl⟩
            have hrow4 := HROW3.out.set 2 (.slice A3 3 C3)
            rw [hw4] at hrow4
            have hb4 : Below wr.heap.size w3 w4 := by rw [← hw4]; exact (Below.refl _ _).setCell (by show wr.heap.size ≤ B1; have := HB1.out; omega) _
            have hu4 : Ints w4 (.slice A3 3 C3) (tgt (sid k) st 3) := by rw [← hw4]; exact ints_set HU3'.out (fun e => by have := HN3B.out _ e; have := HLT.out; omega)
            have HB4 := Lib.hid (HBR.out.trans hb4)
            have HU4 := Lib.hid hu4
            have HW4 := Lib.hid hw4
            have HROW4 := Lib.hid hrow4
            have rr : ∃ z, w3.cell? ⟨B1, 2, none⟩ = some z := ⟨_, HROW3.out.cell (i := 2) (by omega)⟩
            obtain ⟨z2, rz⟩ := rr
            clear hbig hw4 hrow4 hb4 hu4
            go_upto_region 13 with fail
            rw [HW4.out]
            clear rz r0 f2
            have r0 := HROW4.out.cell (i := 0) (by omega)
            have r1 := HROW4.out.cell (i := 1) (by omega)
            have r2 := HROW4.out.cell (i := 2) (by omega)
            have HSU := Lib.hid (show ∀ w6, Below w4.heap.size w4 w6 → Sure F3 w6 (fun w' => Ints w' (.slice A3 3 C3) (locs st k t)) from fun w6 hx => ints_away (by rw [HNM.out]; exact HU4.out.below hx) (fun b q z => by have := HN3T.out b q; have := HFL.out _ z; omega))
            have kc := key_conv w4 k (by omega) w4.heap.size rfl
            obtain ⟨wc, hwc⟩ : ∃ wc, w4.alloc (.cells #[.int .u8 (97 + (k : Int))] 5) = wc := ⟨_, rfl⟩
            have hsc : wc.heap.size = w4.heap.size + 1 := by rw [← hwc]; simp
            obtain ⟨w6, hw6⟩ : ∃ w6, wc.alloc (.cells #[.int .i64 (16 * ((k : Int) + 1)), .int .i64 1, .slice A3 3 C3] TStp) = w6 := ⟨_, rfl⟩
            have hb6 : Below w4.heap.size w4 w6 := by rw [← hw6, ← hwc]; exact ((Below.refl _ _).alloc (Nat.le_refl _) _).alloc (by simp) _
            have hrow6 : w6.rowIs (w4.heap.size + 1) TStp 3 (fun j => #[Value.int .i64 (16 * ((k : Int) + 1)), .int .i64 1, .slice A3 3 C3].getD j undef) := by rw [← hw6, ← hsc]; exact row_of wc _ _
            have HREC := Lib.hid (recO_sure (w := w6) (F := F3) (g := w4.heap.size + 1) (st := st) (i := k) (t := t) (by omega) (fun q => by have := HFL.out _ q; have := HB4.out.size; omega) (hrow6.cell (i := 0) (by omega)) (hrow6.cell (i := 1) (by omega)) (hrow6.cell (i := 2) (by omega)) HLO.out (HSU.out w6 hb6))
            have HW6 := Lib.hid (show (w4.alloc (.cells #[.int .u8 (97 + (k : Int))] 5)).alloc (.cells #[.int .i64 (16 * ((k : Int) + 1)), .int .i64 1, .slice A3 3 C3] TStp) = w6 by rw [hwc, hw6])
            have HB6 := Lib.hid (HB4.out.trans (hb6.mono HB4.out.size))
            have c6 := below_cell hb6 _ _ r0
            have s0 : (w4.alloc (.cells #[.int .u8 (97 + (k : Int))] 5)).cell? ⟨B1, 0, none⟩ = some (.int .i64 (16 * ((k : Int) + 1))) := below_cell ((Below.refl _ _).alloc (Nat.le_refl _) _) _ _ r0
            have s1 : (w4.alloc (.cells #[.int .u8 (97 + (k : Int))] 5)).cell? ⟨B1, 1, none⟩ = some (.int .i64 1) := below_cell ((Below.refl _ _).alloc (Nat.le_refl _) _) _ _ r1
            have s2 : (w4.alloc (.cells #[.int .u8 (97 + (k : Int))] 5)).cell? ⟨B1, 2, none⟩ = some (.slice A3 3 C3) := below_cell ((Below.refl _ _).alloc (Nat.le_refl _) _) _ _ r2
            clear hwc hsc hw6 hb6 hrow6 r0 r1 r2
            go_wp2_with fail
            rw [HW6.out]
            clear s0 s1 s2 kc
            refine (applyP (pd_below HTH.out HB6.out) (by unfold Few; show (objs st ts k).length ≤ 1000; rw [objs_len]; omega) (recO st k t) _ HREC.out (Nat.zero_le _) (Nat.zero_le _)).mono ?_
            rintro _ w7 ⟨rfl, F7, hp7, ht7, hg7⟩
            have hps := put_step HS.out ts (k := k) (by omega) st 1
            rw [HTD.out] at hps
            rw [hps] at hp7 ⊢
            rw [show errI (some (tabOf st ts (k + 1) st 1)).isSome = 0 from rfl]
            have HP7 := Lib.hid (show PDt w7 F7 p (tabOf st ts (k + 1) st 1) from hp7)
            have HT7 := Lib.hid ht7
            have HG7 := Lib.hid hg7
            have e7 : w7.cell? ⟨B1, 0, none⟩ = some (.int .i64 (16 * ((k : Int) + 1))) := (World.cell?_of_block (w := w6) (a := ⟨B1, 0, none⟩) (ht7.block B1 (World.block_lt_of_cell? _ _ c6) (fun q => by have := HFL.out _ q; have := HB1.out; omega))).trans c6
            have HBU7 := Lib.hid (builtN_turned (HBU3.out.below HB6.out) ht7 HN3.out)
            have HIDS := Lib.hid (show ids (k + 1) = ids k ++ [16 * ((k : Int) + 1)] from ids_succ k)
            have HS7 := Lib.hid (show W.heap.size ≤ w7.heap.size from Nat.le_trans HB3.out.size (Nat.le_trans HB6.out.size ht7.size))
            clear hp7 ht7 hg7 hps c6
            go_wp2_with (at_builtin; refine wpList_append_builtN (k := 1) (R := IntN) _ rfl (.tmp 75) (.tmp 78) 22 rfl W.heap.size 3 (.int .i64 0) 8 Tryd.underlying22 Rk.infoInt rfl (by decide) _ _ rfl HBU7.out #[.int .i64 (16 * ((k : Int) + 1))] (16 * ((k : Int) + 1)) _ rfl rfl rfl (by intro u hu; rw [List.mem_singleton.1 hu]; rfl) (fun _ _ => ⟨rfl, by omega, by omega⟩) (by rw [ids_len]; omega) HS7.out ?_; intro v' w8 hbu8 hg8 hb8 hat8; have HX := Lib.hid (th_next HB6.out HB3.out.size HB3.out HF3.out HN3.out HVL.out HT7.out HG7.out HP7.out hg8 hb8 (by rw [HIDS.out]; exact hbu8) hat8); obtain ⟨A8, C8, e8, -⟩ := hbu8.len; obtain ⟨L8, hL8⟩ : ∃ L8, (ids k ++ [16 * ((k : Int) + 1)]).length = L8 := ⟨_, rfl⟩; rw [hL8] at e8; subst e8; clear hbu8 hg8 hb8 hat8 hL8)
            go_roundw
            case rel => exact ⟨k + 1, by omega, by go_num, HX.out⟩
            case measure => simp [intOf]; omega
          · have HNM := Lib.hid (show locs st k t = atFirst t by unfold locs; rw [if_neg (fun q => hbig q.2)])
            have d1 : decide (128 ≤ (t : Int)) = false := by simp; omega
            have d2 : ¬ (128 : Int) ≤ (t : Int) := by omega
            clear hbig
            go_upto_region 13 with fail
            have r1 := HROW3.out.cell (i := 1) (by omega)
            have r2 := HROW3.out.cell (i := 2) (by omega)
            have HSU := Lib.hid (show ∀ w6, Below w3.heap.size w3 w6 → Sure F3 w6 (fun w' => Ints w' (.slice (some ⟨wr.heap.size, 0, none⟩) 3 3) (locs st k t)) from fun w6 hx => ints_away (by rw [HNM.out]; exact HI3.out.below hx) (fun b q z => by cases q; exact absurd (HFL.out _ z) (Nat.lt_irrefl _)))
            have kc := key_conv w3 k (by omega) w3.heap.size rfl
            obtain ⟨wc, hwc⟩ : ∃ wc, w3.alloc (.cells #[.int .u8 (97 + (k : Int))] 5) = wc := ⟨_, rfl⟩
            have hsc : wc.heap.size = w3.heap.size + 1 := by rw [← hwc]; simp
            obtain ⟨w6, hw6⟩ : ∃ w6, wc.alloc (.cells #[.int .i64 (16 * ((k : Int) + 1)), .int .i64 1, .slice (some ⟨wr.heap.size, 0, none⟩) 3 3] TStp) = w6 := ⟨_, rfl⟩
            have hb6 : Below w3.heap.size w3 w6 := by rw [← hw6, ← hwc]; exact ((Below.refl _ _).alloc (Nat.le_refl _) _).alloc (by simp) _
            have hrow6 : w6.rowIs (w3.heap.size + 1) TStp 3 (fun j => #[Value.int .i64 (16 * ((k : Int) + 1)), .int .i64 1, .slice (some ⟨wr.heap.size, 0, none⟩) 3 3].getD j undef) := by rw [← hw6, ← hsc]; exact row_of wc _ _
            have HREC := Lib.hid (recO_sure (w := w6) (F := F3) (g := w3.heap.size + 1) (st := st) (i := k) (t := t) (by omega) (fun q => by have := HFL.out _ q; have := HBR.out.size; omega) (hrow6.cell (i := 0) (by omega)) (hrow6.cell (i := 1) (by omega)) (hrow6.cell (i := 2) (by omega)) HLO.out (HSU.out w6 hb6))
            have HW6 := Lib.hid (show (w3.alloc (.cells #[.int .u8 (97 + (k : Int))] 5)).alloc (.cells #[.int .i64 (16 * ((k : Int) + 1)), .int .i64 1, .slice (some ⟨wr.heap.size, 0, none⟩) 3 3] TStp) = w6 by rw [hwc, hw6])
            have HB6 := Lib.hid (HBR.out.trans (hb6.mono HBR.out.size))
            have c6 := below_cell hb6 _ _ r0
            have s0 : (w3.alloc (.cells #[.int .u8 (97 + (k : Int))] 5)).cell? ⟨B1, 0, none⟩ = some (.int .i64 (16 * ((k : Int) + 1))) := below_cell ((Below.refl _ _).alloc (Nat.le_refl _) _) _ _ r0
            have s1 : (w3.alloc (.cells #[.int .u8 (97 + (k : Int))] 5)).cell? ⟨B1, 1, none⟩ = some (.int .i64 1) := below_cell ((Below.refl _ _).alloc (Nat.le_refl _) _) _ _ r1
            have s2 : (w3.alloc (.cells #[.int .u8 (97 + (k : Int))] 5)).cell? ⟨B1, 2, none⟩ = some (.slice (some ⟨wr.heap.size, 0, none⟩) 3 3) := below_cell ((Below.refl _ _).alloc (Nat.le_refl _) _) _ _ r2
            clear hwc hsc hw6 hb6 hrow6 r0 r1 r2
            go_wp2_with fail
            rw [HW6.out]
            clear s0 s1 s2 kc
            refine (applyP (pd_below HTH.out HB6.out) (by unfold Few; show (objs st ts k).length ≤ 1000; rw [objs_len]; omega) (recO st k t) _ HREC.out (Nat.zero_le _) (Nat.zero_le _)).mono ?_
            rintro _ w7 ⟨rfl, F7, hp7, ht7, hg7⟩
            have hps := put_step HS.out ts (k := k) (by omega) st 1
            rw [HTD.out] at hps
            rw [hps] at hp7 ⊢
            rw [show errI (some (tabOf st ts (k + 1) st 1)).isSome = 0 from rfl]
            have HP7 := Lib.hid (show PDt w7 F7 p (tabOf st ts (k + 1) st 1) from hp7)
            have HT7 := Lib.hid ht7
            have HG7 := Lib.hid hg7
            have e7 : w7.cell? ⟨B1, 0, none⟩ = some (.int .i64 (16 * ((k : Int) + 1))) := (World.cell?_of_block (w := w6) (a := ⟨B1, 0, none⟩) (ht7.block B1 (World.block_lt_of_cell? _ _ c6) (fun q => by have := HFL.out _ q; have := HB1.out; omega))).trans c6
            have HBU7 := Lib.hid (builtN_turned (HBU3.out.below HB6.out) ht7 HN3.out)
            have HIDS := Lib.hid (show ids (k + 1) = ids k ++ [16 * ((k : Int) + 1)] from ids_succ k)
            have HS7 := Lib.hid (show W.heap.size ≤ w7.heap.size from Nat.le_trans HB3.out.size (Nat.le_trans HB6.out.size ht7.size))
            clear hp7 ht7 hg7 hps c6
            go_wp2_with (at_builtin; refine wpList_append_builtN (k := 1) (R := IntN) _ rfl (.tmp 75) (.tmp 78) 22 rfl W.heap.size 3 (.int .i64 0) 8 Tryd.underlying22 Rk.infoInt rfl (by decide) _ _ rfl HBU7.out #[.int .i64 (16 * ((k : Int) + 1))] (16 * ((k : Int) + 1)) _ rfl rfl rfl (by intro u hu; rw [List.mem_singleton.1 hu]; rfl) (fun _ _ => ⟨rfl, by omega, by omega⟩) (by rw [ids_len]; omega) HS7.out ?_; intro v' w8 hbu8 hg8 hb8 hat8; have HX := Lib.hid (th_next HB6.out HB3.out.size HB3.out HF3.out HN3.out HVL.out HT7.out HG7.out HP7.out hg8 hb8 (by rw [HIDS.out]; exact hbu8) hat8); obtain ⟨A8, C8, e8, -⟩ := hbu8.len; obtain ⟨L8, hL8⟩ : ∃ L8, (ids k ++ [16 * ((k : Int) + 1)]).length = L8 := ⟨_, rfl⟩; rw [hL8] at e8; subst e8; clear hbu8 hg8 hb8 hat8 hL8)
            go_roundw
            case rel => exact ⟨k + 1, by omega, by go_num, HX.out⟩
            case measure => simp [intOf]; omega
      · obtain rfl : k = N := by omega
        obtain ⟨F3, hp3, hf3, hbu3, hn3, hb3⟩ := hth
        obtain ⟨Av, Cv, e1, hl1, hl2, -⟩ := hbu3.len
        rw [ids_len] at e1 hl1
        subst e1
        have HX := Lib.hid (show There W st ts (.returned (.tuple #[.pointer (some ⟨p, 0, none⟩), .slice Av k Cv])) wr from ⟨F3, p, _, k, st, 1, rfl, hp3, hf3, ints_cells hbu3.cells, hn3, hb3, .inl ⟨HD.out, HM.out.symm, rfl, rfl⟩⟩)
        clear hp3 hf3 hbu3 hn3 hb3
        go_wp2
        go_ret2
        exact HX.out
  · have hc : ¬ ((1 : Int) = 0 + 1 ∧ (1 : Int) ≤ 1073741824 ∧ Tb.DrvOk st ∧ ([] : List Int).length ≤ st.length) := fun q => hd q.2.2.1
    rw [if_neg hc] at hp2 ⊢
    have HX := Lib.hid (show There W st ts (.returned (.tuple #[.pointer (some ⟨p, 0, none⟩), .slice none 0 0])) w2 from ⟨F2, p, _, 0, [], 0, rfl, hp2, HF2.out, Ints.nil _, (fun b q => by cases q), HB2.out, .inr ⟨hd, rfl, rfl, rfl⟩⟩)
    rw [show errI (none : Option Tb.TabD).isSome = 2 from rfl]
    clear hp2 hc hd
    go_wp2
    go_ret2
    exact HX.out
end Go.Proofs.YtegbgnjmkohcfaaDoor.Pl
