/- The program's Parse. -/
import Derived.Test.YtegnheonncoodaaDoorScPsA
import Derived.Test.YtegnheonncoodaaDoorRound
import Derived.RegionTactic
namespace Go.Proofs.YtegnheonncoodaaDoor.Scr
set_option linter.unusedVariables false
open Go.ChangeShapes Go.WideShapes Go.ChangeAt Go.RowKit Go.Shelf
open Go.Mem Sc
attribute [local go_sem] Oper.semAt_some
/-- what Parse answers -/
def ParseP (t : List UInt8) (w : World) (e : Ending) (w' : World) : Prop := Below w.heap.size w w' ∧ match parseL [] (lines t) with
  | .ok L => ∃ V, e = .returned (.tuple #[V, .int .i64 0, .int .i64 0]) ∧ Steps w' V L
  | .bad n => e = .returned (.tuple #[.slice none 0 0, .int .i64 (n : Nat), .int .i64 13])
/-- the boxes, at the beginning -/
def W0 (w : World) (t : List UInt8) : World := (((((w.alloc (.cells #[.slice none 0 0] TL)).alloc (.cells #[.int .i64 0] TI)).alloc (.cells #[.int .i64 0] TE)).alloc (.cells #[.slice none 0 0] TL)).alloc (.cells #[.int .i64 0] TI)).alloc (.cells #[.string (str t)] 9)
theorem w0_size (w : World) (t : List UInt8) : (W0 w t).heap.size = w.heap.size + 6 := by simp [W0]
theorem w0_below (w : World) (t : List UInt8) : Below w.heap.size w (W0 w t) := by
  have h : ∀ {W : World} (o : Obj), Below w.heap.size w W → Below w.heap.size w (W.alloc o) := fun o hb => hb.alloc hb.size o
  exact h _ (h _ (h _ (h _ (h _ (h _ (Below.refl _ _))))))
theorem box_at {W : World} {n t : Nat} {v : Value} (h : W.heap.size = n) : Boxed (W.alloc (.cells #[v] t)) n t v := by subst h; exact Boxed.new _ _ _
theorem w0_mid (w : World) (t : List UInt8) : Mid w 0 [] (W0 w t) := by
  refine ⟨⟨.slice none 0 0, fun _ => False, lst_start _ _, ?_⟩, ?_, ?_, ?_, ?_, w0_below w t, Nat.le_of_eq (w0_size w t).symm⟩
  · exact ((box_at (by simp)).alloc _).alloc _
  · exact (box_at (by simp)).alloc _
  · exact (((((box_at rfl).alloc _).alloc _).alloc _).alloc _).alloc _
  · exact ((((box_at (by simp)).alloc _).alloc _).alloc _).alloc _
  · exact (((box_at (by simp)).alloc _).alloc _).alloc _
theorem w0_left (w : World) (t : List UInt8) : Left (w.heap.size + 5) t (W0 w t) := by
  have h := row_of (((((w.alloc (.cells #[.slice none 0 0] TL)).alloc (.cells #[.int .i64 0] TI)).alloc (.cells #[.int .i64 0] TE)).alloc (.cells #[.slice none 0 0] TL)).alloc (.cells #[.int .i64 0] TI)) #[.string (str t)] 9
  rw [show (((((w.alloc (.cells #[.slice none 0 0] TL)).alloc (.cells #[.int .i64 0] TI)).alloc (.cells #[.int .i64 0] TE)).alloc (.cells #[.slice none 0 0] TL)).alloc (.cells #[.int .i64 0] TI)).heap.size = w.heap.size + 5 by simp] at h
  exact h.congr fun i hi => by
    have : i = 0 := by
      have : i < 1 := hi
      omega
    subst this; rfl
theorem undig_len (f : List UInt8) : (undig f).length ≤ f.length := by
  unfold undig
  refine Nat.le_trans (pairs_len _) ?_
  rw [List.length_drop]; omega
theorem readF_small (x : Ln) : Small (readF x.1) := by
  have h0 := x.2
  have h1 := aft_len x.1
  have h2 := aft_len (aft x.1)
  have h3 := aft_len (aft (aft x.1))
  have h4 := aft_len (aft (aft (aft x.1)))
  have h5 := bef_len (aft (aft (aft x.1)))
  have h6 := undig_len (bef (aft (aft (aft x.1))))
  have h7 := undig_len (aft (aft (aft (aft x.1))))
  exact ⟨by show (undig (bef (aft (aft (aft x.1))))).length ≤ _; omega, by show (undig (aft (aft (aft (aft x.1))))).length ≤ _; omega⟩
def BadAt (pre : List (List UInt8)) : Prop := ∃ p l, pre = p ++ [l] ∧ (∀ x ∈ p, good x) ∧ ¬ good l
set_option maxRecDepth 100000 in
set_option maxHeartbeats 8000000 in
theorem parseC (t : List UInt8) (ht : t.length ≤ 1000000) (w : World) (hT : Tabs w) : Calls Tryd.prog 11 #[.string (str t)] w (ParseP t w) := by
  refine (callsIn_wide (n := 3)).1 (callsIn_of_wp_marks Tryd.func11 rfl trivial ?_ rfl)
  simp only [Tryd.ntmps11, List.size_toArray, List.length_cons, List.length_nil, Nat.reduceAdd, Nat.reduceSub, Array.replicate_succ, Array.replicate_zero, List.push_toArray, List.append_toArray, List.nil_append, List.cons_append]
  refine wpIn_wide.2 ?_
  go_wp2_with fail
  refine (linesC t _).mono ?_
  rintro _ w2 ⟨rfl, rfl⟩
  go_wp2_with fail
  rw [show (((((w.alloc (.cells #[.slice none 0 0] TL)).alloc (.cells #[.int .i64 0] TI)).alloc (.cells #[.int .i64 0] TE)).alloc (.cells #[.slice none 0 0] TL)).alloc (.cells #[.int .i64 0] TI)).alloc (.cells #[.string (str t)] 9) = W0 w t from rfl]
  have hsz := w0_size w t
  have hM0 := w0_mid w t
  have hL0 := w0_left w t
  generalize W0 w t = w0 at hsz hM0 hL0
  refine wpIn_wide.1 (wpIn_range_turn (n := 3) (F := Fence.wide) rfl (by omega) (gf := 26) (lb := #[.pointer (some ⟨w.heap.size + 5, 0, none⟩)]) rfl trivial (enters_of Tryd.func26 (by kernel_rfl) rfl) (b := w.heap.size + 5) (by omega)
    (lines_tell (3 - 1) (by omega) (w.heap.size + 5) t ht w0 (by omega) hL0) (fun _ => rfl)
    (fun pre W => (∀ l ∈ raw pre, good l) ∧ Mid w pre.length ((raw pre).map readF) W) (fun pre W => BadAt (raw pre) ∧ Ends w pre.length W) ?hI ?hIr ⟨fun l hl => (by cases hl), hM0⟩ ?a₁ ?assign ?body ?done ?stop)
  case hI => rw [hsz]; exact mid_kept w _ _ _
  case hIr => rw [hsz]; exact ends_kept w _ _
  case assign =>
    intro l x W K hK
    gi_wp2
    exact hK
  case body =>
    rintro l pre x W ⟨hg, hM⟩ hlt
    rw [hsz]
    obtain ⟨L0, hL⟩ : ∃ L0, (raw pre).map readF = L0 := ⟨_, rfl⟩
    have hLl : L0.length ≤ 1000000 := by rw [← hL, List.length_map, raw_len]; omega
    rw [hL] at hM
    have HL := Lib.hid hL
    clear hL
    have HSZ := Lib.hid hsz
    clear hsz hM0 hL0
    have c4 : W.cell? ⟨w.heap.size + 1 + 1 + 1 + 1, 0, none⟩ = some (.int .i64 (pre.length : Nat)) := hM.nu.cell
    have f4 : W.frozen? ⟨w.heap.size + 1 + 1 + 1 + 1, 0, none⟩ = false := hM.nu.frozen
    obtain ⟨W1, hW1⟩ : ∃ W1, W.setCell ⟨w.heap.size + 1 + 1 + 1 + 1, 0, none⟩ (.int .i64 ((pre.length : Int) + 1)) = W1 := ⟨_, rfl⟩
    have t1 : Turned (fun b => b = w.heap.size + 4) W W1 := by rw [← hW1]; exact Turned.set _ rfl
    have n1 : Boxed W1 (w.heap.size + 4) TI (.int .i64 ((pre.length : Int) + 1)) := by rw [← hW1]; exact hM.nu.set _
    have HT1 := Lib.hid t1
    have HN1 := Lib.hid n1
    have HB1 := Lib.hid (hM.be.trans (t1.below (B := w.heap.size) (fun b q => by omega) hM.be.size))
    have hT1 : Tabs W1 := hT.below HB1.out
    have HM := Lib.hid hM
    have HG := Lib.hid hg
    have hrd := readC x.1 x.2 W1 hT1
    have hsm := readF_small x
    have hok := readF_ok x.1
    obtain ⟨y, hy⟩ : ∃ y, readF x.1 = y := ⟨_, rfl⟩
    rw [hy] at hrd hsm hok
    have HY := Lib.hid hy
    have HRD := Lib.hid hrd
    have HSM := Lib.hid hsm
    have HOK := Lib.hid hok
    clear t1 n1 hM hg hy hrd hsm hok
    gi_wp2_with (refine ⟨trivial, ?_⟩; gi_at_call 17; refine (CallsIn.inRound l (callsIn_wide.2 HRD.out)).mono ?_; rintro e W2 ⟨A, C, rfl, hon, hown, hb2⟩; unfold stepVal; obtain ⟨W3, hW3⟩ : ∃ W3, W2.alloc (.cells #[.int .i64 y.kind, .int .i64 y.a, .string (str y.key), .slice A y.data.length C, .int .u64 (y.keep : Nat)] TStep) = W3 := ⟨_, rfl⟩; have r3 : Box5 W3 W2.heap.size (.int .i64 y.kind) (.int .i64 y.a) (.string (str y.key)) (.slice A y.data.length C) (.int .u64 (y.keep : Nat)) := (by rw [← hW3]; exact Box5.new _ _ _ _ _ _); have d0 := r3.c0; have d1 := r3.c1; have d2 := r3.c2; have d3 := r3.c3; have d4 := r3.c4; have hb3 : Below W2.heap.size W2 W3 := (by rw [← hW3]; exact (Below.refl _ _).alloc (Nat.le_refl _) _); have R3 := Lib.hid r3; clear r3)
    have hb13 : Below W1.heap.size W1 W3 := hb2.trans (hb3.mono hb2.size)
    have hB3 : Below w.heap.size w W3 := HB1.out.trans (hb13.mono HB1.out.size)
    have hby3 : Bytes W3 (.slice A y.data.length C) (nums y.data) := hon.here.below hb3
    refine ⟨trivial, (CallsIn.inRound l (callsIn_wide.2 (writeC y HOK.out HSM.out A C W3 hby3 (hT.below hB3)))).mono ?_⟩
    rintro e W4 ⟨rfl, hb4⟩
    have hb14 : Below W1.heap.size W1 W4 := hb13.trans (hb4.mono hb13.size)
    have t4 : Turned (fun b => b = w.heap.size + 4) W W4 := HT1.out.trans (Turned.of_below (fun b => b = w.heap.size + 4) hb14) (Grown.refl _ _)
    have HT4 := Lib.hid t4
    have HN4 := Lib.hid (box_turned HN1.out (Turned.of_below (fun _ => False) hb14) (fun q => q))
    have HB4 := Lib.hid (HB1.out.trans (hb14.mono HB1.out.size))
    have R4 := Lib.hid (R3.out.below hb4)
    have e0 := R4.out.c0
    have e1 := R4.out.c1
    have e2 := R4.out.c2
    have e3 := R4.out.c3
    have e4 := R4.out.c4
    obtain ⟨V, K, hli, hbl⟩ := HM.out.li
    have hl4 := hli.turned t4 (fun b q => .inl (by omega))
    have b3 := box_turned hbl t4 (by omega)
    have hon4 := hon.turned (Turned.of_below (fun _ => False) (hb3.trans (hb4.mono hb3.size))) (fun _ q => q.elim)
    have hown4 : ∀ b, (Value.slice A y.data.length C).ownBlock = some b → w.heap.size + 6 ≤ b ∧ IsCells W4 b ∧ V.ownBlock ≠ some b := fun b q => by
      have h1 := hown b q
      have h2 := HM.out.sz
      have h3 := HT1.out.size
      refine ⟨by omega, cells_turned h1.2 (Turned.of_below (fun _ => False) (hb3.trans (hb4.mono hb3.size))) (fun q => q), fun q2 => ?_⟩
      obtain ⟨o, h4, _⟩ := (hli.o b q2).2
      have := (Array.getElem?_eq_some_iff.1 h4).1
      omega
    by_cases hgd : lineOf y = x.1
    · rw [hgd]
      obtain ⟨V', W5, hrun, ⟨K', hl5⟩, t5⟩ := hl4.append y A C HOK.out hon4 hown4 hLl (Nat.le_trans HM.out.sz t4.size)
      have hno3 : ¬ V.ownBlock = some (w.heap.size + 3) := fun q => by have := (hli.o _ q).1; omega
      have b5 := box_turned b3 t5 hno3
      obtain ⟨A5, C5, hV5, -, -, -⟩ := hl5.bu.len
      rw [show (L0 ++ [y]).length = L0.length + 1 by simp] at hV5
      subst hV5
      obtain ⟨A6, C6, rfl, -, -, -⟩ := hl4.bu.len
      have k3 : W4.cell? ⟨w.heap.size + 1 + 1 + 1, 0, none⟩ = some (.slice A6 L0.length C6) := b3.cell
      have k5 : W5.cell? ⟨w.heap.size + 1 + 1 + 1, 0, none⟩ = some (.slice A6 L0.length C6) := b5.cell
      have f5 : W5.frozen? ⟨w.heap.size + 1 + 1 + 1, 0, none⟩ = false := b5.frozen
      have HL5 := Lib.hid hl5
      have HT5 := Lib.hid t5
      have HB5 := Lib.hid b5
      have HRUN := Lib.hid hrun
      clear hrun hl5 t5 b5 hl4 hon4 hown4 hon hown hb13 hb14 t4 d0 d1 d2 d3 d4 hW3
      gi_wp2_with (gi_at_builtin; refine wpListIn_append_known _ rfl (.tmp 21) (.tmp 23) 22 22 rfl _ _ rfl rfl _ W5 HRUN.out ?_)
      have tf : Turned (fun b => b = w.heap.size + 4 ∨ (Value.slice A6 L0.length C6).ownBlock = some b ∨ b = w.heap.size + 3) W (W5.setCell ⟨w.heap.size + 3, 0, none⟩ (.slice A5 (L0.length + 1) C5)) :=
        ((HT4.out.mono fun b q => .inl q).trans (HT5.out.mono fun b q => .inr (.inl q)) (Grown.refl _ _)).trans (Turned.set (F := fun b => b = w.heap.size + 4 ∨ (Value.slice A6 L0.length C6).ownBlock = some b ∨ b = w.heap.size + 3) _ (.inr (.inr rfl))) (Grown.refl _ _)
      have hnf : ∀ i, i < 6 → i ≠ 3 → i ≠ 4 → ¬ (w.heap.size + i = w.heap.size + 4 ∨ (Value.slice A6 L0.length C6).ownBlock = some (w.heap.size + i) ∨ w.heap.size + i = w.heap.size + 3) := by
        rintro i hi h3 h4 (q | q | q)
        · omega
        · have := (hli.o _ q).1; omega
        · omega
      have hx5 := HM.out.sz
      have hlst : Lst w.heap.size K' (.slice A5 (L0.length + 1) C5) ((raw (pre ++ [x])).map readF) (W5.setCell ⟨w.heap.size + 3, 0, none⟩ (.slice A5 (L0.length + 1) C5)) := by
        rw [raw_snoc, List.map_append, HL.out, List.map_singleton, HY.out]
        exact HL5.out.turned (Turned.set (F := fun b => b = w.heap.size + 3) _ rfl) (fun b q => .inl (by omega))
      refine ⟨keeps_turned tf ?_, tf.block _ (by omega) (hnf 5 (by omega) (by omega) (by omega)), fun l hl => ?_, ⟨⟨_, K', hlst, HB5.out.set _⟩, ?_, box_turned HM.out.r0 tf (hnf 0 (by omega) (by omega) (by omega)), box_turned HM.out.r1 tf (hnf 1 (by omega) (by omega) (by omega)), box_turned HM.out.r2 tf (hnf 2 (by omega) (by omega) (by omega)), ?_, Nat.le_trans HM.out.sz tf.size⟩⟩
      · rintro b (q | q | q) hB
        · omega
        · exact (hli.o b q).2
        · omega
      · rw [raw_snoc] at hl
        rcases List.mem_append.1 hl with q | q
        · exact HG.out l q
        · rw [List.mem_singleton.1 q]
          show lineOf (readF x.1) = x.1
          rw [HY.out]
          exact hgd
      · have h5 := box_turned (box_turned HN4.out HT5.out (fun q => by have := (hli.o _ q).1; omega)) (Turned.set (F := fun b => b = w.heap.size + 3) (b := w.heap.size + 3) (o := 0) (.slice A5 (L0.length + 1) C5) rfl) (by omega)
        rw [List.length_append, List.length_singleton]
        exact h5
      · exact HM.out.be.trans (tf.below (B := w.heap.size) (fun b q => by
          rcases q with q | q | q
          · omega
          · have := (hli.o b q).1; omega
          · omega) HM.out.be.size)
    · obtain ⟨z, hz⟩ : ∃ z, lineOf y = z := ⟨_, rfl⟩
      rw [hz] at hgd ⊢
      have HZ := Lib.hid hz
      have hne : ((str z).toList == (str x.1).toList) = false := by
        rw [beq_eq_false_iff_ne, Lib.toList_data, Lib.toList_data]
        exact hgd
      have HGD := Lib.hid hgd
      have k4 : W4.cell? ⟨w.heap.size + 1 + 1 + 1 + 1, 0, none⟩ = some (.int .i64 ((pre.length : Int) + 1)) := HN4.out.cell
      have b0 := box_turned HM.out.r0 t4 (by omega)
      have b1 := box_turned HM.out.r1 t4 (by omega)
      have b2 := box_turned HM.out.r2 t4 (by omega)
      have g0 : W4.cell? ⟨w.heap.size, 0, none⟩ = some (.slice none 0 0) := b0.cell
      have g1 : W4.cell? ⟨w.heap.size + 1, 0, none⟩ = some (.int .i64 0) := b1.cell
      have g2 : W4.cell? ⟨w.heap.size + 1 + 1, 0, none⟩ = some (.int .i64 0) := b2.cell
      have q0 : W4.frozen? ⟨w.heap.size, 0, none⟩ = false := b0.frozen
      have q1 : W4.frozen? ⟨w.heap.size + 1, 0, none⟩ = false := b1.frozen
      have q2 : W4.frozen? ⟨w.heap.size + 1 + 1, 0, none⟩ = false := b2.frozen
      have HEND : Hid (∀ (a3 : Act), leaves (w.heap.size + 6) (w.heap.size + 5) (fun pre W => (∀ l ∈ raw pre, good l) ∧ Mid w pre.length ((raw pre).map readF) W) (fun pre W => BadAt (raw pre) ∧ Ends w pre.length W) (pre ++ [x]) W .ret a3
          ((((W4.setCell ⟨w.heap.size, 0, none⟩ (.slice none 0 0)).setCell ⟨w.heap.size + 1, 0, none⟩ (.int .i64 ((pre.length : Int) + 1))).setCell ⟨w.heap.size + 1 + 1, 0, none⟩ (.int .i64 13)).drew)) := by
        intro a3
        have n01 : ¬ w.heap.size = w.heap.size + 1 := by omega
        have n02 : ¬ w.heap.size = w.heap.size + 2 := by omega
        have n10 : ¬ w.heap.size + 1 = w.heap.size := by omega
        have n12 : ¬ w.heap.size + 1 = w.heap.size + 2 := by omega
        have n20 : ¬ w.heap.size + 2 = w.heap.size := by omega
        have n21 : ¬ w.heap.size + 2 = w.heap.size + 1 := by omega
        have s0 : ∀ (X : World), Turned (fun b => b = w.heap.size) X (X.setCell ⟨w.heap.size, 0, none⟩ (.slice none 0 0)) := fun X => Turned.set _ rfl
        have s1 : ∀ (X : World), Turned (fun b => b = w.heap.size + 1) X (X.setCell ⟨w.heap.size + 1, 0, none⟩ (.int .i64 ((pre.length : Int) + 1))) := fun X => Turned.set _ rfl
        have s2 : ∀ (X : World), Turned (fun b => b = w.heap.size + 2) X (X.setCell ⟨w.heap.size + 1 + 1, 0, none⟩ (.int .i64 13)).drew := fun X => (Turned.set (F := fun b => b = w.heap.size + 2) _ rfl).trans (Turned.drew (fun b => b = w.heap.size + 2) _) (Grown.refl _ _)
        have tf : Turned (fun b => b ≤ w.heap.size + 4) W ((((W4.setCell ⟨w.heap.size, 0, none⟩ (.slice none 0 0)).setCell ⟨w.heap.size + 1, 0, none⟩ (.int .i64 ((pre.length : Int) + 1))).setCell ⟨w.heap.size + 1 + 1, 0, none⟩ (.int .i64 13)).drew) :=
          (((t4.mono (fun b q => by omega)).trans ((s0 _).mono (F' := fun b => b ≤ w.heap.size + 4) (fun b q => by omega)) (Grown.refl _ _)).trans ((s1 _).mono (F' := fun b => b ≤ w.heap.size + 4) (fun b q => by omega)) (Grown.refl _ _)).trans ((s2 _).mono (F' := fun b => b ≤ w.heap.size + 4) (fun b q => by omega)) (Grown.refl _ _)
        refine ⟨keeps_turned tf (fun b q hB => by omega), ⟨raw pre, x.1, raw_snoc _ _, HG.out, fun q => HGD.out ?_⟩, ?_, ?_, ?_, ?_, Nat.le_trans HM.out.sz tf.size⟩
        · rw [← HZ.out, ← HY.out]; exact q
        · exact box_turned (box_turned (b0.set (.slice none 0 0)) (s1 _) n01) (s2 _) n02
        · rw [List.length_append, List.length_singleton]
          exact box_turned ((box_turned b1 (s0 _) n10).set (.int .i64 ((pre.length : Int) + 1))) (s2 _) n12
        · exact (box_turned (box_turned b2 (s0 _) n20) (s1 _) n21).set (.int .i64 13)
        · exact (((HB4.out.setCell (p := ⟨w.heap.size, 0, none⟩) (Nat.le_refl _) _).setCell (p := ⟨w.heap.size + 1, 0, none⟩) (Nat.le_succ _) _).setCell (p := ⟨w.heap.size + 1 + 1, 0, none⟩) (by show w.heap.size ≤ w.heap.size + 1 + 1; omega) _).drew
      clear hgd hz hl4 hon4 hown4 hon hown hb13 hb14 t4 d0 d1 d2 d3 d4 hW3 b0 b1 b2 b3 hli hbl
      gi_wp2
      refine wpIn_round_any (by kernel_rfl) (by rintro ⟨_, _, h⟩; exact h) (by kernel_rfl) ?_
      refine wpAny_ready (rs := [0, 1]) (by kernel_rfl) (by simp) ?_
      refine AllReady.cons rfl (fun K hK => ?_) (AllReady.cons rfl (fun K hK => ?_) AllReady.nil)
      · go_simp
        refine hK _ _ ?_
        clear hK K
        refine wpAny_ready (rs := [1]) (by kernel_rfl) (by simp) ?_
        refine AllReady.cons rfl (fun K hK => ?_) AllReady.nil
        go_simp
        refine hK _ _ ?_
        clear hK K
        refine wpAny_ready (rs := [2]) (by kernel_rfl) (by simp) ?_
        refine AllReady.cons rfl (fun K hK => ?_) AllReady.nil
        go_simp
        refine hK _ _ ?_
        clear hK K
        refine wpAny_ready (rs := [3]) (by kernel_rfl) (by simp) ?_
        refine AllReady.cons rfl (fun K hK => ?_) AllReady.nil
        go_simp
        refine hK _ _ ?_
        clear hK K
        refine wpAny_done (by kernel_rfl) ?_ _
        gi_wp2
        exact HEND.out _
      · go_simp
        refine hK _ _ ?_
        clear hK K
        refine wpAny_ready (rs := [0]) (by kernel_rfl) (by simp) ?_
        refine AllReady.cons rfl (fun K hK => ?_) AllReady.nil
        go_simp
        refine hK _ _ ?_
        clear hK K
        refine wpAny_ready (rs := [2]) (by kernel_rfl) (by simp) ?_
        refine AllReady.cons rfl (fun K hK => ?_) AllReady.nil
        go_simp
        refine hK _ _ ?_
        clear hK K
        refine wpAny_ready (rs := [3]) (by kernel_rfl) (by simp) ?_
        refine AllReady.cons rfl (fun K hK => ?_) AllReady.nil
        go_simp
        refine hK _ _ ?_
        clear hK K
        refine wpAny_done (by kernel_rfl) ?_ _
        gi_wp2
        exact HEND.out _
  case done =>
    rintro D ys W hD hS ⟨hg, hM⟩ hK
    obtain ⟨V, K, hli, hbl⟩ := hM.li
    have k3 : W.cell? ⟨w.heap.size + 1 + 1 + 1, 0, none⟩ = some V := hbl.cell
    have g0 : W.cell? ⟨w.heap.size, 0, none⟩ = some (.slice none 0 0) := hM.r0.cell
    have g1 : W.cell? ⟨w.heap.size + 1, 0, none⟩ = some (.int .i64 0) := hM.r1.cell
    have g2 : W.cell? ⟨w.heap.size + 1 + 1, 0, none⟩ = some (.int .i64 0) := hM.r2.cell
    have q0 : W.frozen? ⟨w.heap.size, 0, none⟩ = false := hM.r0.frozen
    have q1 : W.frozen? ⟨w.heap.size + 1, 0, none⟩ = false := hM.r1.frozen
    have q2 : W.frozen? ⟨w.heap.size + 1 + 1, 0, none⟩ = false := hM.r2.frozen
    obtain ⟨A5, C5, hV, -, -, -⟩ := hli.bu.len
    subst hV
    obtain ⟨N, hN⟩ : ∃ N, ((raw ys).map readF).length = N := ⟨_, rfl⟩
    rw [hN] at k3
    have HN := Lib.hid hN
    have HLI := Lib.hid hli
    have HM := Lib.hid hM
    have HG := Lib.hid hg
    have HS := Lib.hid hS
    clear hN hli hM hg hS hbl
    go_wp2
    obtain ⟨Z, hZ⟩ : ∃ Z, ((W.setCell ⟨w.heap.size, 0, none⟩ (.slice A5 N C5)).setCell ⟨w.heap.size + 1, 0, none⟩ (.int .i64 0)).setCell ⟨w.heap.size + 1 + 1, 0, none⟩ (.int .i64 0) = Z := ⟨_, rfl⟩
    rw [hZ]
    have hKZ : Z.heap[D]? = some (.deferred (some [])) := by
      rw [← hZ, Below.heap_setCell _ _ _ _ (by show D ≠ w.heap.size + 1 + 1; omega), Below.heap_setCell _ _ _ _ (by show D ≠ w.heap.size + 1; omega), Below.heap_setCell _ _ _ _ (by show D ≠ w.heap.size; omega)]
      exact hK
    have n01 : ¬ w.heap.size = w.heap.size + 1 := by omega
    have n02 : ¬ w.heap.size = w.heap.size + 2 := by omega
    have n10 : ¬ w.heap.size + 1 = w.heap.size := by omega
    have n12 : ¬ w.heap.size + 1 = w.heap.size + 2 := by omega
    have n20 : ¬ w.heap.size + 2 = w.heap.size := by omega
    have n21 : ¬ w.heap.size + 2 = w.heap.size + 1 := by omega
    have s0 : ∀ (X : World), Turned (fun b => b = w.heap.size) X (X.setCell ⟨w.heap.size, 0, none⟩ (.slice A5 N C5)) := fun X => Turned.set _ rfl
    have s1 : ∀ (X : World), Turned (fun b => b = w.heap.size + 1) X (X.setCell ⟨w.heap.size + 1, 0, none⟩ (.int .i64 0)) := fun X => Turned.set _ rfl
    have s2 : ∀ (X : World), Turned (fun b => b = w.heap.size + 2) X (X.setCell ⟨w.heap.size + 1 + 1, 0, none⟩ (.int .i64 0)) := fun X => Turned.set _ rfl
    have x0 := box_turned (box_turned (HM.out.r0.set (.slice A5 N C5)) (s1 _) n01) (s2 _) n02
    have x1 := box_turned ((box_turned HM.out.r1 (s0 _) n10).set (.int .i64 0)) (s2 _) n12
    have x2 := (box_turned (box_turned HM.out.r2 (s0 _) n20) (s1 _) n21).set (.int .i64 0)
    have tf : Turned (fun b => b ≤ w.heap.size + 2) W Z := by
      rw [← hZ]
      exact (((s0 _).mono (F' := fun b => b ≤ w.heap.size + 2) (fun b q => by omega)).trans ((s1 _).mono (F' := fun b => b ≤ w.heap.size + 2) (fun b q => by omega)) (Grown.refl _ _)).trans ((s2 _).mono (F' := fun b => b ≤ w.heap.size + 2) (fun b q => by omega)) (Grown.refl _ _)
    have hbz : Below w.heap.size w Z := by
      rw [← hZ]
      exact ((HM.out.be.setCell (p := ⟨w.heap.size, 0, none⟩) (Nat.le_refl _) _).setCell (p := ⟨w.heap.size + 1, 0, none⟩) (Nat.le_succ _) _).setCell (p := ⟨w.heap.size + 1 + 1, 0, none⟩) (by show w.heap.size ≤ w.heap.size + 1 + 1; omega) _
    have y0 : Boxed Z w.heap.size TL (.slice A5 N C5) := by rw [← hZ]; exact x0
    have y1 : Boxed Z (w.heap.size + 1) TI (.int .i64 0) := by rw [← hZ]; exact x1
    have y2 : Boxed Z (w.heap.size + 2) TE (.int .i64 0) := by rw [← hZ]; exact x2
    have z0 : (Z.putObj D (.deferred none)).cell? ⟨w.heap.size, 0, none⟩ = some (.slice A5 N C5) := cell_put _ hKZ rfl _ _ y0.cell
    have z1 : (Z.putObj D (.deferred none)).cell? ⟨w.heap.size + 1, 0, none⟩ = some (.int .i64 0) := cell_put _ hKZ rfl _ _ y1.cell
    have z2 : (Z.putObj D (.deferred none)).cell? ⟨w.heap.size + 1 + 1, 0, none⟩ = some (.int .i64 0) := cell_put _ hKZ rfl _ _ y2.cell
    have hst := (HLI.out.turned tf (fun b q => .inl (by omega))).turned (turned_put (l := D) (.deferred none)) (fun b q => .inr (by subst q; exact not_cells hKZ rfl))
    have hp := parseL_all (lines t) [] (by rw [← HS.out]; exact HG.out)
    rw [← HS.out, List.nil_append] at hp
    refine ⟨by simp, .inl ⟨_, _, rfl, run_takeDeferred hKZ, ?_⟩⟩
    refine ⟨.tuple #[.slice A5 N C5, .int .i64 0, .int .i64 0], by simp [results, Tryd.results11, go_sem, z0, z1, z2], below_put hbz _ (Nat.le_refl _) (by omega), ?_⟩
    rw [← HS.out, hp]
    refine ⟨_, rfl, ?_⟩
    have := hst.bu.cells
    rw [HN.out] at this
    exact this
  case stop =>
    rintro D pre W hD hSp ⟨hbad, hE⟩ hK
    gi_wp2
    have z0 : (W.putObj D (.deferred none)).cell? ⟨w.heap.size, 0, none⟩ = some (.slice none 0 0) := cell_put _ hK rfl _ _ hE.r0.cell
    have z1 : (W.putObj D (.deferred none)).cell? ⟨w.heap.size + 1, 0, none⟩ = some (.int .i64 (pre.length : Nat)) := cell_put _ hK rfl _ _ hE.r1.cell
    have z2 : (W.putObj D (.deferred none)).cell? ⟨w.heap.size + 1 + 1, 0, none⟩ = some (.int .i64 13) := cell_put _ hK rfl _ _ hE.r2.cell
    refine ⟨by simp, .inl ⟨_, _, rfl, run_takeDeferred hK, ?_⟩⟩
    refine ⟨.tuple #[.slice none 0 0, .int .i64 (pre.length : Nat), .int .i64 13], by simp [results, Tryd.results11, go_sem, z0, z1, z2], below_put hE.be _ (Nat.le_refl _) (by omega), ?_⟩
    obtain ⟨r, hr⟩ := hSp
    obtain ⟨p, l, hpl, hpg, hbl⟩ := hbad
    have hp := parseL_bad p [] l r hpg hbl
    rw [show p ++ l :: r = lines t by rw [hr, hpl]; simp] at hp
    have hn : pre.length = p.length + 1 := by rw [← raw_len, hpl]; simp
    rw [hp, hn]
    simp
end Go.Proofs.YtegnheonncoodaaDoor.Scr
