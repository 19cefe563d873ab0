/- The document's writer of records' bytes, as walks: numbers, keys, lists of numbers, stripes. -/
import Derived.Test.YtjhlcddmpkalfaaRows
import Derived.Test.YtjhlcddmpkalfaaRecUniq
import Derived.Test.YtjhlcddmpkalfaaShaRef
import Derived.Deep.Cut
import Derived.Deep.RegionLaw
import Derived.StillTailTactics
namespace Go.Proofs.Ytjhlcddmpkalfaa.Rec
set_option linter.unusedVariables false
open Go.ChangeShapes Go.WideShapes Go.ChangeAt Go.RowKit
open Go.Mem RecM
theorem infoByte : (Try.prog.info? 5).map (fun i => (i.zero, i.size, i.bytes)) = some (some (.int .u8 0), 1, 1) := by kernel_rfl
def ofld (v : Value) (x : Bool) : Nat → Value := fun i => if i = 0 then v else .bool x
/-- bytes that are written, in memory, in blocks of F -/
structure OutAt (w : World) (F : Nat → Prop) (p : Nat) (v : Value) (o : Out) : Prop where
  head : w.rowIs p 51 2 (ofld v o.bad)
  row : Built ByteR w 0 5 v o.l
  ne : v.ownBlock ≠ some p
  fp : F p
  own : ∀ b, v.ownBlock = some b → F b
  lt : ∀ b, F b → b < w.heap.size
def ROut (w : World) (F : Nat → Prop) (p : Nat) (o : Out) : Prop := ∃ v, OutAt w F p v o
/-- .. and what a call does to them -/
def Wrote (F : Nat → Prop) (p : Nat) (o : Out) (w w' : World) : Prop := ∃ F', ROut w' F' p o ∧ Turned F w w' ∧ Grown F F' w
theorem Wrote.trans {F F' : Nat → Prop} {p : Nat} {o : Out} {w w' w'' : World} (ht : Turned F w w') (hg : Grown F F' w) (h : Wrote F' p o w' w'') : Wrote F p o w w'' := by
  obtain ⟨F2, h1, h2, h3⟩ := h
  exact ⟨F2, h1, ht.trans h2 hg, hg.trans h3 ht.size⟩
theorem built_same {w w' : World} {t : Nat} {v : Value} {l : List Nat} (h : Built ByteR w 0 t v l) (hs : ∀ b, v.ownBlock = some b → w'.heap[b]? = w.heap[b]?) : Built ByteR w' 0 t v l := by
  obtain ⟨xs, h1, h2⟩ := h
  refine ⟨xs, ⟨h1.1, ?_⟩, fun i hi => ?_⟩
  · rcases h1.2 with h0 | ⟨g, cap, cur, e, q1, q2, q3⟩
    · exact .inl h0
    · exact .inr ⟨g, cap, cur, e, q1, (hs g (by rw [e]; rfl)).trans q2, q3⟩
  · obtain ⟨c, e, hR⟩ := h2 i hi
    exact ⟨c, e, fun w'' _ => hR w (World.grownBy.refl _ _)⟩
section
variable {w w' : World} {F G : Nat → Prop} {p : Nat} {v : Value} {o : Out}
theorem OutAt.cells (h : OutAt w F p v o) : w.cell? ⟨p, 0, none⟩ = some v ∧ w.cell? ⟨p, 1, none⟩ = some (.bool o.bad) := ⟨h.head.cell (i := 0) (by omega), h.head.cell (i := 1) (by omega)⟩
theorem OutAt.free (h : OutAt w F p v o) (i : Nat) : w.frozen? ⟨p, i, none⟩ = false := h.head.frozen i
theorem OutAt.same (h : OutAt w F p v o) (hs : ∀ b, F b → w'.heap[b]? = w.heap[b]?) (hz : w.heap.size ≤ w'.heap.size) : OutAt w' F p v o :=
  ⟨h.head.of_block (hs p h.fp), built_same h.row (fun b hb => hs b (h.own b hb)), h.ne, h.fp, h.own, fun b hb => Nat.lt_of_lt_of_le (h.lt b hb) hz⟩
theorem OutAt.turned (h : OutAt w F p v o) (ht : Turned G w w') (hd : ∀ b, G b → ¬ F b) : OutAt w' F p v o := h.same (ht.stay h.lt hd) ht.size
theorem OutAt.below (h : OutAt w F p v o) (hb : Below w.heap.size w w') : OutAt w' F p v o := h.same (fun b q => hb.block b (h.lt b q)) hb.size
theorem ROut.below (h : ROut w F p o) (hb : Below w.heap.size w w') : ROut w' F p o := by
  obtain ⟨v, h⟩ := h
  exact ⟨v, h.below hb⟩
theorem ROut.lt (h : ROut w F p o) : ∀ b, F b → b < w.heap.size := by
  obtain ⟨v, h⟩ := h
  exact h.lt
/-- it says that something may not be -/
theorem OutAt.spoil (h : OutAt w F p v o) : Wrote F p ⟨o.l, true⟩ w (w.setCell ⟨p, 1, none⟩ (.bool true)) := by
  have hot : ∀ b, b ≠ p → (w.setCell ⟨p, 1, none⟩ (.bool true)).heap[b]? = w.heap[b]? := fun b hb => Below.heap_setCell _ _ _ _ (fun q => hb q)
  refine ⟨F, ⟨v, (h.head.set 1 (.bool true)).congr fun i hi => ?_, built_same h.row (fun b hb => hot b (fun e => h.ne (by rw [hb, e]))), h.ne, h.fp, h.own, (fun b hb => by simpa [World.setCell] using h.lt b hb)⟩, Turned.set _ h.fp, Grown.refl _ _⟩
  unfold ofld
  rcases (by omega : i = 0 ∨ i = 1) with rfl | rfl <;> rfl
/-- it gets more bytes -/
theorem OutAt.more (h : OutAt w F p v o) {w1 w2 : World} {v2 : Value} {m : List Nat} (h1 : Below w.heap.size w w1) (h2 : Built ByteR w2 0 5 v2 (o.l ++ m)) (hg : w1.grownBy w2 v.ownBlock) (hat : v2.ownBlock = v.ownBlock ∨ v2.ownBlock = some w1.heap.size) :
    Wrote F p ⟨o.l ++ m, o.bad⟩ w (w2.setCell ⟨p, 0, none⟩ v2) := by
  have hp1 : p < w1.heap.size := Nat.lt_of_lt_of_le (h.lt p h.fp) h1.size
  have hrow : w2.rowIs p 51 2 (ofld v o.bad) := (h.below h1).head.of_block (hg.block p hp1 (fun e => h.ne e.symm))
  have hne : v2.ownBlock ≠ some p := by
    rcases hat with e | e
    · rw [e]; exact h.ne
    · rw [e]; intro q; injection q with q; omega
  have hot : ∀ b, b ≠ p → (w2.setCell ⟨p, 0, none⟩ v2).heap[b]? = w2.heap[b]? := fun b hb => Below.heap_setCell _ _ _ _ (fun q => hb q)
  have hsz := h1.size
  have hsz2 := hg.size
  refine ⟨fun b => F b ∨ v2.ownBlock = some b, ⟨v2, (hrow.set 0 v2).congr fun i hi => ?_, built_same h2 (fun b hb => hot b (fun e => hne (by rw [hb, e]))), hne, .inl h.fp, fun b hb => .inr hb, fun b hb => ?_⟩, ?_, fun b hb => ?_⟩
  · unfold ofld
    rcases (by omega : i = 0 ∨ i = 1) with rfl | rfl <;> rfl
  · have : b < w2.heap.size := by
      rcases hb with q | q
      · have := h.lt b q; omega
      · exact (h2.own_lt b q).2
    simpa [World.setCell] using this
  · have t1 : Turned F w w1 := Turned.of_below F h1
    have t2 : Turned F w1 w2 := Turned.grown hg h.own
    exact (t1.trans t2 (Grown.refl _ _)).trans (Turned.set _ h.fp) (Grown.refl _ _)
  · rcases hb with q | q
    · exact .inl q
    · rcases hat with e | e
      · rw [e] at q; exact .inl (h.own b q)
      · rw [e] at q; injection q with q; right; omega
end
def Fine (n : Nat) : Prop := n ≤ 140737489400000
theorem num_no {v most : Int} {n : Nat} {o : Out} (h : v < 0 ∨ most < v) : num v n most o = ⟨o.l, true⟩ := by unfold num; rw [if_pos h]
theorem num_yes {v : Nat} {most : Int} {n : Nat} {o : Out} (h1 : (v : Int) ≤ most) : num v n most o = ⟨o.l ++ Sha.numB v n, o.bad⟩ := by
  unfold num; rw [if_neg (by omega), Int.toNat_natCast]
set_option maxHeartbeats 1000000 in
theorem outNum {w : World} {F : Nat → Prop} {p : Nat} {o : Out} (h : ROut w F p o) (v : Int) (n : Nat) (most : Int) (hv : I64 v) (hn : n ≤ 8) (m0 : 0 ≤ most) (m1 : most ≤ 4294967296) (hl : Fine o.l.length) :
    Calls Try.prog 17 #[.pointer (some ⟨p, 0, none⟩), .int .i64 v, .int .i64 n, .int .i64 most] w fun e w' => e = .returned (.tuple #[]) ∧ Wrote F p (num v n most o) w w' := by
  obtain ⟨x, h⟩ := h
  obtain ⟨c0, c1⟩ := h.cells
  have f0 := h.free 0
  have f1 := h.free 1
  have hlt := h.lt p h.fp
  obtain ⟨v0, v1⟩ := hv
  by_cases hbad : v < 0 ∨ most < v
  · have HE := Lib.hid (num_no (n := n) (o := o) hbad)
    have HS := Lib.hid h.spoil
    clear h
    by_cases h0 : v < 0
    · have hd : decide (v < 0) = true := by simpa using h0
      clear hbad
      go_enter Try.func17, Try.ntmps17
      go_wp2
      refine bodyPost_ret (results_none rfl _ _ _) rfl ?_
      exact ⟨rfl, by rw [HE.out]; exact HS.out⟩
    · have hd : decide (v < 0) = false := by simpa using h0
      have h1 : most < v := by omega
      clear hbad
      go_enter Try.func17, Try.ntmps17
      go_wp2
      refine bodyPost_ret (results_none rfl _ _ _) rfl ?_
      exact ⟨rfl, by rw [HE.out]; exact HS.out⟩
  · obtain ⟨V, rfl⟩ := Int.eq_ofNat_of_zero_le (show 0 ≤ v by omega)
    have hvm : (V : Int) ≤ most := by omega
    have hd : decide ((V : Int) < 0) = false := by simp
    have hd2 : ¬ most < (V : Int) := by omega
    have HE := Lib.hid (num_yes (n := n) (o := o) hvm)
    have H := Lib.hid h
    have HB := Lib.hid h.row
    have HFI := Lib.hid hl
    have HDR := Lib.hid (show Below w.heap.size w w.drew from below_drewN _ _ 1)
    obtain ⟨M, hM⟩ : ∃ M, o.l.length = M := ⟨_, rfl⟩
    obtain ⟨A, C, hA, hl1, hl2⟩ := h.row.len
    rw [hM] at hA hl1
    subst hA
    have HM := Lib.hid hM
    have hw : IntKind.u64.wrap (V : Int) = (V : Int) := by simp only [IntKind.wrap_u64]; omega
    clear hbad h hl hM
    go_enter Try.func17, Try.ntmps17
    go_wp2
    go_region_law (first
      | (go_simp; go_at_call 36; refine (Hash.numC V n (by omega) hn _).mono ?_; rintro _ w1 ⟨u, rfl, hu1, hb1⟩; have HBW1 := Lib.hid (HDR.out.trans hb1); have HS1 := Lib.hid hu1.slice; have k0 := below_cell HBW1.out _ _ c0; obtain ⟨A1, C1, e1, hk1, hk1'⟩ := hu1.len; rw [Sha.numB_len] at e1 hk1; subst e1; clear hu1 hb1)
      | (refine step_append_src _ rfl (.tmp 22) (.tmp 26) 29 29 rfl 0 5 Try.underlying29 infoByte _ _ rfl (HB.out.below HBW1.out) _ _ rfl (BSrc.ofBytes Try.underlying29 HS1.out) (by have := HFI.out; unfold Fine at this; rw [Sha.numB_len]; omega) (Nat.zero_le _) ?_; intro v2 w2 hbu2 hg2 hb2 hat2; have HMO := Lib.hid (H.out.more HBW1.out hbu2 hg2 hat2); have d0 := (World.cell?_of_block (w := w) (a := ⟨p, 0, none⟩) ((hg2.block p (Nat.lt_of_lt_of_le hlt HBW1.out.size) (fun e => H.out.ne e.symm)).trans (HBW1.out.block p hlt))).trans c0; have d1 := (World.frozen?_of_block (w := w) (a := ⟨p, 0, none⟩) ((hg2.block p (Nat.lt_of_lt_of_le hlt HBW1.out.size) (fun e => H.out.ne e.symm)).trans (HBW1.out.block p hlt))).trans f0; obtain ⟨A2, C2, e2, _⟩ := hbu2.len; obtain ⟨M2, hM2⟩ : ∃ M2, (o.l ++ Sha.numB V n).length = M2 := ⟨_, rfl⟩; rw [hM2] at e2; subst e2; clear hbu2 hg2 hb2 hat2 hM2))
    all_goals
      clear k0 d0 d1
      go_wp2
      go_end0
      exact ⟨rfl, by rw [HE.out]; exact HMO.out⟩
set_option maxHeartbeats 1000000 in
theorem outKey {w : World} {F : Nat → Prop} {p : Nat} {o : Out} (h : ROut w F p o) (s : ByteArray) (hs : KeyOk s) (hl : o.l.length ≤ 1000000) :
    Calls Try.prog 18 #[.pointer (some ⟨p, 0, none⟩), .string s] w fun e w' => e = .returned (.tuple #[]) ∧ Wrote F p (key s o) w w' := by
  have hln := num_len s.size 1 16 o
  have HEK := Lib.hid (show key s o = ⟨(num s.size 1 16 o).l ++ strB s, (num s.size 1 16 o).bad⟩ from rfl)
  unfold KeyOk at hs
  go_enter Try.func18, Try.ntmps18
  go_wp2_with fail
  refine (outNum h s.size 1 16 ⟨by omega, by omega⟩ (by omega) (by omega) (by omega) (by unfold Fine; omega)).mono ?_
  rintro _ w1 ⟨rfl, F1, ⟨v1, h1⟩, ht1, hg1⟩
  obtain ⟨o1, ho1⟩ : ∃ o1, num s.size 1 16 o = o1 := ⟨_, rfl⟩
  rw [ho1] at h1 hln HEK
  have H1 := Lib.hid h1
  obtain ⟨c0, c1⟩ := h1.cells
  have f0 := h1.free 0
  have hlt1 := h1.lt p h1.fp
  obtain ⟨M, hM⟩ : ∃ M, o1.l.length = M := ⟨_, rfl⟩
  obtain ⟨A, C, hA, hl1, hl2⟩ := h1.row.len
  rw [hM] at hA hl1 hln
  subst hA
  have HM := Lib.hid hM
  have HB := Lib.hid h1.row
  have HT := Lib.hid ht1
  have HG := Lib.hid hg1
  clear h1 hM ho1 ht1 hg1 h c1
  go_wp2_with (refine wpList_append_src _ rfl (.tmp 12) (.tmp 13) 29 9 rfl 0 5 Try.underlying29 infoByte _ _ rfl HB.out _ _ rfl (BSrc.ofString _ Try.underlying9 s) (by rw [HM.out, strB_len]; omega) (Nat.zero_le _) ?_; intro v2 w2 hbu2 hg2 hb2 hat2; have HMO := Lib.hid (H1.out.more (Below.refl _ _) hbu2 hg2 hat2); have d0 := (World.cell?_of_block (w := w1) (a := ⟨p, 0, none⟩) (hg2.block p hlt1 (fun e => H1.out.ne e.symm))).trans c0; have d1 := (World.frozen?_of_block (w := w1) (a := ⟨p, 0, none⟩) (hg2.block p hlt1 (fun e => H1.out.ne e.symm))).trans f0; obtain ⟨A2, C2, e2, _⟩ := hbu2.len; obtain ⟨M2, hM2⟩ : ∃ M2, (o1.l ++ strB s).length = M2 := ⟨_, rfl⟩; rw [hM2] at e2; subst e2; clear hbu2 hg2 hb2 hat2 hM2)
  go_end0
  exact ⟨rfl, by rw [HEK.out]; exact Wrote.trans HT.out HG.out HMO.out⟩
end Go.Proofs.Ytjhlcddmpkalfaa.Rec
