/- The law of layer 9 of records that are too large, as a walk. -/
import Derived.Test.YtjhlcddmpkalfaaRecLaws
namespace Go.Proofs.Ytjhlcddmpkalfaa.Rec
set_option linter.unusedVariables false
open Go.ChangeShapes Go.WideShapes Go.ChangeAt Go.RowKit
open Go.Mem RecM Same
def stpL (i : Nat) : StpD := ⟨(i : Nat), 0, [1, 2, 3, 4, 5, 6, 7]⟩
def stpsL (k : Nat) : List StpD := (List.range k).map stpL
def recL (k : Nat) : RecD := ⟨1, 1, 0, ⟨#[]⟩, stpsL k, [], []⟩
theorem stpsL_len (k : Nat) : (stpsL k).length = k := by simp [stpsL]
theorem stpsL_sum : ∀ k, locsSum (stpsL k) = 7 * k
  | 0 => rfl
  | k + 1 => by
    have := stpsL_sum k
    unfold stpsL locsSum at *
    rw [List.range_succ, List.map_append, List.map_append, List.sum_append, this]
    simp [stpL]
    omega
theorem recL_small {k : Nat} (h : k ≤ 355) : small (recL k) = true := by
  unfold small items base recL
  simp only [stpsL_len, stpsL_sum, objSum, List.map_nil, List.sum_nil, List.length_nil]
  simp only [Bool.and_eq_true, decide_eq_true_eq]
  omega
theorem recL_ok {k : Nat} (hk : k ≤ 1000) : okRec (recL k) ↔ k ≤ 255 := by
  unfold okRec okHead okStps okObjs okInts recL okStp
  simp only [stpsL_len]
  constructor
  · intro h
    have := h.1.1.2.1.2
    omega
  · intro h
    refine ⟨⟨⟨⟨⟨⟨⟨by omega, by omega⟩, by unfold okNum; omega⟩, by unfold okNum; omega⟩, by decide⟩, ⟨⟨by omega, by omega⟩, ?_⟩⟩, ⟨⟨by simp, by simp⟩, by simp⟩⟩, ⟨⟨by simp, by simp⟩, by simp⟩⟩
    intro s hs
    obtain ⟨i, hi, rfl⟩ := List.mem_map.1 hs
    have := List.mem_range.1 hi
    refine ⟨⟨by unfold okNum stpL; simp; omega, by unfold okNum stpL; simp⟩, ⟨by simp [stpL], by simp [stpL]⟩, ?_⟩
    intro z hz
    unfold okNum
    simp only [stpL, List.mem_cons, List.not_mem_nil, or_false] at hz
    omega
theorem recL_len (k : Nat) : (recE (recL k)).length = 14 + 37 * k := by
  have h := recE_len (recL k)
  rw [h]
  unfold recL
  simp only [stpsL_len, stpsL_sum, List.length_nil]
  have : (objsE []).length = 2 := rfl
  rw [this]
  have : (⟨#[]⟩ : ByteArray).size = 0 := rfl
  rw [this]
  omega
theorem recL_form {k : Nat} (h : 255 < k) (hk : k ≤ 1000) : encE (recL k) = 2 ∧ encB (recL k) = [] := by
  have hb : (out (recL k)).bad = true := out_bad.2 (fun q => by have := (recL_ok hk).1 q; omega)
  have hk1 : ¬ (recL k).kind < 1 := by unfold recL; simp
  exact encE_bad hk1 hb
theorem recL_big {k : Nat} (h : k ≤ 255) (h2 : 8192 < 14 + 37 * k) : encE (recL k) = 4 ∧ encB (recL k) = [] := by
  have ho := out_ok ((recL_ok (by omega)).2 h)
  have hk1 : ¬ (recL k).kind < 1 := by unfold recL; simp
  exact encE_long hk1 (by rw [ho]) (by rw [ho, recL_len]; exact h2)
theorem recL_fine {k : Nat} (h : k ≤ 255) (h2 : ¬ 8192 < 14 + 37 * k) : encE (recL k) = 0 ∧ (encB (recL k)).length = 14 + 37 * k := by
  have ho := out_ok ((recL_ok (by omega)).2 h)
  have hk1 : ¬ (recL k).kind < 1 := by unfold recL; simp
  obtain ⟨e1, e2⟩ := encE_good hk1 (by rw [ho]) (by rw [ho, recL_len]; exact h2)
  exact ⟨e1, by rw [e2, ho, recL_len]⟩
/-- k stripes that the call has built, in blocks behind g -/
def Lg (tS tI : TypeId) (w : World) (g k : Nat) (v : Value) : Prop := ∃ (xs : List Value) (B : Nat → Nat), w.ownsRow (g + 1) tS 3 v k xs ∧
  ∀ j, j < k → g < B j ∧ B j < w.heap.size ∧ v.ownBlock ≠ some (B j) ∧ xs[j * 3]? = some (.int .i64 (j : Nat)) ∧ xs[j * 3 + 1]? = some (.int .i64 0) ∧ xs[j * 3 + 2]? = some (.slice (some ⟨B j, 0, none⟩) 7 7) ∧ w.rowIs (B j) tI 7 (fun i => .int .i64 ((i + 1 : Nat) : Int))
section
variable {tS tI : TypeId} {w : World} {g k : Nat} {v : Value}
theorem Lg.start (tS tI : TypeId) (w : World) (g : Nat) : Lg tS tI w g 0 (.slice none 0 0) := ⟨[], fun _ => 0, World.ownsRow_nil _ _ _ _, fun _ h => absurd h (by omega)⟩
theorem Lg.put (h : Lg tS tI w g k v) (o : Nat) (u : Value) : Lg tS tI (w.setCell ⟨g, o, none⟩ u) g k v := by
  obtain ⟨xs, B, h1, h2⟩ := h
  have hot : ∀ b, b ≠ g → (w.setCell ⟨g, o, none⟩ u).heap[b]? = w.heap[b]? := fun b hb => Below.heap_setCell _ _ _ _ (fun q => hb q)
  refine ⟨xs, B, h1.kept (row := some g) ⟨rfl, rfl, rfl, by simp [World.setCell], fun b _ hb => hot b (fun e => hb (by rw [e]))⟩ ?_, fun j hj => ?_⟩
  · rcases hv : v.ownBlock with _ | b
    · exact .inl rfl
    · right
      have := (h1.lt b hv).1
      intro q
      injection q with q
      omega
  · obtain ⟨q1, q2, q3, q4, q5, q6, q7⟩ := h2 j hj
    exact ⟨q1, by simpa [World.setCell] using q2, q3, q4, q5, q6, q7.of_block (hot _ (by omega))⟩
theorem Lg.shape (h : Lg tS tI w g k v) : ∃ A C, v = .slice A k C ∧ k ≤ C ∧ C ≤ 9223372036854775807 := by
  obtain ⟨xs, B, h1, _⟩ := h
  rcases h1.2 with ⟨e, q⟩ | ⟨b, cap, cur, e, _, _, h3, h4, _⟩
  · exact ⟨none, 0, by rw [e, q], by omega, by omega⟩
  · exact ⟨_, cap, e, h3, by unfold maxLen at h4; exact h4⟩
theorem Lg.stps (h : Lg tS tI w g k v) : Stps w v (stpsL k) := by
  obtain ⟨xs, B, h1, h2⟩ := h
  have h3 := h1
  rcases h1.2 with ⟨e1, e2⟩ | ⟨b, cap, cur, e1, _, _, e4, e5, _⟩
  · subst e2
    exact ⟨none, 0, 0, e1, rfl, Nat.le_refl _, Nat.zero_le _, fun _ => rfl, fun i hi => absurd hi (by simp [stpsL])⟩
  · refine ⟨some ⟨b, 0, none⟩, k, cap, e1, (stpsL_len k).symm, e4, e5, (fun e => by cases e), fun i hi => ?_⟩
    rw [stpsL_len] at hi
    obtain ⟨q1, q2, q3, q4, q5, q6, q7⟩ := h2 i hi
    have hc := fun m u (q : xs[m]? = some u) => h3.cells (g := b) (by rw [e1]; rfl) m u q
    refine ⟨b, 0, fun j => if j = 0 then .int .i64 (i : Nat) else if j = 1 then .int .i64 0 else .slice (some ⟨B i, 0, none⟩) 7 7, rfl, fun j hj => ?_, ?_⟩
    · rw [Nat.zero_add]
      rcases (by omega : j = 0 ∨ j = 1 ∨ j = 2) with rfl | rfl | rfl
      · have := hc _ _ q4; rw [add_from] at this; exact this
      · have := hc _ _ q5; rw [add_from] at this; exact this
      · have := hc _ _ q6; rw [add_from] at this; exact this
    · have : (stpsL k)[i]'(by rw [stpsL_len]; exact hi) = stpL i := by simp [stpsL]
      rw [this]
      refine ⟨rfl, rfl, ⟨some ⟨B i, 0, none⟩, 7, 7, rfl, rfl, Nat.le_refl _, by unfold maxLen; omega, (fun e => by cases e), fun j hj => ?_⟩, ⟨by show -_ ≤ ((i : Nat) : Int); omega, by show ((i : Nat) : Int) ≤ _; unfold maxLen at e5; omega⟩, ⟨by show (-9223372036854775808 : Int) ≤ 0; decide, by show (0 : Int) ≤ 9223372036854775807; decide⟩, by show (7 : Nat) ≤ 140737488351232; decide⟩
      have hj' : j < 7 := hj
      refine ⟨B i, 0, _, rfl, by rw [Nat.zero_add]; exact q7.cell hj', ?_⟩
      have e7 : ∀ x : Int, x = ((j + 1 : Nat) : Int) → IntR w (.int .i64 ((j + 1 : Nat) : Int)) x := fun x hx => by subst hx; exact ⟨rfl, by omega, by omega⟩
      refine e7 _ ?_
      rcases (by omega : j = 0 ∨ j = 1 ∨ j = 2 ∨ j = 3 ∨ j = 4 ∨ j = 5 ∨ j = 6) with rfl | rfl | rfl | rfl | rfl | rfl | rfl <;> rfl
/-- one stripe more -/
theorem Lg.next {P : Program} {t ty : TypeId} {z : Value} {bytes : Nat} (h : Lg tS tI w g k v) (hg : g < w.heap.size) (ht : P.underlying t = some (.slice tS)) (hinfo : (P.info? tS).map (fun i => (i.zero, i.size, i.bytes)) = some (some z, 3, bytes)) (hzs : z.cells.size = 3)
    (hbytes : (k + 1) * (bytes + 1) ≤ 140737488355328) :
    ∃ v' w', (Builtin.append_ #[t, t] ty #[v, .slice (some ⟨w.heap.size + 1, 0, none⟩) 1 1]).run P ((w.alloc (.cells #[.int .i64 1, .int .i64 2, .int .i64 3, .int .i64 4, .int .i64 5, .int .i64 6, .int .i64 7] tI)).alloc (.cells #[.int .i64 (k : Nat), .int .i64 0, .slice (some ⟨w.heap.size, 0, none⟩) 7 7] tS)) = .ok v' w' ∧
      Lg tS tI w' g (k + 1) v' ∧ Below (g + 1) w w' := by
  obtain ⟨xs, B, h1, h2⟩ := h
  obtain ⟨w1, hw1⟩ : ∃ w1, w.alloc (.cells #[.int .i64 1, .int .i64 2, .int .i64 3, .int .i64 4, .int .i64 5, .int .i64 6, .int .i64 7] tI) = w1 := ⟨_, rfl⟩
  have hs1 : w1.heap.size = w.heap.size + 1 := by rw [← hw1]; simp
  have hb1 : Below w.heap.size w w1 := by rw [← hw1]; exact (Below.refl _ _).alloc (Nat.le_refl _) _
  have hrow : w1.rowIs w.heap.size tI 7 (fun i => .int .i64 ((i + 1 : Nat) : Int)) := by
    rw [← hw1]
    refine World.rowIs_alloc w _ tI _ fun i hi => ?_
    have : i < 7 := hi
    rcases (by omega : i = 0 ∨ i = 1 ∨ i = 2 ∨ i = 3 ∨ i = 4 ∨ i = 5 ∨ i = 6) with rfl | rfl | rfl | rfl | rfl | rfl | rfl <;> rfl
  have h1' : w1.ownsRow (g + 1) tS 3 v k xs := by rw [← hw1]; exact h1.alloc _
  obtain ⟨v', w', hrun, hown, hgr, hat⟩ := run_append_cells (P := P) w1 (g + 1) t ty tS z 3 bytes ht hinfo hzs (by omega) v k xs h1' #[.int .i64 (k : Nat), .int .i64 0, .slice (some ⟨w.heap.size, 0, none⟩) 7 7] rfl (by simp [Value.oneCell']) hbytes (by omega)
  rw [hw1]
  rw [hs1] at hrun hat
  have hxl : xs.length = k * 3 := h1.1
  have hz := hgr.size
  refine ⟨v', w', hrun, ⟨_, fun j => if j = k then w.heap.size else B j, hown, fun j hj => ?_⟩, ?_⟩
  · by_cases e : j = k
    · subst e
      simp only [if_pos]
      refine ⟨hg, by omega, ?_, ?_, ?_, ?_, hrow.of_block (hgr.block _ (by omega) (fun q => by have := (h1.lt _ q.symm).2; omega))⟩
      · rcases hat with q | q
        · rw [q]; intro q2; have := (h1.lt _ q2).2; omega
        · rw [q]; intro q2; injection q2 with q2; omega
      · rw [List.getElem?_append_right (by omega), hxl, Nat.sub_self]; rfl
      · rw [List.getElem?_append_right (by omega), hxl, show j * 3 + 1 - j * 3 = 1 by omega]; rfl
      · rw [List.getElem?_append_right (by omega), hxl, show j * 3 + 2 - j * 3 = 2 by omega]; rfl
    · simp only [if_neg e]
      obtain ⟨q1, q2, q3, q4, q5, q6, q7⟩ := h2 j (by omega)
      refine ⟨q1, by omega, ?_, ?_, ?_, ?_, (q7.of_block (hb1.block _ q2)).of_block (hgr.block _ (by omega) (fun q => q3 q.symm))⟩
      · rcases hat with q | q
        · rw [q]; exact q3
        · rw [q]; intro q8; injection q8 with q8; omega
      · rw [List.getElem?_append_left (by omega)]; exact q4
      · rw [List.getElem?_append_left (by omega)]; exact q5
      · rw [List.getElem?_append_left (by omega)]; exact q6
  · exact (hb1.mono (by omega)).trans ((Below.refl _ _).grown hgr (by omega) (fun b hb => (h1.lt b hb).1))
end
theorem i64_1 : I64 1 := ⟨by decide, by decide⟩
theorem i64_0 : I64 0 := ⟨by decide, by decide⟩
theorem key_0 : KeyOk ⟨#[]⟩ := by unfold KeyOk; decide
def rfld (v : Value) : Nat → Value := fun i => if i = 0 then .int .i64 1 else if i = 1 then .int .i64 1 else if i = 2 then .int .i64 0 else if i = 3 then .string ⟨#[]⟩ else if i = 4 then v else .slice none 0 0
theorem infoStripe : (Try.prog.info? 41).map (fun i => (i.zero, i.size, i.bytes)) = some (some (.agg #[.int .i64 0, .int .i64 0, .slice none 0 0]), 3, 40) := by kernel_rfl
theorem below_next2 {W w w' : World} (h : Below W.heap.size W w) (hb : Below w.heap.size w w') : Below W.heap.size W w' := h.trans (hb.mono h.size)
def LargeRel (W : World) (k : Nat) (v : Value) (wr : World) : Prop := wr.rowIs W.heap.size 26 7 (rfld v) ∧ Lg 41 3 wr W.heap.size k v ∧ Below W.heap.size W wr
theorem LargeRel.start (W : World) : LargeRel W 0 (.slice none 0 0) (W.alloc (.cells #[.int .i64 1, .int .i64 1, .int .i64 0, .string ⟨#[]⟩, .slice none 0 0, .slice none 0 0, .slice none 0 0] 26)) :=
  ⟨World.rowIs_alloc W _ _ _ fun i hi => (by
    have : i < 7 := hi
    rcases (by omega : i = 0 ∨ i = 1 ∨ i = 2 ∨ i = 3 ∨ i = 4 ∨ i = 5 ∨ i = 6) with rfl | rfl | rfl | rfl | rfl | rfl | rfl <;> rfl), Lg.start _ _ _ _, (Below.refl _ _).alloc (Nat.le_refl _) _⟩
theorem LargeRel.step {W wr w' : World} {k : Nat} {v v' : Value} (h : LargeRel W k v wr) (hl : Lg 41 3 w' W.heap.size (k + 1) v') (hb : Below (W.heap.size + 1) wr w') : LargeRel W (k + 1) v' (w'.setCell ⟨W.heap.size, 4, none⟩ v') := by
  obtain ⟨h1, h2, h3⟩ := h
  have hr : w'.rowIs W.heap.size 26 7 (rfld v) := h1.of_block (hb.block _ (by omega))
  refine ⟨(hr.set 4 v').congr fun i hi => ?_, hl.put _ _, (h3.trans (hb.mono (by omega))).setCell (Nat.le_refl _) _⟩
  unfold rfld
  rcases (by omega : i = 0 ∨ i = 1 ∨ i = 2 ∨ i = 3 ∨ i = 4 ∨ i = 5 ∨ i = 6) with rfl | rfl | rfl | rfl | rfl | rfl | rfl <;> rfl
theorem LargeRel.cells {W wr : World} {k : Nat} {v : Value} (h : LargeRel W k v wr) : (wr.cell? ⟨W.heap.size, 0, none⟩ = some (.int .i64 1) ∧ wr.cell? ⟨W.heap.size, 1, none⟩ = some (.int .i64 1) ∧ wr.cell? ⟨W.heap.size, 2, none⟩ = some (.int .i64 0) ∧ wr.cell? ⟨W.heap.size, 3, none⟩ = some (.string ⟨#[]⟩) ∧ wr.cell? ⟨W.heap.size, 4, none⟩ = some v ∧ wr.cell? ⟨W.heap.size, 5, none⟩ = some (.slice none 0 0) ∧ wr.cell? ⟨W.heap.size, 6, none⟩ = some (.slice none 0 0)) ∧ W.heap.size < wr.heap.size ∧ wr.frozen? ⟨W.heap.size, 4, none⟩ = false :=
  ⟨⟨h.1.cell (i := 0) (by omega), h.1.cell (i := 1) (by omega), h.1.cell (i := 2) (by omega), h.1.cell (i := 3) (by omega), h.1.cell (i := 4) (by omega), h.1.cell (i := 5) (by omega), h.1.cell (i := 6) (by omega)⟩, h.1.lt, h.1.frozen 4⟩
set_option maxHeartbeats 4000000 in
theorem RecLargeC (I : RecI) (n : Int) (l0 : 0 ≤ n) (u0 : n ≤ 255) (W : World) :
    Calls Try.prog 7 #[.int .u8 n] W fun e w' => e = .returned (.bool true) ∧ Below W.heap.size W w' := by
  obtain ⟨N, rfl⟩ := Int.eq_ofNat_of_zero_le l0
  have HST := Lib.hid (LargeRel.start W)
  go_enter Try.func7, Try.ntmps7
  go_wp2
  go_loopw [5] (fun c wr => ∃ k : Nat, k ≤ N + 100 ∧ c = .int .i64 k ∧ ∃ v, LargeRel W k v wr) (fun c _ => N + 100 - (intOf c).toNat)
  case atStart => exact ⟨0, Nat.zero_le _, rfl, _, HST.out⟩
  case round =>
    obtain ⟨k, hk, rfl, v, hrel⟩ := hrel
    have HREL := Lib.hid hrel
    obtain ⟨⟨c0, c1, c2, c3, c4, c5, c6⟩, hlt, hf⟩ := hrel.cells
    obtain ⟨A, C, rfl, hkC, hC⟩ := hrel.2.1.shape
    by_cases hlt2 : k < N + 100
    · have HNX := Lib.hid (hrel.2.1.next (P := Try.prog) (t := 22) (ty := 22) hlt Try.underlying22 infoStripe rfl (by omega))
      clear hrel c0 c1 c2 c3 c5 c6
      have hd : decide ((k : Int) < (N : Int) + 100) = true := by simp; omega
      go_wp2_with (obtain ⟨v', w', hrun, hl', hb'⟩ := HNX.out; refine Lib.wpList_append_run _ rfl (.tmp 19) (.tmp 23) 22 22 rfl _ _ rfl rfl v' w' hrun ?_; have HLR := Lib.hid (HREL.out.step hl' hb'); have d4 := (hb'.cell (p := ⟨W.heap.size, 4, none⟩) (by show W.heap.size < _; omega)).trans c4; have df := (hb'.frozen (p := ⟨W.heap.size, 4, none⟩) (by show W.heap.size < _; omega)).trans hf; obtain ⟨A2, C2, e2, _⟩ := hl'.shape; subst e2; clear hrun hl' hb')
      go_roundw
      case rel => exact ⟨k + 1, by omega, by go_num, _, HLR.out⟩
      case measure => simp [intOf]; omega
    · obtain rfl : k = N + 100 := by omega
      have HLT := Lib.hid (recL_small (k := N + 100) (by omega))
      have HV := Lib.hid (show RecV wr (.agg #[.int .i64 1, .int .i64 1, .int .i64 0, .string ⟨#[]⟩, .slice A (N + 100) C, .slice none 0 0, .slice none 0 0]) (recL (N + 100)) from
        ⟨A, none, none, C, 0, 0, by unfold recVal recL; rw [stpsL_len]; rfl, by
          have := hrel.2.1.stps
          exact ⟨by show Stps wr (.slice A (stpsL (N + 100)).length C) (stpsL (N + 100)); rw [stpsL_len]; exact this, Cells.nil _ _ _, Ints.nil _, i64_1, i64_1, i64_0, key_0, by show (stpsL (N + 100)).length ≤ _; rw [stpsL_len]; omega, Nat.zero_le _, Nat.zero_le _⟩⟩)
      have HBW := Lib.hid hrel.2.2
      have hd : decide ((N : Int) + 100 < (N : Int) + 100) = false := by simp
      clear hrel
      go_wp2_with fail
      refine (I.enc _ _ _ HV.out HLT.out).mono ?_
      rintro _ w1 ⟨u, rfl, hu, hb1⟩
      have HB1 := Lib.hid (below_next2 HBW.out hb1)
      have hu1 := hu
      clear hb1 c0 c1 c2 c3 c4 c5 c6 hf hd
      by_cases h255 : 255 < N + 100
      · obtain ⟨e1, e2⟩ := recL_form h255 (by omega)
        rw [e2] at hu1
        rw [e1]
        obtain ⟨A1, C1, rfl, -, -, -⟩ := hu1.shape
        rw [show ([] : List Nat).length = 0 from rfl]
        have hd : decide ((255 : Int) < (N : Int) + 100) = true := by simp; omega
        clear hu hu1 e1 e2
        go_wp2_with fail
        refine (answersC I _).mono ?_
        rintro _ w2 ⟨rfl, hb2⟩
        have HB2 := Lib.hid (below_next2 HB1.out hb2)
        clear hb2
        go_wp2
        go_ret
        exact ⟨rfl, HB2.out⟩
      · have hd : decide ((255 : Int) < (N : Int) + 100) = false := by simp; omega
        by_cases hbig : 8192 < 14 + 37 * (N + 100)
        · obtain ⟨e1, e2⟩ := recL_big (by omega) hbig
          rw [e2] at hu1
          rw [e1]
          obtain ⟨A1, C1, rfl, -, -, -⟩ := hu1.shape
          rw [show ([] : List Nat).length = 0 from rfl]
          have hd2 : decide ((8192 : Int) < 14 + 37 * ((N : Int) + 100)) = true := by simp; omega
          clear hu hu1 e1 e2
          go_wp2_with fail
          refine (answersC I _).mono ?_
          rintro _ w2 ⟨rfl, hb2⟩
          have HB2 := Lib.hid (below_next2 HB1.out hb2)
          clear hb2
          go_wp2
          go_ret
          exact ⟨rfl, HB2.out⟩
        · obtain ⟨e1, e2⟩ := recL_fine (by omega) hbig
          rw [e1]
          obtain ⟨A1, C1, rfl, -, -, -⟩ := hu1.shape
          obtain ⟨NB, hNB⟩ : ∃ NB, (encB (recL (N + 100))).length = NB := ⟨_, rfl⟩
          rw [hNB] at e2 ⊢
          have hpos : 0 < NB := by omega
          have hd2 : decide ((8192 : Int) < 14 + 37 * ((N : Int) + 100)) = false := by simp; omega
          have hd3 : decide ((0 : Int) < (NB : Int)) = true := by simp; omega
          clear hu hu1 e1 e2 hNB
          go_wp2_with fail
          refine (answersC I _).mono ?_
          rintro _ w2 ⟨rfl, hb2⟩
          have HB2 := Lib.hid (below_next2 HB1.out hb2)
          clear hb2
          go_wp2
          go_ret
          exact ⟨rfl, HB2.out⟩
end Go.Proofs.Ytjhlcddmpkalfaa.Rec
