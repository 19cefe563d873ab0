/- The program's own reader of records' bytes: lists of numbers, stripes. -/
import Derived.Test.YtjhlcddmpkalfaaRecRd3
namespace Go.Proofs.Ytjhlcddmpkalfaa.Rec
set_option linter.unusedVariables false
open Go.ChangeShapes Go.WideShapes Go.ChangeAt Go.RowKit
open Go.Mem RecM
/-- v is a slice that the call builds, beside older memory that may turn -/
def BuiltP {α : Type} (k : Nat) (R : World → (Nat → Value) → α → Prop) (w : World) (base t : Nat) (v : Value) (L : List α) : Prop :=
  ∃ xs : List Value, w.ownsRow base t k v L.length xs ∧ ∀ i (h : i < L.length), ∃ f : Nat → Value, (∀ j, j < k → xs[i * k + j]? = some (f j)) ∧ Sure (fun b => b < base ∨ v.ownBlock = some b) w (fun w' => R w' f L[i])
section
variable {α : Type} {k : Nat} {R : World → (Nat → Value) → α → Prop} {w w' : World} {base t : Nat} {v : Value} {L : List α}
theorem BuiltP.start (k : Nat) (R : World → (Nat → Value) → α → Prop) (w : World) (base t : Nat) : BuiltP k R w base t (.slice none 0 0) [] := ⟨[], World.ownsRow_nil _ _ _ _, fun _ h => absurd h (by simp)⟩
theorem ownsRow_turned {n : Nat} {xs : List Value} (h1 : w.ownsRow base t k v n xs) (ht : Turned (fun b => b < base) w w') : w'.ownsRow base t k v n xs := by
  have hlt := h1.lt
  refine ⟨h1.1, ?_⟩
  rcases h1.2 with h0 | ⟨g, cap, cur, e, q1, q2, q3⟩
  · exact .inl h0
  · obtain ⟨l1, l2⟩ := hlt g (by rw [e]; rfl)
    exact .inr ⟨g, cap, cur, e, q1, (ht.block g l2 (by omega)).trans q2, q3⟩
theorem BuiltP.turned (h : BuiltP k R w base t v L) (ht : Turned (fun b => b < base) w w') : BuiltP k R w' base t v L := by
  obtain ⟨xs, h1, h2⟩ := h
  refine ⟨xs, ownsRow_turned h1 ht, fun i hi => ?_⟩
  obtain ⟨f, e, hR⟩ := h2 i hi
  exact ⟨f, e, hR.later (ht.mono fun b hb => .inl hb)⟩
theorem BuiltP.below (h : BuiltP k R w base t v L) (ht : Below w.heap.size w w') : BuiltP k R w' base t v L := h.turned (Turned.of_below _ ht)
theorem BuiltP.own_lt (h : BuiltP k R w base t v L) : ∀ b, v.ownBlock = some b → base ≤ b ∧ b < w.heap.size := by
  obtain ⟨xs, h1, _⟩ := h
  exact h1.lt
theorem BuiltP.cells (h : BuiltP k R w base t v L) : Cells k R w v L := by
  obtain ⟨xs, h1, h2⟩ := h
  have h3 := h1
  rcases h1.2 with ⟨e1, e2⟩ | ⟨g, cap, cur, e1, _, e3, e4, e5, _, _⟩
  · exact ⟨none, 0, 0, e1, e2.symm, Nat.le_refl _, Nat.zero_le _, fun _ => rfl, fun i hi => absurd hi (by omega)⟩
  · refine ⟨some ⟨g, 0, none⟩, L.length, cap, e1, rfl, e4, e5, (fun e => by cases e), fun i hi => ?_⟩
    obtain ⟨f, e, hR⟩ := h2 i hi
    refine ⟨g, 0, f, rfl, fun j hj => ?_, hR.here⟩
    have := h3.cells (g := g) (by rw [e1]; rfl) _ _ (e j hj)
    rw [Nat.zero_add]
    rwa [add_from] at this
theorem BuiltP.sure (h : BuiltP k R w base t v L) : Sure (fun b => b < base) w (fun w' => Cells k R w' v L) := fun w' ht => (h.turned ht).cells
theorem BuiltP.len (h : BuiltP k R w base t v L) : ∃ A C, v = .slice A L.length C ∧ L.length ≤ C ∧ C ≤ 9223372036854775807 ∧ (A = none → C = 0) := h.cells.shape
end
theorem run_append_builtP {P : Program} {α : Type} {k : Nat} {R : World → (Nat → Value) → α → Prop} (w : World) (base : Nat) (t ty e : TypeId) (z : Value) (bytes : Nat) (ht : P.underlying t = some (.slice e))
    (hinfo : (P.info? e).map (fun i => (i.zero, i.size, i.bytes)) = some (some z, k, bytes)) (hzs : z.cells.size = k) (hk0 : 0 < k) (v : Value) (L : List α) (hown : BuiltP k R w base e v L)
    (cs : Array Value) (y : α) (hcs : cs.size = k) (h1 : ∀ u ∈ cs.toList, u.oneCell' = true) (hR : Sure (fun b => b < base ∨ v.ownBlock = some b) w (fun w' => R w' (fun j => cs.getD j undef) y)) (hbytes : (L.length + 1) * (bytes + 1) ≤ 140737488355328) (hbase : base ≤ w.heap.size) :
    ∃ v' w', (Builtin.append_ #[t, t] ty #[v, .slice (some ⟨w.heap.size, 0, none⟩) 1 1]).run P (w.alloc (.cells cs e)) = .ok v' w' ∧ BuiltP k R w' base e v' (L ++ [y]) ∧ Below base w w' := by
  obtain ⟨xs, hrow, hel⟩ := hown
  obtain ⟨v', w', hrun, hown', hg0, hat⟩ := run_append_cells (P := P) w base t ty e z k bytes ht hinfo hzs hk0 v L.length xs hrow cs hcs h1 hbytes hbase
  have key : ∀ w'', Turned (fun b => b < base ∨ v'.ownBlock = some b) w' w'' → Turned (fun b => b < base ∨ v.ownBlock = some b) w w'' := by
    intro w'' ht'
    have t1 : Turned (fun b => b < base ∨ v.ownBlock = some b) w w' := Turned.grown hg0 (fun b hb => .inr hb)
    refine t1.trans ht' fun b hb => ?_
    rcases hb with hb | hb
    · exact .inl (.inl hb)
    · rcases hat with e1 | e1
      · rw [e1] at hb; exact .inl (.inr hb)
      · rw [e1] at hb; injection hb with hb; right; omega
  refine ⟨v', w', hrun, ⟨xs ++ cs.toList, by rw [List.length_append]; exact hown', fun j hj => ?_⟩, (Below.refl _ _).grown hg0 hbase (fun b hb => (hrow.lt b hb).1)⟩
  have hxl : xs.length = L.length * k := hrow.1
  by_cases hlt : j < L.length
  · obtain ⟨f, e1, e2⟩ := hel j hlt
    have hm : j * k + k ≤ L.length * k := by
      have := Nat.mul_le_mul_right k (show j + 1 ≤ L.length from hlt)
      rw [Nat.add_mul, Nat.one_mul] at this
      exact this
    refine ⟨f, fun i hi => by rw [List.getElem?_append_left (by omega)]; exact e1 i hi, fun w'' hg' => ?_⟩
    rw [List.getElem_append_left hlt]
    exact e2 w'' (key w'' hg')
  · have hj' : j = L.length := by simp at hj; omega
    subst hj'
    refine ⟨fun i => cs.getD i undef, fun i hi => ?_, fun w'' hg' => ?_⟩
    · rw [List.getElem?_append_right (by omega), hxl, Nat.add_sub_cancel_left, Array.getElem?_toList]
      have : i < cs.size := by omega
      simp [Array.getD, this]
    · rw [List.getElem_append_right (Nat.le_refl _)]
      simpa using hR w'' (key w'' hg')
theorem wpList_append_builtP {P : Program} {α : Type} {k : Nat} {R : World → (Nat → Value) → α → Prop} (w : World) {ops : Array Oper} {rest : List Oper} {o : Oper} {a : Act} {Q : Exit → Act → World → Prop} (hgd : o.guard = none) (s x : Operand) (t : TypeId)
    (ho : o.op = .call { callee := .builtin .append, args := #[s, x], argTypes := #[t, t] })
    (base : Nat) (e : TypeId) (z : Value) (bytes : Nat) (ht : P.underlying t = some (.slice e)) (hinfo : (P.info? e).map (fun i => (i.zero, i.size, i.bytes)) = some (some z, k, bytes)) (hzs : z.cells.size = k) (hk0 : 0 < k)
    (v : Value) (L : List α) (hs : a.eval s = v) (hown : BuiltP k R w base e v L)
    (cs : Array Value) (y : α) (bk : Nat) (hx : a.eval x = .slice (some ⟨bk, 0, none⟩) 1 1) (hbk : bk = w.heap.size) (hcs : cs.size = k) (h1 : ∀ u ∈ cs.toList, u.oneCell' = true) (hR : Sure (fun b => b < base ∨ v.ownBlock = some b) w (fun w' => R w' (fun j => cs.getD j undef) y))
    (hbytes : (L.length + 1) * (bytes + 1) ≤ 140737488355328) (hbase : base ≤ w.heap.size)
    (h : ∀ v' w', BuiltP k R w' base e v' (L ++ [y]) → Below base w w' → wpList P ops Q rest (a.put o.dst v') w') : wpList P ops Q (o :: rest) a (w.alloc (.cells cs e)) := by
  subst hbk
  obtain ⟨v', w', hrun, h2, h3⟩ := run_append_builtP (P := P) w base t o.type e z bytes ht hinfo hzs hk0 v L hown cs y hcs h1 hR hbytes hbase
  exact Lib.wpList_append_run _ hgd s x t t ho _ _ hs hx v' w' hrun (h v' w' h2 h3)
theorem Turned.low {F : Nat → Prop} {B : Nat} {w w' : World} (h : Below B w w') (hF : ∀ b, ¬ F b → b < B) : Turned F w w' := ⟨h.os, h.tape, h.output, h.size, fun b _ hn => h.block b (hF b hn)⟩
theorem Turned.upto {F : Nat → Prop} {w w' w'' : World} (h : Turned F w w') (k : Below w.heap.size w' w'') : Turned F w w'' := ⟨k.os.trans h.os, k.tape.trans h.tape, k.output.trans h.output, Nat.le_trans h.size k.size, fun b hb hn => (k.block b hb).trans (h.block b hb hn)⟩
/-- the state of a list that is being read: j of them -/
def RMid {α : Type} (k : Nat) (R : World → (Nat → Value) → α → Prop) (ok : α → Prop) (E : α → List Nat) (t : Nat) (w : World) (p : Nat) (l1 : List Nat) (b1 : Bool) (j : Nat) (v : Value) (wr : World) (xs : List α) (lj : List Nat) (bj : Bool) : Prop :=
  BuiltP k R wr w.heap.size t v xs ∧ xs.length = j ∧ Turned (fun b => b = p) w wr ∧ Rd wr p lj bj ∧ Rds (okL ok j) (fun ys => ys.flatMap E) l1 b1 xs lj bj
def IntR1 (_ : World) (f : Nat → Value) (x : Int) : Prop := f 0 = .int .i64 x ∧ I64 x
theorem ints_cells {w : World} {v : Value} {l : List Int} (h : Cells 1 IntR1 w v l) : Ints w v l := by
  obtain ⟨A, n, C, h1, h2, h3, h4, h5, h6⟩ := h
  refine ⟨A, n, C, h1, h2, h3, h4, h5, fun i hi => ?_⟩
  obtain ⟨b, o, f, e1, e2, e3⟩ := h6 i hi
  have := e2 0 (by omega)
  rw [Nat.add_zero, Nat.mul_one] at this
  exact ⟨b, o, f 0, e1, this, e3⟩
def IntsV (w : World) (V : Value) (l : List Int) : Prop := Ints w V l ∧ LenOk l.length
theorem infoInt : (Try.prog.info? 3).map (fun i => (i.zero, i.size, i.bytes)) = some (some (.int .i64 0), 1, 8) := by kernel_rfl
set_option maxHeartbeats 2000000 in
theorem readInts {w : World} {p : Nat} {l : List Nat} {bad : Bool} (h : Rd w p l bad) :
    Calls Try.prog 54 #[.pointer (some ⟨p, 0, none⟩), .int .i64 255, .func (.func 38) #[.pointer (some ⟨p, 0, none⟩)] #[]] w (Red IntsV okInts intsE w p l bad) := by
  have H := Lib.hid h
  have hp := h.lt
  clear h
  go_enter Try.func54, Try.ntmps54
  go_wp2_with fail
  refine (getC H.out 0 255 1 (by unfold Most; omega) (by omega) (by omega)).mono ?_
  rintro e w1 ⟨V, x, l1, b1, rfl, hs, ht, hr, hd⟩
  obtain ⟨rfl, x0, x1⟩ := hs.here
  obtain ⟨N, rfl⟩ := Int.eq_ofNat_of_zero_le x0
  have hN : N ≤ 4294967295 := by omega
  have HFIN := Lib.hid (fun (j : Nat) (v : Value) (wr : World) (xs ys : List Int) (lj : List Nat) (bj : Bool) (vy : Value) (hm : RMid 1 IntR1 okNum numE 3 w p l1 b1 j v wr xs lj bj) (hj : j ≤ N) (hend : bj = true ∨ j = N) (hys : (bj = true ∧ ys = [] ∧ vy = .slice none 0 0) ∨ (ys = xs ∧ vy = v)) =>
    (show Red IntsV okInts intsE w p l bad (.returned vy) wr from ⟨vy, ys, lj, bj, rfl, (by
      rcases hys with ⟨_, rfl, rfl⟩ | ⟨rfl, rfl⟩
      · exact fun w' _ => ⟨Ints.nil w', Nat.zero_le _⟩
      · exact fun w' t' => ⟨ints_cells (hm.1.sure w' t'), by rw [hm.2.1]; unfold LenOk; omega⟩), hm.2.2.1, hm.2.2.2.1, rds_list (most := 255) (by decide) hd hm.2.2.2.2 hm.2.1 hj hend ys (fun hb => by
        rcases hys with ⟨q, _, _⟩ | ⟨rfl, _⟩
        · rw [q] at hb; cases hb
        · rfl)⟩))
  have HST := Lib.hid (show RMid 1 IntR1 okNum numE 3 w p l1 b1 0 (.slice none 0 0) w1 [] l1 b1 from ⟨BuiltP.start _ _ _ _ _, rfl, ht, hr, rds_none⟩)
  clear hs ht hr hd x0 x1
  go_wp2
  go_loopw [7, 11] (fun v i wr => ∃ j : Nat, j ≤ N ∧ i = .int .i64 j ∧ ∃ xs lj bj, RMid 1 IntR1 okNum numE 3 w p l1 b1 j v wr xs lj bj) (fun _ i _ => N - (intOf i).toNat)
  case atStart => exact ⟨0, Nat.zero_le _, rfl, _, _, _, HST.out⟩
  case round =>
    obtain ⟨j, hj, rfl, xs, lj, bj, hm⟩ := hrel
    have HM := Lib.hid hm
    obtain ⟨A, C, e, -, -, -⟩ := hm.1.len
    subst e
    by_cases hlt : j < N
    · obtain ⟨A2, C2, hrd⟩ := hm.2.2.2.1
      obtain ⟨-, c1⟩ := hrd.cells
      have q1 : (j : Int) < (N : Int) := by omega
      cases bj with
      | true =>
        have HX := Lib.hid (HFIN.out j _ wr xs [] lj true _ HM.out (by omega) (.inl rfl) (.inl ⟨rfl, rfl, rfl⟩))
        clear hm hrd
        go_wp2
        go_ret
        exact HX.out
      | false =>
        have hxl := hm.2.1
        have HXL := Lib.hid hxl
        clear hm hrd hxl
        go_wp2_with fail
        refine (rnumC HM.out.2.2.2.1).mono ?_
        rintro _ w2 ⟨V2, x2, l2, b2, rfl, hs2, ht2, hr2, hd2⟩
        obtain ⟨rfl, y0, y1⟩ := hs2.here
        have HB2 := Lib.hid (HM.out.1.turned (ht2.mono fun b hb => by omega))
        have HR2 := Lib.hid hr2
        have HT2 := Lib.hid (HM.out.2.2.1.trans ht2 (Grown.refl _ _))
        have HD2 := Lib.hid (rds_more code_num HM.out.2.2.2.2 hd2 HXL.out)
        have hI : I64 x2 := ⟨by omega, by omega⟩
        have HI := Lib.hid hI
        have HZ := Lib.hid (show w.heap.size ≤ w2.heap.size from HT2.out.size)
        clear c1 hs2 ht2 hr2 hd2 hI
        go_wp2_with (refine wpList_append_builtP w2 rfl (.tmp 17) (.tmp 20) 24 rfl w.heap.size 3 (.int .i64 0) 8 Try.underlying24 infoInt rfl (by decide) _ xs rfl HB2.out #[.int .i64 x2] x2 w2.heap.size rfl rfl rfl (by simp [Value.oneCell']) (fun _ _ => ⟨rfl, HI.out⟩) (by rw [HXL.out]; omega) HZ.out ?_; intro v3 w3 hb3 hbl3; have HB3 := Lib.hid hb3; have HBL3 := Lib.hid hbl3; obtain ⟨A3, C3, e3, _⟩ := hb3.len; obtain ⟨L3, hL3⟩ : ∃ L3, (xs ++ [x2]).length = L3 := ⟨_, rfl⟩; rw [hL3] at e3; subst e3; clear hb3 hbl3 hL3)
        have HX := Lib.hid (show RMid 1 IntR1 okNum numE 3 w p l1 b1 (j + 1) (.slice A3 L3 C3) w3 (xs ++ [x2]) l2 b2 from ⟨HB3.out, by rw [List.length_append, HXL.out]; rfl, Turned.upto HT2.out HBL3.out, HR2.out.later (Turned.low HBL3.out (fun b hb => by omega)), HD2.out⟩)
        go_wp2
        go_roundw
        case rel => exact ⟨j + 1, by omega, by go_num, _, _, _, HX.out⟩
        case measure => simp [intOf]; omega
    · obtain rfl : j = N := by omega
      have HX := Lib.hid (HFIN.out j _ wr xs xs lj bj _ HM.out (Nat.le_refl _) (.inr rfl) (.inr ⟨rfl, rfl⟩))
      clear hm
      go_wp2
      go_ret
      exact HX.out
theorem rdrivesC {w : World} {p : Nat} {l : List Nat} {bad : Bool} (h : Rd w p l bad) :
    Calls Try.prog 43 #[.pointer (some ⟨p, 0, none⟩)] w (Red IntsV okInts intsE w p l bad) := by
  have H := Lib.hid h
  clear h
  go_enter Try.func43, Try.ntmps43
  go_wp2_with fail
  refine (readInts H.out).mono ?_
  rintro e w2 ⟨V, x, l', bad', rfl, hs, ht, hr, hd⟩
  have HX := Lib.hid (show Red IntsV okInts intsE w p l bad (.returned V) w2 from ⟨V, x, l', bad', rfl, hs, ht, hr, hd⟩)
  obtain ⟨A, C, rfl, -⟩ := hs.here.1.shape
  clear hs ht hr hd
  go_wp2
  go_ret
  exact HX.out
end Go.Proofs.Ytjhlcddmpkalfaa.Rec
