/- The law of layer 21 that whatever steps and answers there are, the history has all calls. -/
import Derived.Test.YtcljpniknpgmpaaHsRows
import Derived.Test.YtcljpniknpgmpaaHsSame
import Derived.Test.YtcljpniknpgmpaaHsOnce
import Derived.Deep.CutBlock
namespace Go.Proofs.Ytcljpniknpgmpaa.Hst
set_option linter.unusedVariables false
open Go.ChangeShapes Go.WideShapes Go.ChangeAt Go.RowKit
open Go.Mem Hs
theorem two_rows2 (w : World) (X Y : Array Value) (T T' : TypeId) : (((w.alloc (.cells X T)).alloc (.cells Y T')).drew).rowIs w.heap.size T X.size (fun i => X.getD i undef) ∧ (((w.alloc (.cells X T)).alloc (.cells Y T')).drew).rowIs (w.heap.size + 1) T' Y.size (fun i => Y.getD i undef) ∧ Below w.heap.size w (((w.alloc (.cells X T)).alloc (.cells Y T')).drew) ∧ (((w.alloc (.cells X T)).alloc (.cells Y T')).drew).heap.size = w.heap.size + 2 := by
  have h1 := row_of w X T
  have h2 := row_of (w.alloc (.cells X T)) Y T'
  rw [show (w.alloc (.cells X T)).heap.size = w.heap.size + 1 by simp] at h2
  have hb : Below (w.alloc (.cells X T)).heap.size (w.alloc (.cells X T)) (((w.alloc (.cells X T)).alloc (.cells Y T')).drew) := ((Below.refl _ _).alloc (Nat.le_refl _) _).drew
  exact ⟨h1.of_block (hb.block _ h1.lt), h2, (((Below.refl w.heap.size w).alloc (Nat.le_refl _) _).alloc (by simp) _).drew, by show ((w.alloc (.cells X T)).alloc (.cells Y T')).heap.size = _; simp⟩
/-- in the midst of the bools' marking -/
def mkTo (s : St) (t : Int) (k : Nat) : Nat → Bool := fun j => s.ended j || (s.of t j && decide (j < k))
theorem mk_zero (s : St) (t : Int) (j : Nat) : s.ended j = mkTo s t 0 j := by simp [mkTo]
theorem mk_yes {s : St} {t : Int} {k : Nat} (h : s.of t k = true) (j : Nat) : (if j = k then true else mkTo s t k j) = mkTo s t (k + 1) j := by
  unfold mkTo
  by_cases e : j = k
  · subst e; rw [if_pos rfl, h]; simp
  · rw [if_neg e]
    have : decide (j < k) = decide (j < k + 1) := decide_eq_decide.2 (by omega)
    rw [this]
theorem mk_no {s : St} {t : Int} {k : Nat} (h : s.of t k = false) (j : Nat) : mkTo s t k j = mkTo s t (k + 1) j := by
  unfold mkTo
  by_cases e : j = k
  · subst e; rw [h]; simp
  · have : decide (j < k) = decide (j < k + 1) := decide_eq_decide.2 (by omega)
    rw [this]
section
variable {PD : Thing} {W w : World} {p : Nat} {G : Nat → Prop} {VW VE : Value} {s : St} {x : StepD} {a : AnsD} {l : List PairD} {i : Nat}
/-- the law's own account is what there is behind the step -/
def Stands (PD : Thing) (W w : World) (p : Nat) (VW VE : Value) (s : St) : Prop := LawAt PD W w p (fun _ => False) VW VE s s.calls s.calls.length s.ended
theorem stands_start (h1 : x.kind = 1) (h0 : a.e = 0) {m : Nat} (hm : s.mom + 1 = m) (h : LawAt PD W w p G VW VE (s.add x a) (s.calls ++ [fresh m x a.task]) (s.calls.length + 1) (fun j => if j = s.calls.length then false else mkTo s a.task s.calls.length j)) : Stands PD W w p VW VE (s.add x a) := by
  have e : s.add x a = s.tick.start x a.task := by unfold St.add; rw [if_pos h1, if_pos h0]
  unfold Stands
  have hc : (s.add x a).calls = s.calls ++ [fresh m x a.task] := by rw [e, ← hm]; rfl
  rw [hc, List.length_append, List.length_singleton]
  refine (h.less (fun _ q => q.elim)).en_congr fun j hj => ?_
  rw [e]
  show _ = if j = s.calls.length then false else s.ended j || s.tick.of a.task j
  by_cases ej : j = s.calls.length
  · rw [if_pos ej, if_pos ej]
  · rw [if_neg ej, if_neg ej]
    unfold mkTo
    rw [decide_eq_true (show j < s.calls.length by omega), Bool.and_true]
    rfl
theorem stands_same (e : s.add x a = s.tick) (h : LawAt PD W w p G VW VE (s.add x a) s.calls s.calls.length s.ended) : Stands PD W w p VW VE (s.add x a) := by
  unfold Stands
  have hc : (s.add x a).calls = s.calls := by rw [e]; rfl
  have he : (s.add x a).ended = s.ended := by rw [e]; rfl
  rw [hc, he]
  exact h.less (fun _ q => q.elim)
theorem stands_crash (h8 : x.kind = 8) (h : LawAt PD W w p G VW VE (s.add x a) s.calls s.calls.length (fun _ => true)) : Stands PD W w p VW VE (s.add x a) := by
  have e : s.add x a = s.tick.crash := by unfold St.add; rw [if_neg (by omega), if_neg (by omega), if_pos h8]
  unfold Stands
  have hc : (s.add x a).calls = s.calls := by rw [e]; rfl
  have he : (s.add x a).ended = fun _ => true := by rw [e]; rfl
  rw [hc, he]
  exact h.less (fun _ q => q.elim)
theorem add_other' (h1 : x.kind ≠ 1) (h2 : x.kind ≠ 2) (h8 : x.kind ≠ 8) : s.add x a = s.tick := by unfold St.add; rw [if_neg h1, if_neg h2, if_neg h8]
theorem run_same (h2 : x.kind = 2) (hn : ∀ k, k < s.calls.length → s.is x.a k = false) : s.add x a = s.tick := by
  unfold St.add
  rw [if_neg (by omega), if_pos h2]
  unfold St.run
  rw [St.tick_find, St.find_no hn]
theorem stands_hit (u : s.Uniq) (h2 : x.kind = 2) {k : Nat} (hk : k < s.calls.length) (hi : s.is x.a k = true) {m : Nat} (hm : s.mom + 1 = m) {y : CallD} (hy : y = touch m a s.calls[k]) {en : Nat → Bool} (hen : ∀ j, en j = if j = k ∧ a.done = true then true else s.ended j)
    (h : LawAt PD W w p G VW VE (s.add x a) (s.calls.set k y) s.calls.length en) : Stands PD W w p VW VE (s.add x a) := by
  have e : s.add x a = s.tick.hit k a := by
    unfold St.add
    rw [if_neg (by omega), if_pos h2]
    unfold St.run
    rw [St.tick_find, St.find_eq u hi]
  unfold Stands
  have hc : (s.add x a).calls = s.calls.set k y := by
    rw [e, hy, ← hm]
    show s.calls.set k (touch (s.mom + 1) a (s.calls.getD k noCall)) = _
    rw [St.getD_at hk]
  rw [hc, List.length_set]
  refine (h.less (fun _ q => q.elim)).en_congr fun j hj => ?_
  rw [e, hen j]
  rfl
end
set_option maxRecDepth 100000 in
set_option maxHeartbeats 32000000 in
theorem HistAddsC {PD : Thing} (I : HsI PD) (l : List PairD) (v : Value) (W : World) (t : Pairs W v l) :
    Calls Try.prog 3 #[v] W fun e w' => e = .returned (.bool true) ∧ Below W.heap.size W w' := by
  have H := Lib.hid t
  obtain ⟨A, C, rfl, h1, h2, h3⟩ := pairs_shape t
  obtain ⟨N, hN⟩ : ∃ N, l.length = N := ⟨_, rfl⟩
  have HN := Lib.hid hN
  rw [hN] at H h1 ⊢
  clear t hN
  by_cases h100 : 100 < N
  · have q1 : decide ((100 : Int) < (N : Int)) = true := by
      have : (100 : Int) < (N : Int) := by omega
      simpa using this
    have q2 : decide (100 < N) = true := by simpa using h100
    clear h100
    go_enter Try.func3, Try.ntmps3
    go_wp2_with fail
    refine (answersC I _).mono ?_
    rintro _ w2 ⟨rfl, hb2⟩
    have HB := Lib.hid hb2
    clear hb2
    go_wp2
    go_ret
    exact ⟨rfl, HB.out⟩
  · have q1 : decide ((100 : Int) < (N : Int)) = false := by
      have : ¬ (100 : Int) < (N : Int) := by omega
      simpa using this
    have q2 : decide (100 < N) = false := by simpa using h100
    have hn100 : N ≤ 100 := by omega
    clear h100
    go_enter Try.func3, Try.ntmps3
    go_wp2_with fail
    refine (I.new _).mono ?_
    rintro _ w1 ⟨F, p, rfl, hp, hF, hb1⟩
    have hal : Below w1.heap.size w1 (w1.alloc (.cells #[] TB)) := (Below.refl _ _).alloc (Nat.le_refl _) _
    have HSTART := Lib.hid (show Stands PD W (w1.alloc (.cells #[] TB)) p (.slice none 0 0) (.slice (some ⟨w1.heap.size, 0, none⟩) 0 0) (stAt l 0) from
      ⟨⟨F, I.turned hp (Turned.of_below (fun _ => False) hal) (fun _ q => q.elim), hF, (fun b q => by cases q), fun b q z => by have q' : w1.heap.size = b := Option.some.inj q; have := I.lt hp _ z; omega, fun b q => q.elim⟩,
        BuiltX.start _ _ _ _ _, ⟨[], World.ownsRow_made w1 #[] 0 (Nat.zero_le _) (Nat.zero_le _) (by simp), (fun b q z => by have q' : w1.heap.size = b := Option.some.inj q; have z' : b < W.heap.size := z; have := hb1.size; omega), fun j hj => absurd hj (by rw [stAt_zero]; simp [zero])⟩, (fun b q => by cases q), (fun b q => q.elim), hb1.trans (hal.mono hb1.size)⟩)
    clear hp hF hb1 hal
    go_wp2_with fail
    go_loopg [4, 5, 6] N (fun k vw ve c wr => ∃ i : Nat, i + k = N ∧ c = .int .i64 i ∧ Stands PD W wr p vw ve (stAt l i))
    case atStart => exact ⟨0, by omega, rfl, HSTART.out⟩
    case round =>
      obtain ⟨i, hik, rfl, hst⟩ := hrel
      have HST := Lib.hid hst
      obtain ⟨kO, hkO⟩ : ∃ z, z = gk := ⟨_, rfl⟩
      have HKO := Lib.hid hkO
      clear hkO
      by_cases hlt : i < N
      · have hil : i < l.length := by rw [HN.out]; exact hlt
        obtain ⟨bl, ol, AX, CX, AD, CD, AK, CK, rfl, p0, p1, p2, p3, p4, p5, p6, p7, p8, p9, p10, hXW, hAW⟩ := pairs_at H.out hil
        replace p0 := below_cell hst.bel _ _ p0
        replace p1 := below_cell hst.bel _ _ p1
        replace p2 := below_cell hst.bel _ _ p2
        replace p3 := below_cell hst.bel _ _ p3
        replace p4 := below_cell hst.bel _ _ p4
        replace p5 := below_cell hst.bel _ _ p5
        replace p6 := below_cell hst.bel _ _ p6
        replace p7 := below_cell hst.bel _ _ p7
        replace p8 := below_cell hst.bel _ _ p8
        replace p9 := below_cell hst.bel _ _ p9
        replace p10 := below_cell hst.bel _ _ p10
        have hok := stAt_ok l i (by omega)
        have hsucc := stAt_succ hil
        obtain ⟨s, hs⟩ : ∃ s, stAt l i = s := ⟨_, rfl⟩
        obtain ⟨⟨x, a⟩, hq⟩ : ∃ q, l[i] = q := ⟨_, rfl⟩
        rw [hq] at p0 p1 p2 p3 p4 p5 p6 p7 p8 p9 p10 hsucc hXW hAW
        rw [hs] at hsucc hok HST
        dsimp only at p0 p1 p2 p3 p4 p5 p6 p7 p8 p9 p10 hsucc hXW hAW
        have HXW := Lib.hid hXW
        have HAW := Lib.hid hAW
        have HSU := Lib.hid hsucc
        have HOK := Lib.hid hok
        obtain ⟨NX, hNX⟩ : ∃ z, x.data.length = z := ⟨_, rfl⟩
        obtain ⟨ND, hND⟩ : ∃ z, a.data.length = z := ⟨_, rfl⟩
        obtain ⟨NK, hNK⟩ : ∃ z, a.keys.length = z := ⟨_, rfl⟩
        have HNX := Lib.hid hNX
        have HND := Lib.hid hND
        have HNK := Lib.hid hNK
        rw [hNX] at p3
        rw [hND] at p9
        rw [hNK] at p10
        obtain ⟨n, hn⟩ : ∃ n, s.calls.length = n := ⟨_, rfl⟩
        have HNN := Lib.hid hn
        have hn100' : n ≤ 100 := by have := hok.2.1; omega
        have q3 : (0 : Int) ≤ (i : Int) := by omega
        have q4 : (i : Int) < (N : Int) := by omega
        have HSX := Lib.hid (show ∀ w' : World, Below wr.heap.size wr w' → w'.cell? ⟨bl, ol + i * 11, none⟩ = some (.int .i64 x.kind) ∧ w'.cell? ⟨bl, ol + i * 11 + 1, none⟩ = some (.int .i64 x.a) ∧ w'.cell? ⟨bl, ol + i * 11 + 2, none⟩ = some (.string x.key) ∧ w'.cell? ⟨bl, ol + i * 11 + 3, none⟩ = some (.slice AX NX CX) ∧ w'.cell? ⟨bl, ol + i * 11 + 4, none⟩ = some (.int .u64 x.keep) ∧ w'.cell? ⟨bl, ol + i * 11 + 5, none⟩ = some (.int .i64 a.e) ∧ w'.cell? ⟨bl, ol + i * 11 + 6, none⟩ = some (.int .i64 a.task) ∧ w'.cell? ⟨bl, ol + i * 11 + 7, none⟩ = some (.bool a.done) ∧ w'.cell? ⟨bl, ol + i * 11 + 8, none⟩ = some (.int .i64 a.mark) ∧ w'.cell? ⟨bl, ol + i * 11 + 9, none⟩ = some (.slice AD ND CD) ∧ w'.cell? ⟨bl, ol + i * 11 + 10, none⟩ = some (.slice AK NK CK) from fun w' q => ⟨below_cell q _ _ p0, below_cell q _ _ p1, below_cell q _ _ p2, below_cell q _ _ p3, below_cell q _ _ p4, below_cell q _ _ p5, below_cell q _ _ p6, below_cell q _ _ p7, below_cell q _ _ p8, below_cell q _ _ p9, below_cell q _ _ p10⟩)
        have hd0 : Below wr.heap.size wr wr.drew := Go.Mem.below_drewN _ wr 1
        have HNR := Lib.hid (Nat.le_refl wr.heap.size)
        clear p0 p1 p2 p3 p4 p5 p6 p7 p8 p9 p10 hXW hAW hok hsucc hNX hND hNK hn hil hst hs hq
        go_upto_region 9 with fail
        go_cut [7, 8] from 24 to 33 (fun sx sa wz => ∃ bx ba : Nat, sx = .pointer (some ⟨bx, 0, none⟩) ∧ sa = .pointer (some ⟨ba, 0, none⟩) ∧ bx ≠ ba ∧ wz.rowIs bx TStep 5 (fun j => #[Value.int .i64 x.kind, .int .i64 x.a, .string x.key, .slice AX NX CX, .int .u64 x.keep].getD j undef) ∧ wz.rowIs ba TAns 6 (fun j => #[Value.int .i64 a.e, .int .i64 a.task, .bool a.done, .int .i64 a.mark, .slice AD ND CD, .slice AK NK CK].getD j undef) ∧ LawAt PD W wz p (fun b => b = bx ∨ b = ba) u4 u5 s s.calls s.calls.length s.ended)
        case first =>
          refine wp_region_noPanic ?_
          refine wp_region_till [12, 13] (fun w' => Below wr.heap.size wr w') (by kernel_rfl) hd0 (fun _ => ?_)
          have hHeld := hd0
          refine wpAnyT_take (i := 0) (oi := ?oiz1) (v := ?vz1) ?h1z1 (by kernel_rfl) (by kernel_rfl) (by kernel_rfl) (by kernel_rfl) (fun _ _ _ h => h) ?hyz1 (HeldT.of hHeld) ?_
          case h1z1 => (simp only [List.getElem?_toArray, List.getElem?_cons_zero]; rfl)
          case hyz1 => first | (refine Or.inr ⟨rfl, ?_⟩; rfl) | (refine Or.inl ⟨rfl, ?_⟩; intro w hSw; (try dsimp only at hSw); go_simp; done) | (refine Or.inl ⟨rfl, ?_⟩; intro w hSw; (try dsimp only at hSw); go_simp; with_reducible rfl)
          try simp only [Act.put, List.setIfInBounds_toArray, List.set_cons_zero, List.set_cons_succ]
          refine wpAnyT_take (i := 1) (oi := ?oiz2) (v := ?vz2) ?h1z2 (by kernel_rfl) (by kernel_rfl) (by kernel_rfl) (by kernel_rfl) (fun _ _ _ h => h) ?hyz2 (HeldT.of hHeld) ?_
          case h1z2 => (simp only [List.getElem?_toArray, List.getElem?_cons_succ, List.getElem?_cons_zero]; rfl)
          case hyz2 => first | (refine Or.inr ⟨rfl, ?_⟩; rfl) | (refine Or.inl ⟨rfl, ?_⟩; intro w hSw; (try dsimp only at hSw); go_simp; done) | (refine Or.inl ⟨rfl, ?_⟩; intro w hSw; (try dsimp only at hSw); go_simp; with_reducible rfl)
          try simp only [Act.put, List.setIfInBounds_toArray, List.set_cons_zero, List.set_cons_succ]
          refine wpAnyT_take (i := 2) (oi := ?oiz3) (v := ?vz3) ?h1z3 (by kernel_rfl) (by kernel_rfl) (by kernel_rfl) (by kernel_rfl) (fun _ _ _ h => h) ?hyz3 (HeldT.of hHeld) ?_
          case h1z3 => (simp only [List.getElem?_toArray, List.getElem?_cons_succ, List.getElem?_cons_zero]; rfl)
          case hyz3 => first | (refine Or.inr ⟨rfl, ?_⟩; rfl) | (refine Or.inl ⟨rfl, ?_⟩; intro w hSw; (try dsimp only at hSw); go_simp; done) | (refine Or.inl ⟨rfl, ?_⟩; intro w hSw; (try dsimp only at hSw); go_simp; with_reducible rfl)
          try simp only [Act.put, List.setIfInBounds_toArray, List.set_cons_zero, List.set_cons_succ]
          refine wpAnyT_take (i := 3) (oi := ?oiz4) (v := ?vz4) ?h1z4 (by kernel_rfl) (by kernel_rfl) (by kernel_rfl) (by kernel_rfl) (fun _ _ _ h => h) ?hyz4 (HeldT.of hHeld) ?_
          case h1z4 => (simp only [List.getElem?_toArray, List.getElem?_cons_succ, List.getElem?_cons_zero]; rfl)
          case hyz4 => first | (refine Or.inr ⟨rfl, ?_⟩; rfl) | (refine Or.inl ⟨rfl, ?_⟩; intro w hSw; (try dsimp only at hSw); go_simp; done) | (refine Or.inl ⟨rfl, ?_⟩; intro w hSw; (try dsimp only at hSw); go_simp; with_reducible rfl)
          try simp only [Act.put, List.setIfInBounds_toArray, List.set_cons_zero, List.set_cons_succ]
          refine wpAnyT_load 12 (i := 4) (oi := ?oiz5) (v := ?vz5) ?h1z5 (by kernel_rfl) (by kernel_rfl) (by kernel_rfl) (by kernel_rfl) (fun _ _ _ h => h) ?hyz5 (HeldT.of hHeld) ?_
          case h1z5 => (simp only [List.getElem?_toArray, List.getElem?_cons_succ, List.getElem?_cons_zero]; rfl)
          case hyz5 => first | (refine Or.inr ⟨rfl, ?_⟩; rfl) | (refine Or.inl ⟨rfl, ?_⟩; intro w hSw; (have hSc := HSX.out w hSw); go_simp; done) | (refine Or.inl ⟨rfl, ?_⟩; intro w hSw; (have hSc := HSX.out w hSw); go_simp; with_reducible rfl)
          try simp only [Act.put, List.setIfInBounds_toArray, List.set_cons_zero, List.set_cons_succ]
          refine wpAnyT_take (i := 5) (oi := ?oiz6) (v := ?vz6) ?h1z6 (by kernel_rfl) (by kernel_rfl) (by kernel_rfl) (by kernel_rfl) (fun _ _ _ h => h) ?hyz6 (HeldT.of hHeld) ?_
          case h1z6 => (simp only [List.getElem?_toArray, List.getElem?_cons_succ, List.getElem?_cons_zero]; rfl)
          case hyz6 => first | (refine Or.inr ⟨rfl, ?_⟩; rfl) | (refine Or.inl ⟨rfl, ?_⟩; intro w hSw; (try dsimp only at hSw); go_simp; done) | (refine Or.inl ⟨rfl, ?_⟩; intro w hSw; (try dsimp only at hSw); go_simp; with_reducible rfl)
          try simp only [Act.put, List.setIfInBounds_toArray, List.set_cons_zero, List.set_cons_succ]
          refine wpAnyT_take (i := 6) (oi := ?oiz7) (v := ?vz7) ?h1z7 (by kernel_rfl) (by kernel_rfl) (by kernel_rfl) (by kernel_rfl) (fun _ _ _ h => h) ?hyz7 (HeldT.of hHeld) ?_
          case h1z7 => (simp only [List.getElem?_toArray, List.getElem?_cons_succ, List.getElem?_cons_zero]; rfl)
          case hyz7 => first | (refine Or.inr ⟨rfl, ?_⟩; rfl) | (refine Or.inl ⟨rfl, ?_⟩; intro w hSw; (try dsimp only at hSw); go_simp; done) | (refine Or.inl ⟨rfl, ?_⟩; intro w hSw; (try dsimp only at hSw); go_simp; with_reducible rfl)
          try simp only [Act.put, List.setIfInBounds_toArray, List.set_cons_zero, List.set_cons_succ]
          refine wpAnyT_take (i := 7) (oi := ?oiz8) (v := ?vz8) ?h1z8 (by kernel_rfl) (by kernel_rfl) (by kernel_rfl) (by kernel_rfl) (fun _ _ _ h => h) ?hyz8 (HeldT.of hHeld) ?_
          case h1z8 => (simp only [List.getElem?_toArray, List.getElem?_cons_succ, List.getElem?_cons_zero]; rfl)
          case hyz8 => first | (refine Or.inr ⟨rfl, ?_⟩; rfl) | (refine Or.inl ⟨rfl, ?_⟩; intro w hSw; (try dsimp only at hSw); go_simp; done) | (refine Or.inl ⟨rfl, ?_⟩; intro w hSw; (try dsimp only at hSw); go_simp; with_reducible rfl)
          try simp only [Act.put, List.setIfInBounds_toArray, List.set_cons_zero, List.set_cons_succ]
          refine wpAnyT_take (i := 8) (oi := ?oiz9) (v := ?vz9) ?h1z9 (by kernel_rfl) (by kernel_rfl) (by kernel_rfl) (by kernel_rfl) (fun _ _ _ h => h) ?hyz9 (HeldT.of hHeld) ?_
          case h1z9 => (simp only [List.getElem?_toArray, List.getElem?_cons_succ, List.getElem?_cons_zero]; rfl)
          case hyz9 => first | (refine Or.inr ⟨rfl, ?_⟩; rfl) | (refine Or.inl ⟨rfl, ?_⟩; intro w hSw; (try dsimp only at hSw); go_simp; done) | (refine Or.inl ⟨rfl, ?_⟩; intro w hSw; (try dsimp only at hSw); go_simp; with_reducible rfl)
          try simp only [Act.put, List.setIfInBounds_toArray, List.set_cons_zero, List.set_cons_succ]
          refine wpAnyT_load 13 (i := 9) (oi := ?oiz10) (v := ?vz10) ?h1z10 (by kernel_rfl) (by kernel_rfl) (by kernel_rfl) (by kernel_rfl) (fun _ _ _ h => h) ?hyz10 (HeldT.of hHeld) ?_
          case h1z10 => (simp only [List.getElem?_toArray, List.getElem?_cons_succ, List.getElem?_cons_zero]; rfl)
          case hyz10 => first | (refine Or.inr ⟨rfl, ?_⟩; rfl) | (refine Or.inl ⟨rfl, ?_⟩; intro w hSw; (have hSc := HSX.out w hSw); go_simp; done) | (refine Or.inl ⟨rfl, ?_⟩; intro w hSw; (have hSc := HSX.out w hSw); go_simp; with_reducible rfl)
          try simp only [Act.put, List.setIfInBounds_toArray, List.set_cons_zero, List.set_cons_succ]
          refine wpAnyT_ready (rs := [10, 11]) (by kernel_rfl) (by simp) ?_
          refine AllReadyT.cons (o := ?oiz11) ?h1z11 (fun K hK => ?_) (AllReadyT.cons (o := ?oiy11) ?h1y11 (fun K hK => ?_) AllReadyT.nil)
          case h1z11 => (simp only [List.getElem?_toArray, List.getElem?_cons_succ, List.getElem?_cons_zero]; rfl)
          case h1y11 => (simp only [List.getElem?_toArray, List.getElem?_cons_succ, List.getElem?_cons_zero]; rfl)
          · go_simp
            have hd1 := hd0.alloc hd0.size (.cells #[.int .i64 0, .int .i64 0, .string ⟨#[]⟩, .slice none 0 0, .int .u64 0] TStep)
            have hHeld := hd1
            refine hK.out _ _ (HeldT.of hHeld) (fun _ => ?_)
            clear hK K
            try simp only [Act.put, List.setIfInBounds_toArray, List.set_cons_zero, List.set_cons_succ]
            have hd2 := hd1.alloc hd1.size (.cells #[.int .i64 0, .int .i64 0, .bool false, .int .i64 0, .slice none 0 0, .slice none 0 0] TAns)
            refine wpAnyT_ready (rs := [11]) (by kernel_rfl) (by simp) ?_
            refine AllReadyT.cons (o := ?oiz12) ?h1z12 (fun K hK => ?_) ?morez12
            case h1z12 => (simp only [List.getElem?_toArray, List.getElem?_cons_succ, List.getElem?_cons_zero]; rfl)
            case morez12 => exact AllReadyT.nil
            go_simp
            have hHeld := hd2
            refine hK.out _ _ (HeldT.of hHeld) (fun _ => ?_)
            clear hK K
            try simp only [Act.put, List.setIfInBounds_toArray, List.set_cons_zero, List.set_cons_succ]
            refine wpAnyT_ready (rs := [12]) (by kernel_rfl) (by simp) ?_
            refine AllReadyT.cons (o := ?oiz13) ?h1z13 (fun K hK => ?_) ?morez13
            case h1z13 => (simp only [List.getElem?_toArray, List.getElem?_cons_succ, List.getElem?_cons_zero]; rfl)
            case morez13 => exact AllReadyT.nil
            go_simp
            have hHeld := ((((Below.refl wr.heap.size wr).alloc (Nat.le_refl _) (.cells #[.int .i64 x.kind, .int .i64 x.a, .string x.key, .slice AX NX CX, .int .u64 x.keep] TStep)).alloc (by simp) (.cells #[.int .i64 0, .int .i64 0, .bool false, .int .i64 0, .slice none 0 0, .slice none 0 0] TAns)).drew)
            refine hK.out _ _ (HeldT.of hHeld) (fun _ => ?_)
            clear hK K
            try simp only [Act.put, List.setIfInBounds_toArray, List.set_cons_zero, List.set_cons_succ]
            refine wpAnyT_ready (rs := [13]) (by kernel_rfl) (by simp) ?_
            refine AllReadyT.cons (o := ?oiz14) ?h1z14 (fun K hK => ?_) ?morez14
            case h1z14 => (simp only [List.getElem?_toArray, List.getElem?_cons_succ, List.getElem?_cons_zero]; rfl)
            case morez14 => exact AllReadyT.nil
            go_simp
            refine hK.out _ _ (HeldT.over (by kernel_rfl)) (fun _ => ?_)
            clear hK K
            try simp only [Act.put, List.setIfInBounds_toArray, List.set_cons_zero, List.set_cons_succ]
            refine wpAnyT_done (by kernel_rfl) ?_ _
            refine NoPanic.normal ?_
            obtain ⟨hr0, hr1, hbz, hsz⟩ := two_rows2 wr #[Value.int .i64 x.kind, .int .i64 x.a, .string x.key, .slice AX NX CX, .int .u64 x.keep] #[Value.int .i64 a.e, .int .i64 a.task, .bool a.done, .int .i64 a.mark, .slice AD ND CD, .slice AK NK CK] TStep TAns
            obtain ⟨wz, hwz⟩ : ∃ wz, ((wr.alloc (.cells #[.int .i64 x.kind, .int .i64 x.a, .string x.key, .slice AX NX CX, .int .u64 x.keep] TStep)).alloc (.cells #[.int .i64 a.e, .int .i64 a.task, .bool a.done, .int .i64 a.mark, .slice AD ND CD, .slice AK NK CK] TAns)).drew = wz := ⟨_, rfl⟩
            rw [hwz] at hr0 hr1 hbz hsz ⊢
            go_wp2
            go_meet
            case rel => exact ⟨wr.heap.size, (wr.heap.size + 1), rfl, rfl, by omega, hr0, hr1, HST.out.more I hbz (fun b q => by rcases q with q | q <;> omega)⟩
          · go_simp
            have hd1 := hd0.alloc hd0.size (.cells #[.int .i64 0, .int .i64 0, .bool false, .int .i64 0, .slice none 0 0, .slice none 0 0] TAns)
            have hHeld := hd1
            refine hK.out _ _ (HeldT.of hHeld) (fun _ => ?_)
            clear hK K
            try simp only [Act.put, List.setIfInBounds_toArray, List.set_cons_zero, List.set_cons_succ]
            have hd2 := hd1.alloc hd1.size (.cells #[.int .i64 0, .int .i64 0, .string ⟨#[]⟩, .slice none 0 0, .int .u64 0] TStep)
            refine wpAnyT_ready (rs := [10]) (by kernel_rfl) (by simp) ?_
            refine AllReadyT.cons (o := ?oiz15) ?h1z15 (fun K hK => ?_) ?morez15
            case h1z15 => (simp only [List.getElem?_toArray, List.getElem?_cons_succ, List.getElem?_cons_zero]; rfl)
            case morez15 => exact AllReadyT.nil
            go_simp
            have hHeld := hd2
            refine hK.out _ _ (HeldT.of hHeld) (fun _ => ?_)
            clear hK K
            try simp only [Act.put, List.setIfInBounds_toArray, List.set_cons_zero, List.set_cons_succ]
            refine wpAnyT_ready (rs := [12]) (by kernel_rfl) (by simp) ?_
            refine AllReadyT.cons (o := ?oiz16) ?h1z16 (fun K hK => ?_) ?morez16
            case h1z16 => (simp only [List.getElem?_toArray, List.getElem?_cons_succ, List.getElem?_cons_zero]; rfl)
            case morez16 => exact AllReadyT.nil
            go_simp
            have hHeld := ((((Below.refl wr.heap.size wr).alloc (Nat.le_refl _) (.cells #[.int .i64 0, .int .i64 0, .bool false, .int .i64 0, .slice none 0 0, .slice none 0 0] TAns)).alloc (by simp) (.cells #[.int .i64 x.kind, .int .i64 x.a, .string x.key, .slice AX NX CX, .int .u64 x.keep] TStep)).drew)
            refine hK.out _ _ (HeldT.of hHeld) (fun _ => ?_)
            clear hK K
            try simp only [Act.put, List.setIfInBounds_toArray, List.set_cons_zero, List.set_cons_succ]
            refine wpAnyT_ready (rs := [13]) (by kernel_rfl) (by simp) ?_
            refine AllReadyT.cons (o := ?oiz17) ?h1z17 (fun K hK => ?_) ?morez17
            case h1z17 => (simp only [List.getElem?_toArray, List.getElem?_cons_succ, List.getElem?_cons_zero]; rfl)
            case morez17 => exact AllReadyT.nil
            go_simp
            refine hK.out _ _ (HeldT.over (by kernel_rfl)) (fun _ => ?_)
            clear hK K
            try simp only [Act.put, List.setIfInBounds_toArray, List.set_cons_zero, List.set_cons_succ]
            refine wpAnyT_done (by kernel_rfl) ?_ _
            refine NoPanic.normal ?_
            obtain ⟨hr0, hr1, hbz, hsz⟩ := two_rows2 wr #[Value.int .i64 a.e, .int .i64 a.task, .bool a.done, .int .i64 a.mark, .slice AD ND CD, .slice AK NK CK] #[Value.int .i64 x.kind, .int .i64 x.a, .string x.key, .slice AX NX CX, .int .u64 x.keep] TAns TStep
            obtain ⟨wz, hwz⟩ : ∃ wz, ((wr.alloc (.cells #[.int .i64 a.e, .int .i64 a.task, .bool a.done, .int .i64 a.mark, .slice AD ND CD, .slice AK NK CK] TAns)).alloc (.cells #[.int .i64 x.kind, .int .i64 x.a, .string x.key, .slice AX NX CX, .int .u64 x.keep] TStep)).drew = wz := ⟨_, rfl⟩
            rw [hwz] at hr0 hr1 hbz hsz ⊢
            go_wp2
            go_meet
            case rel => exact ⟨(wr.heap.size + 1), wr.heap.size, rfl, rfl, by omega, hr1, hr0, HST.out.more I hbz (fun b q => by rcases q with q | q <;> omega)⟩
        case rest =>
          obtain ⟨bx, ba, rfl, rfl, hne, hrx, hra, hlaw⟩ := hcut
          obtain ⟨AW, CW, rfl, gw1, gw2⟩ := hlaw.shapeW
          obtain ⟨AE, CE, rfl, ge1, ge2⟩ := hlaw.shapeE
          have HLAW := Lib.hid hlaw
          have HRX := Lib.hid hrx
          have HRA := Lib.hid hra
          rw [HNN.out] at HLAW gw1 ge1 ⊢
          have x3 : wc.cell? ⟨bx, 3, none⟩ = some (.slice AX NX CX) := hrx.cell (i := 3) (by omega)
          have y4 : wc.cell? ⟨ba, 4, none⟩ = some (.slice AD ND CD) := hra.cell (i := 4) (by omega)
          have y5 : wc.cell? ⟨ba, 5, none⟩ = some (.slice AK NK CK) := hra.cell (i := 5) (by omega)
          clear hlaw
          by_cases hbNX : 200 < NX
          · have qx : decide ((200 : Int) < (NX : Int)) = true := by
              have : (200 : Int) < (NX : Int) := by omega
              simpa using this
            have qx' : decide (200 < NX) = true := by simpa using hbNX
            clear hbNX hrx hra
            go_wp2_with fail
            refine (answersC I _).mono ?_
            rintro _ w7 ⟨rfl, hb7⟩
            have HB7 := Lib.hid (HLAW.out.bel.trans (hb7.mono HLAW.out.bel.size))
            clear hb7
            go_wp2
            go_ret
            exact ⟨rfl, HB7.out⟩
          · have qx : decide ((200 : Int) < (NX : Int)) = false := by
              have : ¬ (200 : Int) < (NX : Int) := by omega
              simpa using this
            have qx' : decide (200 < NX) = false := by simpa using hbNX
            by_cases hbND : 200 < ND
            · have qd : decide ((200 : Int) < (ND : Int)) = true := by
                have : (200 : Int) < (ND : Int) := by omega
                simpa using this
              have qd' : decide (200 < ND) = true := by simpa using hbND
              clear hbNX hbND hrx hra
              go_wp2_with fail
              refine (answersC I _).mono ?_
              rintro _ w7 ⟨rfl, hb7⟩
              have HB7 := Lib.hid (HLAW.out.bel.trans (hb7.mono HLAW.out.bel.size))
              clear hb7
              go_wp2
              go_ret
              exact ⟨rfl, HB7.out⟩
            · have qd : decide ((200 : Int) < (ND : Int)) = false := by
                have : ¬ (200 : Int) < (ND : Int) := by omega
                simpa using this
              have qd' : decide (200 < ND) = false := by simpa using hbND
              by_cases hbNK : 50 < NK
              · have qk : decide ((50 : Int) < (NK : Int)) = true := by
                  have : (50 : Int) < (NK : Int) := by omega
                  simpa using this
                have qk' : decide (50 < NK) = true := by simpa using hbNK
                clear hbNX hbND hbNK hrx hra
                go_wp2_with fail
                refine (answersC I _).mono ?_
                rintro _ w7 ⟨rfl, hb7⟩
                have HB7 := Lib.hid (HLAW.out.bel.trans (hb7.mono HLAW.out.bel.size))
                clear hb7
                go_wp2
                go_ret
                exact ⟨rfl, HB7.out⟩
              · have qk : decide ((50 : Int) < (NK : Int)) = false := by
                  have : ¬ (50 : Int) < (NK : Int) := by omega
                  simpa using this
                have qk' : decide (50 < NK) = false := by simpa using hbNK
                have hNX200 : NX ≤ 200 := by omega
                have HFIT := Lib.hid (show Fit x a from ⟨by rw [HNX.out]; omega, by rw [HND.out]; omega, by rw [HNK.out]; omega⟩)
                have hadd := HLAW.out.addL I ⟨by rw [HNN.out]; omega, by rw [HOK.out.1]; omega⟩ HXW.out HAW.out HFIT.out
                unfold stepVal ansVal at hadd
                rw [HNX.out, HND.out, HNK.out] at hadd
                have HADD := Lib.hid hadd
                have HTSK := Lib.hid (show I64 a.task from by
                  obtain ⟨_, _, _, _, _, _, _, _, q, _⟩ := HAW.out
                  exact q)
                have HAE := Lib.hid (show I64 a.e from by
                  obtain ⟨_, _, _, _, _, _, _, q, _⟩ := HAW.out
                  exact q)
                have x0 : wc.cell? ⟨bx, 0, none⟩ = some (.int .i64 x.kind) := hrx.cell (i := 0) (by omega)
                have x1 : wc.cell? ⟨bx, 1, none⟩ = some (.int .i64 x.a) := hrx.cell (i := 1) (by omega)
                have x2 : wc.cell? ⟨bx, 2, none⟩ = some (.string x.key) := hrx.cell (i := 2) (by omega)
                have x4 : wc.cell? ⟨bx, 4, none⟩ = some (.int .u64 x.keep) := hrx.cell (i := 4) (by omega)
                have y0 : wc.cell? ⟨ba, 0, none⟩ = some (.int .i64 a.e) := hra.cell (i := 0) (by omega)
                have y1 : wc.cell? ⟨ba, 1, none⟩ = some (.int .i64 a.task) := hra.cell (i := 1) (by omega)
                have y2 : wc.cell? ⟨ba, 2, none⟩ = some (.bool a.done) := hra.cell (i := 2) (by omega)
                have y3 : wc.cell? ⟨ba, 3, none⟩ = some (.int .i64 a.mark) := hra.cell (i := 3) (by omega)
                clear hbNX hbND hbNK hadd hrx hra
                go_wp2_with fail
                refine HADD.out.mono ?_
                rintro _ w5 ⟨rfl, hl5, hk5⟩
                have HL5 := Lib.hid hl5
                have HRX5 := Lib.hid (HRX.out.of_block (hk5 bx (.inl rfl)))
                have HRA5 := Lib.hid (HRA.out.of_block (hk5 ba (.inr rfl)))
                clear hl5 hk5 x0 x1 x2 x3 x4 y0 y1 y2 y3 y4 y5 qx qx' qd qd' qk qk'
                have x0 : w5.cell? ⟨bx, 0, none⟩ = some (.int .i64 x.kind) := HRX5.out.cell (i := 0) (by omega)
                have y0 : w5.cell? ⟨ba, 0, none⟩ = some (.int .i64 a.e) := HRA5.out.cell (i := 0) (by omega)
                by_cases h1k : x.kind = 1
                · have s1 : (x.kind == (1 : Int)) = true := by rw [h1k]; rfl
                  have HK1 := Lib.hid h1k
                  clear h1k
                  by_cases he : a.e = 0
                  · have r0 : (a.e == (0 : Int)) = true := by rw [he]; rfl
                    have HE0 := Lib.hid he
                    clear he
                    go_wp2_with fail
                    go_loopg [9] n (fun kk d w9 => ∃ k : Nat, k + kk = n ∧ d = .int .i64 k ∧ LawAt PD W w9 p (fun b => b = bx ∨ b = ba) (.slice AW n CW) (.slice AE n CE) (s.add x a) s.calls n (mkTo s a.task k) ∧ w9.rowIs bx TStep 5 (fun j => #[Value.int .i64 x.kind, .int .i64 x.a, .string x.key, .slice AX NX CX, .int .u64 x.keep].getD j undef) ∧ w9.rowIs ba TAns 6 (fun j => #[Value.int .i64 a.e, .int .i64 a.task, .bool a.done, .int .i64 a.mark, .slice AD ND CD, .slice AK NK CK].getD j undef))
                    case atStart => exact ⟨0, by omega, rfl, HL5.out.en_congr (fun j _ => mk_zero s a.task j), HRX5.out, HRA5.out⟩
                    case round =>
                      obtain ⟨k, hkk, rfl, hl9, hrx9, hra9⟩ := hrel
                      have HL9 := Lib.hid hl9
                      have HRX9 := Lib.hid hrx9
                      have HRA9 := Lib.hid hra9
                      by_cases hkn : k < n
                      · have hkl : k < s.calls.length := by rw [HNN.out]; exact hkn
                        obtain ⟨ge, CE', eE, -, eb0, ebf⟩ := hl9.boolAt hkn
                        obtain ⟨gw, CW', f, eW, -, -, hc, -, hR, -⟩ := hl9.want.el hkl
                        rw [HNN.out] at eW
                        cases eE
                        cases eW
                        have c0 := hc 0 (by omega)
                        rw [hR.here.r0, Nat.add_zero] at c0
                        have y1 : wr.cell? ⟨ba, 1, none⟩ = some (.int .i64 a.task) := hra9.cell (i := 1) (by omega)
                        have hof := St.of_at (s := s) (t := a.task) hkl
                        obtain ⟨tk, htk⟩ : ∃ z, s.calls[k].task = z := ⟨_, rfl⟩
                        rw [htk] at c0 hof
                        have z1 : (0 : Int) ≤ (k : Int) := by omega
                        have z2 : (k : Int) < (n : Int) := by omega
                        by_cases ht : tk = a.task
                        · have r1 : (tk == a.task) = true := by rw [ht]; simp
                          have HOF := Lib.hid (show s.of a.task k = true by rw [hof, ht]; simp)
                          have hnl := hl9.endL I hkn
                          have HNL := Lib.hid (hnl.1.en_congr (fun j _ => mk_yes HOF.out j))
                          have HRX10 := Lib.hid (hrx9.of_block (hnl.2 bx (.inl rfl)))
                          have HRA10 := Lib.hid (hra9.of_block (hnl.2 ba (.inr rfl)))
                          clear hof htk hnl hc hR hl9 hrx9 hra9 ht hkl
                          go_wp2
                          go_quiet (fail)
                          go_wp2
                          go_roundg (gk - 1)
                          case measure => omega
                          case rel => exact ⟨k + 1, by omega, by go_num, HNL.out.below I (Go.Mem.below_drewN _ _ _), HRX10.out, HRA10.out⟩
                        · have r1 : (tk == a.task) = false := by simpa using ht
                          have HOF := Lib.hid (show s.of a.task k = false by rw [hof]; simpa using ht)
                          clear hof htk hc hR hl9 hrx9 hra9 ht hkl
                          go_wp2
                          go_quiet (fail)
                          go_wp2
                          go_roundg (gk - 1)
                          case measure => omega
                          case rel => exact ⟨k + 1, by omega, by go_num, (HL9.out.en_congr (fun j _ => mk_no HOF.out j)).below I (Go.Mem.below_drewN _ _ _), HRX9.out, HRA9.out⟩
                      · obtain rfl : k = n := by omega
                        have HM := Lib.hid (show s.mom + 1 = i + 1 by rw [HOK.out.1])
                        obtain ⟨A6, C6, w6, hr6, hl6, hk6⟩ := HL9.out.appW I (x := x) (mom := i + 1) (by rw [HNN.out]; omega) HTSK.out HXW.out (by rw [HNX.out]; omega) (by omega)
                        obtain ⟨A7, C7, w7, hr7, hl7, hk7⟩ := hl6.appE I (by omega)
                        rw [HNN.out] at hr6 hl6 hl7
                        rw [HNX.out] at hr6
                        rw [show ((i + 1 : Nat) : Int) = (i : Int) + 1 from rfl] at hr6
                        have HR6 := Lib.hid hr6
                        have HR7 := Lib.hid hr7
                        have HFIN := Lib.hid (stands_start HK1.out HE0.out HM.out (by rw [HNN.out]; exact hl7))
                        have x1 : wr.cell? ⟨bx, 1, none⟩ = some (.int .i64 x.a) := HRX9.out.cell (i := 1) (by omega)
                        have x2 : wr.cell? ⟨bx, 2, none⟩ = some (.string x.key) := HRX9.out.cell (i := 2) (by omega)
                        have x3 : wr.cell? ⟨bx, 3, none⟩ = some (.slice AX NX CX) := HRX9.out.cell (i := 3) (by omega)
                        have y1 : wr.cell? ⟨ba, 1, none⟩ = some (.int .i64 a.task) := HRA9.out.cell (i := 1) (by omega)
                        clear hr6 hl6 hk6 hr7 hl7 hk7 hl9 hrx9 hra9
                        go_wp2_with (first | (at_builtin; refine Lib.wpList_append_run _ rfl (.tmp 79) (.tmp 91) 26 26 rfl _ _ rfl rfl _ _ HR6.out ?_) | (at_builtin; refine Lib.wpList_append_run _ rfl (.tmp 93) (.tmp 94) 27 27 rfl _ _ rfl rfl _ _ HR7.out ?_))
                        go_roundg (kO - 1)
                        case measure => have := HKO.out; omega
                        case rel => exact ⟨i + 1, by have := HKO.out; omega, by go_num, by rw [HSU.out]; exact HFIN.out⟩
                  · have r0 : (a.e == (0 : Int)) = false := by simpa using he
                    have HFIN := Lib.hid (stands_same (show s.add x a = s.tick by unfold St.add; rw [if_pos HK1.out, if_neg he]) (by rw [HNN.out]; exact HL5.out))
                    clear he
                    go_wp2
                    go_roundg (kO - 1)
                    case measure => have := HKO.out; omega
                    case rel => exact ⟨i + 1, by have := HKO.out; omega, by go_num, by rw [HSU.out]; exact HFIN.out⟩
                · have s1 : (x.kind == (1 : Int)) = false := by simpa using h1k
                  by_cases h2k : x.kind = 2
                  · have s2 : (x.kind == (2 : Int)) = true := by rw [h2k]; rfl
                    have HK2 := Lib.hid h2k
                    clear h1k h2k
                    go_wp2_with fail
                    go_loopg [10] n (fun j d w9 => j ≤ n ∧ d = .int .i64 (dec j) ∧ (∀ m, j ≤ m → m < n → s.is x.a m = false) ∧ ∃ mm, w9 = w5.drewN mm)
                    case atStart => exact ⟨Nat.le_refl _, by rw [← dec_eq], fun m e1 e2 => by omega, 0, rfl⟩
                    case round =>
                      obtain ⟨hj, rfl, hno, mm, rfl⟩ := hrel
                      have HNO := Lib.hid hno
                      clear hno
                      cases gk with
                      | zero =>
                        rw [show dec 0 = (-1 : Int) from rfl]
                        have HFIN := Lib.hid ((fun (b : World) (hb : Below w5.heap.size w5 b) => stands_same (run_same HK2.out (fun m hm => HNO.out m (Nat.zero_le _) (by rw [← HNN.out]; exact hm))) (by rw [HNN.out]; exact HL5.out.below I hb)) _ (Go.Mem.below_drewN _ w5 mm))
                        go_wp2
                        go_roundg (kO - 1)
                        case measure => have := HKO.out; omega
                        case rel => exact ⟨i + 1, by have := HKO.out; omega, by go_num, by rw [HSU.out]; exact HFIN.out⟩
                      | succ k =>
                        rw [show dec (k + 1) = ((k : Nat) : Int) from rfl]
                        have hkn : k < n := by omega
                        have hkl : k < s.calls.length := by rw [HNN.out]; exact hkn
                        have HKN := Lib.hid hkn
                        obtain ⟨ge, CE', eE, -, eb0, ebf⟩ := HL5.out.boolAt hkn
                        obtain ⟨gw, CW', f, eW, -, -, hcl, hfl, hR, -⟩ := HL5.out.want.el hkl
                        rw [HNN.out] at eW
                        cases eE
                        cases eW
                        obtain ⟨c, hc⟩ : ∃ z, s.calls[k] = z := ⟨_, rfl⟩
                        have HC := Lib.hid hc
                        have c0 := hcl 0 (by omega)
                        rw [hR.here.r0, Nat.add_zero, hc] at c0
                        have x1 : w5.cell? ⟨bx, 1, none⟩ = some (.int .i64 x.a) := HRX5.out.cell (i := 1) (by omega)
                        have hof := St.of_at (s := s) (t := x.a) hkl
                        rw [hc] at hof
                        have HKL := Lib.hid hkl
                        have z1 : (0 : Int) ≤ (k : Int) := by omega
                        have z2 : (k : Int) < (n : Int) := by omega
                        by_cases ht : c.task = x.a
                        · have r1 : (c.task != x.a) = false := by rw [ht]; simp
                          obtain ⟨eb, heb⟩ : ∃ z, s.ended k = z := ⟨_, rfl⟩
                          rw [heb] at eb0
                          cases eb with
                          | true =>
                            have HISN := Lib.hid (show s.is x.a k = false by unfold St.is; rw [heb]; simp)
                            clear hof heb hc hcl hfl hR ht
                            go_wp2
                            go_quiet (fail)
                            go_wp2
                            go_roundg k
                            case measure => omega
                            case rel => exact ⟨by omega, by rw [← dec_eq], fun m e1 e2 => by
                              by_cases e : m = k
                              · rw [e]; exact HISN.out
                              · exact HNO.out m (by omega) e2, _, rfl⟩
                          | false =>
                            have HIS := Lib.hid (show s.is x.a k = true by unfold St.is; rw [heb, hof, ht]; simp)
                            have y3 : w5.cell? ⟨ba, 3, none⟩ = some (.int .i64 a.mark) := HRA5.out.cell (i := 3) (by omega)
                            obtain ⟨v6, y6⟩ : ∃ z, w5.cell? ⟨gw, k * 10 + 6, none⟩ = some z := ⟨_, hcl 6 (by omega)⟩
                            have j6 := hfl (k * 10 + 6)
                            clear hof heb hcl hfl hR ht
                            go_upto_region 27 with fail
                            go_quiet (fail)
                            by_cases hmk : a.mark = 0
                            · have r2 : (a.mark != (0 : Int)) = false := by rw [hmk]; rfl
                              have hsm : (Hs.seen (i + 1) a c) = c := by unfold Hs.seen; rw [if_pos hmk]
                              have hcs : s.calls.set k (Hs.seen (i + 1) a c) = s.calls := by rw [hsm, ← hc]; simp
                              clear hmk
                              go_upto_region 30 with fail
                              obtain ⟨w6, hw6⟩ : ∃ w6, w5.drewN (mm + nq) = w6 := ⟨_, rfl⟩
                              rw [hw6]
                              have HL6 := Lib.hid (show LawAt PD W w6 p (fun b => b = bx ∨ b = ba) (.slice (some ⟨gw, 0, none⟩) n CW) (.slice (some ⟨ge, 0, none⟩) n CE) (s.add x a) (s.calls.set k (Hs.seen (i + 1) a c)) n s.ended by rw [hcs, ← hw6]; exact HL5.out.below I (Go.Mem.below_drewN _ _ _))
                              have HRA6 := Lib.hid (show w6.rowIs ba TAns 6 (fun j => #[Value.int .i64 a.e, .int .i64 a.task, .bool a.done, .int .i64 a.mark, .slice AD ND CD, .slice AK NK CK].getD j undef) by rw [← hw6]; exact HRA5.out)
                              clear hw6 hcs hsm y6 j6 y3 c0 eb0 ebf x1 x0 y0 hc
                              by_cases hdn : a.done = true
                              · have u2 : w6.cell? ⟨ba, 2, none⟩ = some (.bool true) := by rw [← hdn]; exact HRA6.out.cell (i := 2) (by omega)
                                have HDN := Lib.hid hdn
                                clear hdn
                                have hk6 : k < (s.calls.set k (Hs.seen (i + 1) a c)).length := by rw [List.length_set]; exact HKL.out
                                obtain ⟨gw', CW', f, eW, -, -, hc6, hf6, -⟩ := HL6.out.want.el hk6
                                rw [List.length_set, HNN.out] at eW
                                cases eW
                                have y5 := hc6 5 (by omega)
                                have y7 := hc6 7 (by omega)
                                have y8 := hc6 8 (by omega)
                                have y9 := hc6 9 (by omega)
                                have j5 := hf6 (k * 10 + 5)
                                have j7 := hf6 (k * 10 + 7)
                                have j8 := hf6 (k * 10 + 8)
                                have j9 := hf6 (k * 10 + 9)
                                obtain ⟨ge', CE', eE, -, b6, bf6⟩ := HL6.out.boolAt HKN.out
                                cases eE
                                have HGW := Lib.hid (show ba ≠ gw ∧ ba ≠ ge ∧ gw ≠ ge from ⟨fun q => (HL6.out.apart ba (.inr rfl)).2.1 (by rw [q]; rfl), fun q => (HL6.out.apart ba (.inr rfl)).2.2 (by rw [q]; rfl), fun q => HL6.out.ne gw rfl (by rw [q]; rfl)⟩)
                                have g1 : ¬ gw = ge := HGW.out.2.2
                                have g2 : ¬ ge = gw := fun q => HGW.out.2.2 q.symm
                                have HSX6 := Lib.hid (show ∀ w' : World, w'.heap[ba]? = w6.heap[ba]? → w'.cell? ⟨ba, 0, none⟩ = some (.int .i64 a.e) ∧ w'.cell? ⟨ba, 4, none⟩ = some (.slice AD ND CD) ∧ w'.cell? ⟨ba, 5, none⟩ = some (.slice AK NK CK) from fun w' hb => by
                                  have hr := HRA6.out.of_block hb
                                  exact ⟨hr.cell (i := 0) (by omega), hr.cell (i := 4) (by omega), hr.cell (i := 5) (by omega)⟩)
                                have qw : IntKind.i64.wrap ((i : Int) + 1) = (i : Int) + 1 := IntWalk.i64_in _ (by omega)
                                have HOV := HL6.out.overL I hk6 HKN.out (z := (i : Int) + 1) ⟨by omega, by omega⟩ HAW.out HFIT.out.2.1 HFIT.out.2.2 (c := (Hs.seen (i + 1) a c)) (by simp)
                                rw [HND.out, HNK.out, List.set_set] at HOV
                                have HFIN0 := Lib.hid (fun (b : World) (hb : Below _ _ b) => stands_hit HOK.out.2.2 HK2.out HKL.out HIS.out (m := i + 1) (by rw [HOK.out.1]) (y := Hs.over (i + 1) a (Hs.seen (i + 1) a c)) (by rw [HC.out]; unfold touch; rw [if_pos HDN.out]) (en := fun j => if j = k then true else s.ended j) (fun j => by simp [HDN.out]) (by rw [HNN.out]; exact HOV.below I hb))
                                clear HOV hc6 hf6 hk6
                                go_upto_region 31 with fail
                                refine wp_region_noPanic ?_
                                refine wp_region_till [31] (fun w' => w'.heap[ba]? = w6.heap[ba]?) (by kernel_rfl) rfl (fun _ => ?_)
                                have hHeld := (rfl : w6.drew.heap[ba]? = w6.heap[ba]?)
                                refine wpAnyT_take (i := 0) (oi := ?oiz18) (v := ?vz18) ?h1z18 (by kernel_rfl) (by kernel_rfl) (by kernel_rfl) (by kernel_rfl) (fun _ _ _ h => h) ?hyz18 (HeldT.of hHeld) ?_
                                case h1z18 => (simp only [List.getElem?_toArray, List.getElem?_cons_zero]; rfl)
                                case hyz18 => first | (refine Or.inr ⟨rfl, ?_⟩; rfl) | (refine Or.inl ⟨rfl, ?_⟩; intro w hSw; (try dsimp only at hSw); go_simp; done) | (refine Or.inl ⟨rfl, ?_⟩; intro w hSw; (try dsimp only at hSw); go_simp; with_reducible rfl)
                                try simp only [Act.put, List.setIfInBounds_toArray, List.set_cons_zero, List.set_cons_succ]
                                refine wpAnyT_take (i := 1) (oi := ?oiz19) (v := ?vz19) ?h1z19 (by kernel_rfl) (by kernel_rfl) (by kernel_rfl) (by kernel_rfl) (fun _ _ _ h => h) ?hyz19 (HeldT.of hHeld) ?_
                                case h1z19 => (simp only [List.getElem?_toArray, List.getElem?_cons_succ, List.getElem?_cons_zero]; rfl)
                                case hyz19 => first | (refine Or.inr ⟨rfl, ?_⟩; rfl) | (refine Or.inl ⟨rfl, ?_⟩; intro w hSw; (try dsimp only at hSw); go_simp; done) | (refine Or.inl ⟨rfl, ?_⟩; intro w hSw; (try dsimp only at hSw); go_simp; with_reducible rfl)
                                try simp only [Act.put, List.setIfInBounds_toArray, List.set_cons_zero, List.set_cons_succ]
                                refine wpAnyT_take (i := 2) (oi := ?oiz20) (v := ?vz20) ?h1z20 (by kernel_rfl) (by kernel_rfl) (by kernel_rfl) (by kernel_rfl) (fun _ _ _ h => h) ?hyz20 (HeldT.of hHeld) ?_
                                case h1z20 => (simp only [List.getElem?_toArray, List.getElem?_cons_succ, List.getElem?_cons_zero]; rfl)
                                case hyz20 => first | (refine Or.inr ⟨rfl, ?_⟩; rfl) | (refine Or.inl ⟨rfl, ?_⟩; intro w hSw; (try dsimp only at hSw); go_simp; done) | (refine Or.inl ⟨rfl, ?_⟩; intro w hSw; (try dsimp only at hSw); go_simp; with_reducible rfl)
                                try simp only [Act.put, List.setIfInBounds_toArray, List.set_cons_zero, List.set_cons_succ]
                                refine wpAnyT_take (i := 3) (oi := ?oiz21) (v := ?vz21) ?h1z21 (by kernel_rfl) (by kernel_rfl) (by kernel_rfl) (by kernel_rfl) (fun _ _ _ h => h) ?hyz21 (HeldT.of hHeld) ?_
                                case h1z21 => (simp only [List.getElem?_toArray, List.getElem?_cons_succ, List.getElem?_cons_zero]; rfl)
                                case hyz21 => first | (refine Or.inr ⟨rfl, ?_⟩; rfl) | (refine Or.inl ⟨rfl, ?_⟩; intro w hSw; (try dsimp only at hSw); go_simp; done) | (refine Or.inl ⟨rfl, ?_⟩; intro w hSw; (try dsimp only at hSw); go_simp; with_reducible rfl)
                                try simp only [Act.put, List.setIfInBounds_toArray, List.set_cons_zero, List.set_cons_succ]
                                refine wpAnyT_take (i := 4) (oi := ?oiz22) (v := ?vz22) ?h1z22 (by kernel_rfl) (by kernel_rfl) (by kernel_rfl) (by kernel_rfl) (fun _ _ _ h => h) ?hyz22 (HeldT.of hHeld) ?_
                                case h1z22 => (simp only [List.getElem?_toArray, List.getElem?_cons_succ, List.getElem?_cons_zero]; rfl)
                                case hyz22 => first | (refine Or.inr ⟨rfl, ?_⟩; rfl) | (refine Or.inl ⟨rfl, ?_⟩; intro w hSw; (try dsimp only at hSw); go_simp; done) | (refine Or.inl ⟨rfl, ?_⟩; intro w hSw; (try dsimp only at hSw); go_simp; with_reducible rfl)
                                try simp only [Act.put, List.setIfInBounds_toArray, List.set_cons_zero, List.set_cons_succ]
                                refine wpAnyT_take (i := 5) (oi := ?oiz23) (v := ?vz23) ?h1z23 (by kernel_rfl) (by kernel_rfl) (by kernel_rfl) (by kernel_rfl) (fun _ _ _ h => h) ?hyz23 (HeldT.of hHeld) ?_
                                case h1z23 => (simp only [List.getElem?_toArray, List.getElem?_cons_succ, List.getElem?_cons_zero]; rfl)
                                case hyz23 => first | (refine Or.inr ⟨rfl, ?_⟩; rfl) | (refine Or.inl ⟨rfl, ?_⟩; intro w hSw; (try dsimp only at hSw); go_simp; done) | (refine Or.inl ⟨rfl, ?_⟩; intro w hSw; (try dsimp only at hSw); go_simp; with_reducible rfl)
                                try simp only [Act.put, List.setIfInBounds_toArray, List.set_cons_zero, List.set_cons_succ]
                                refine wpAnyT_take (i := 6) (oi := ?oiz24) (v := ?vz24) ?h1z24 (by kernel_rfl) (by kernel_rfl) (by kernel_rfl) (by kernel_rfl) (fun _ _ _ h => h) ?hyz24 (HeldT.of hHeld) ?_
                                case h1z24 => (simp only [List.getElem?_toArray, List.getElem?_cons_succ, List.getElem?_cons_zero]; rfl)
                                case hyz24 => first | (refine Or.inr ⟨rfl, ?_⟩; rfl) | (refine Or.inl ⟨rfl, ?_⟩; intro w hSw; (try dsimp only at hSw); go_simp; done) | (refine Or.inl ⟨rfl, ?_⟩; intro w hSw; (try dsimp only at hSw); go_simp; with_reducible rfl)
                                try simp only [Act.put, List.setIfInBounds_toArray, List.set_cons_zero, List.set_cons_succ]
                                refine wpAnyT_take (i := 7) (oi := ?oiz25) (v := ?vz25) ?h1z25 (by kernel_rfl) (by kernel_rfl) (by kernel_rfl) (by kernel_rfl) (fun _ _ _ h => h) ?hyz25 (HeldT.of hHeld) ?_
                                case h1z25 => (simp only [List.getElem?_toArray, List.getElem?_cons_succ, List.getElem?_cons_zero]; rfl)
                                case hyz25 => first | (refine Or.inr ⟨rfl, ?_⟩; rfl) | (refine Or.inl ⟨rfl, ?_⟩; intro w hSw; (try dsimp only at hSw); go_simp; done) | (refine Or.inl ⟨rfl, ?_⟩; intro w hSw; (try dsimp only at hSw); go_simp; with_reducible rfl)
                                try simp only [Act.put, List.setIfInBounds_toArray, List.set_cons_zero, List.set_cons_succ]
                                refine wpAnyT_take (i := 8) (oi := ?oiz26) (v := ?vz26) ?h1z26 (by kernel_rfl) (by kernel_rfl) (by kernel_rfl) (by kernel_rfl) (fun _ _ _ h => h) ?hyz26 (HeldT.of hHeld) ?_
                                case h1z26 => (simp only [List.getElem?_toArray, List.getElem?_cons_succ, List.getElem?_cons_zero]; rfl)
                                case hyz26 => first | (refine Or.inr ⟨rfl, ?_⟩; rfl) | (refine Or.inl ⟨rfl, ?_⟩; intro w hSw; (try dsimp only at hSw); go_simp; done) | (refine Or.inl ⟨rfl, ?_⟩; intro w hSw; (try dsimp only at hSw); go_simp; with_reducible rfl)
                                try simp only [Act.put, List.setIfInBounds_toArray, List.set_cons_zero, List.set_cons_succ]
                                refine wpAnyT_take (i := 9) (oi := ?oiz27) (v := ?vz27) ?h1z27 (by kernel_rfl) (by kernel_rfl) (by kernel_rfl) (by kernel_rfl) (fun _ _ _ h => h) ?hyz27 (HeldT.of hHeld) ?_
                                case h1z27 => (simp only [List.getElem?_toArray, List.getElem?_cons_succ, List.getElem?_cons_zero]; rfl)
                                case hyz27 => first | (refine Or.inr ⟨rfl, ?_⟩; rfl) | (refine Or.inl ⟨rfl, ?_⟩; intro w hSw; (try dsimp only at hSw); go_simp; done) | (refine Or.inl ⟨rfl, ?_⟩; intro w hSw; (try dsimp only at hSw); go_simp; with_reducible rfl)
                                try simp only [Act.put, List.setIfInBounds_toArray, List.set_cons_zero, List.set_cons_succ]
                                refine wpAnyT_take (i := 10) (oi := ?oiz28) (v := ?vz28) ?h1z28 (by kernel_rfl) (by kernel_rfl) (by kernel_rfl) (by kernel_rfl) (fun _ _ _ h => h) ?hyz28 (HeldT.of hHeld) ?_
                                case h1z28 => (simp only [List.getElem?_toArray, List.getElem?_cons_succ, List.getElem?_cons_zero]; rfl)
                                case hyz28 => first | (refine Or.inr ⟨rfl, ?_⟩; rfl) | (refine Or.inl ⟨rfl, ?_⟩; intro w hSw; (try dsimp only at hSw); go_simp; done) | (refine Or.inl ⟨rfl, ?_⟩; intro w hSw; (try dsimp only at hSw); go_simp; with_reducible rfl)
                                try simp only [Act.put, List.setIfInBounds_toArray, List.set_cons_zero, List.set_cons_succ]
                                refine wpAnyT_take (i := 11) (oi := ?oiz29) (v := ?vz29) ?h1z29 (by kernel_rfl) (by kernel_rfl) (by kernel_rfl) (by kernel_rfl) (fun _ _ _ h => h) ?hyz29 (HeldT.of hHeld) ?_
                                case h1z29 => (simp only [List.getElem?_toArray, List.getElem?_cons_succ, List.getElem?_cons_zero]; rfl)
                                case hyz29 => first | (refine Or.inr ⟨rfl, ?_⟩; rfl) | (refine Or.inl ⟨rfl, ?_⟩; intro w hSw; (try dsimp only at hSw); go_simp; done) | (refine Or.inl ⟨rfl, ?_⟩; intro w hSw; (try dsimp only at hSw); go_simp; with_reducible rfl)
                                try simp only [Act.put, List.setIfInBounds_toArray, List.set_cons_zero, List.set_cons_succ]
                                refine wpAnyT_take (i := 12) (oi := ?oiz30) (v := ?vz30) ?h1z30 (by kernel_rfl) (by kernel_rfl) (by kernel_rfl) (by kernel_rfl) (fun _ _ _ h => h) ?hyz30 (HeldT.of hHeld) ?_
                                case h1z30 => (simp only [List.getElem?_toArray, List.getElem?_cons_succ, List.getElem?_cons_zero]; rfl)
                                case hyz30 => first | (refine Or.inr ⟨rfl, ?_⟩; rfl) | (refine Or.inl ⟨rfl, ?_⟩; intro w hSw; (try dsimp only at hSw); go_simp; done) | (refine Or.inl ⟨rfl, ?_⟩; intro w hSw; (try dsimp only at hSw); go_simp; with_reducible rfl)
                                try simp only [Act.put, List.setIfInBounds_toArray, List.set_cons_zero, List.set_cons_succ]
                                refine wpAnyT_load 31 (i := 13) (oi := ?oiz31) (v := ?vz31) ?h1z31 (by kernel_rfl) (by kernel_rfl) (by kernel_rfl) (by kernel_rfl) (fun _ _ _ h => h) ?hyz31 (HeldT.of hHeld) ?_
                                case h1z31 => (simp only [List.getElem?_toArray, List.getElem?_cons_succ, List.getElem?_cons_zero]; rfl)
                                case hyz31 => first | (refine Or.inr ⟨rfl, ?_⟩; rfl) | (refine Or.inl ⟨rfl, ?_⟩; intro w hSw; (have hSc := HSX6.out w hSw); go_simp; done) | (refine Or.inl ⟨rfl, ?_⟩; intro w hSw; (have hSc := HSX6.out w hSw); go_simp; with_reducible rfl)
                                try simp only [Act.put, List.setIfInBounds_toArray, List.set_cons_zero, List.set_cons_succ]
                                refine wpAnyT_take (i := 14) (oi := ?oiz32) (v := ?vz32) ?h1z32 (by kernel_rfl) (by kernel_rfl) (by kernel_rfl) (by kernel_rfl) (fun _ _ _ h => h) ?hyz32 (HeldT.of hHeld) ?_
                                case h1z32 => (simp only [List.getElem?_toArray, List.getElem?_cons_succ, List.getElem?_cons_zero]; rfl)
                                case hyz32 => first | (refine Or.inr ⟨rfl, ?_⟩; rfl) | (refine Or.inl ⟨rfl, ?_⟩; intro w hSw; (try dsimp only at hSw); go_simp; done) | (refine Or.inl ⟨rfl, ?_⟩; intro w hSw; (try dsimp only at hSw); go_simp; with_reducible rfl)
                                try simp only [Act.put, List.setIfInBounds_toArray, List.set_cons_zero, List.set_cons_succ]
                                refine wpAnyT_load 31 (i := 15) (oi := ?oiz33) (v := ?vz33) ?h1z33 (by kernel_rfl) (by kernel_rfl) (by kernel_rfl) (by kernel_rfl) (fun _ _ _ h => h) ?hyz33 (HeldT.of hHeld) ?_
                                case h1z33 => (simp only [List.getElem?_toArray, List.getElem?_cons_succ, List.getElem?_cons_zero]; rfl)
                                case hyz33 => first | (refine Or.inr ⟨rfl, ?_⟩; rfl) | (refine Or.inl ⟨rfl, ?_⟩; intro w hSw; (have hSc := HSX6.out w hSw); go_simp; done) | (refine Or.inl ⟨rfl, ?_⟩; intro w hSw; (have hSc := HSX6.out w hSw); go_simp; with_reducible rfl)
                                try simp only [Act.put, List.setIfInBounds_toArray, List.set_cons_zero, List.set_cons_succ]
                                refine wpAnyT_take (i := 16) (oi := ?oiz34) (v := ?vz34) ?h1z34 (by kernel_rfl) (by kernel_rfl) (by kernel_rfl) (by kernel_rfl) (fun _ _ _ h => h) ?hyz34 (HeldT.of hHeld) ?_
                                case h1z34 => (simp only [List.getElem?_toArray, List.getElem?_cons_succ, List.getElem?_cons_zero]; rfl)
                                case hyz34 => first | (refine Or.inr ⟨rfl, ?_⟩; rfl) | (refine Or.inl ⟨rfl, ?_⟩; intro w hSw; (try dsimp only at hSw); go_simp; done) | (refine Or.inl ⟨rfl, ?_⟩; intro w hSw; (try dsimp only at hSw); go_simp; with_reducible rfl)
                                try simp only [Act.put, List.setIfInBounds_toArray, List.set_cons_zero, List.set_cons_succ]
                                refine wpAnyT_load 31 (i := 17) (oi := ?oiz35) (v := ?vz35) ?h1z35 (by kernel_rfl) (by kernel_rfl) (by kernel_rfl) (by kernel_rfl) (fun _ _ _ h => h) ?hyz35 (HeldT.of hHeld) ?_
                                case h1z35 => (simp only [List.getElem?_toArray, List.getElem?_cons_succ, List.getElem?_cons_zero]; rfl)
                                case hyz35 => first | (refine Or.inr ⟨rfl, ?_⟩; rfl) | (refine Or.inl ⟨rfl, ?_⟩; intro w hSw; (have hSc := HSX6.out w hSw); go_simp; done) | (refine Or.inl ⟨rfl, ?_⟩; intro w hSw; (have hSc := HSX6.out w hSw); go_simp; with_reducible rfl)
                                try simp only [Act.put, List.setIfInBounds_toArray, List.set_cons_zero, List.set_cons_succ]
                                refine wpAnyT_take (i := 18) (oi := ?oiz36) (v := ?vz36) ?h1z36 (by kernel_rfl) (by kernel_rfl) (by kernel_rfl) (by kernel_rfl) (fun _ _ _ h => h) ?hyz36 (HeldT.of hHeld) ?_
                                case h1z36 => (simp only [List.getElem?_toArray, List.getElem?_cons_succ, List.getElem?_cons_zero]; rfl)
                                case hyz36 => first | (refine Or.inr ⟨rfl, ?_⟩; rfl) | (refine Or.inl ⟨rfl, ?_⟩; intro w hSw; (try dsimp only at hSw); go_simp; done) | (refine Or.inl ⟨rfl, ?_⟩; intro w hSw; (try dsimp only at hSw); go_simp; with_reducible rfl)
                                try simp only [Act.put, List.setIfInBounds_toArray, List.set_cons_zero, List.set_cons_succ]
                                refine wpAnyT_take (i := 19) (oi := ?oiz37) (v := ?vz37) ?h1z37 (by kernel_rfl) (by kernel_rfl) (by kernel_rfl) (by kernel_rfl) (fun _ _ _ h => h) ?hyz37 (HeldT.of hHeld) ?_
                                case h1z37 => (simp only [List.getElem?_toArray, List.getElem?_cons_succ, List.getElem?_cons_zero]; rfl)
                                case hyz37 => first | (refine Or.inr ⟨rfl, ?_⟩; rfl) | (refine Or.inl ⟨rfl, ?_⟩; intro w hSw; (try dsimp only at hSw); go_simp; done) | (refine Or.inl ⟨rfl, ?_⟩; intro w hSw; (try dsimp only at hSw); go_simp; with_reducible rfl)
                                try simp only [Act.put, List.setIfInBounds_toArray, List.set_cons_zero, List.set_cons_succ]
                                refine wpAnyT_ready (rs := [20]) (by kernel_rfl) (by simp) ?_
                                refine AllReadyT.cons (o := ?oiz38) ?h1z38 (fun K hK => ?_) ?morez38
                                case h1z38 => (simp only [List.getElem?_toArray, List.getElem?_cons_succ, List.getElem?_cons_zero]; rfl)
                                case morez38 => exact AllReadyT.nil
                                go_simp
                                have hHeld := (Below.heap_setCell w6.drew ⟨gw, k * 10 + 5, none⟩ (.int .i64 ((i : Int) + 1)) ba HGW.out.1)
                                refine hK.out _ _ (HeldT.of hHeld) (fun _ => ?_)
                                clear hK K
                                try simp only [Act.put, List.setIfInBounds_toArray, List.set_cons_zero, List.set_cons_succ]
                                refine wpAnyT_take (i := 21) (oi := ?oiz39) (v := ?vz39) ?h1z39 (by kernel_rfl) (by kernel_rfl) (by kernel_rfl) (by kernel_rfl) (fun _ _ _ h => h) ?hyz39 (HeldT.of hHeld) ?_
                                case h1z39 => (simp only [List.getElem?_toArray, List.getElem?_cons_succ, List.getElem?_cons_zero]; rfl)
                                case hyz39 => first | (refine Or.inr ⟨rfl, ?_⟩; rfl) | (refine Or.inl ⟨rfl, ?_⟩; intro w hSw; (try dsimp only at hSw); go_simp; done) | (refine Or.inl ⟨rfl, ?_⟩; intro w hSw; (try dsimp only at hSw); go_simp; with_reducible rfl)
                                try simp only [Act.put, List.setIfInBounds_toArray, List.set_cons_zero, List.set_cons_succ]
                                refine wpAnyT_take (i := 22) (oi := ?oiz40) (v := ?vz40) ?h1z40 (by kernel_rfl) (by kernel_rfl) (by kernel_rfl) (by kernel_rfl) (fun _ _ _ h => h) ?hyz40 (HeldT.of hHeld) ?_
                                case h1z40 => (simp only [List.getElem?_toArray, List.getElem?_cons_succ, List.getElem?_cons_zero]; rfl)
                                case hyz40 => first | (refine Or.inr ⟨rfl, ?_⟩; rfl) | (refine Or.inl ⟨rfl, ?_⟩; intro w hSw; (try dsimp only at hSw); go_simp; done) | (refine Or.inl ⟨rfl, ?_⟩; intro w hSw; (try dsimp only at hSw); go_simp; with_reducible rfl)
                                try simp only [Act.put, List.setIfInBounds_toArray, List.set_cons_zero, List.set_cons_succ]
                                refine wpAnyT_ready (rs := [23]) (by kernel_rfl) (by simp) ?_
                                refine AllReadyT.cons (o := ?oiz41) ?h1z41 (fun K hK => ?_) ?morez41
                                case h1z41 => (simp only [List.getElem?_toArray, List.getElem?_cons_succ, List.getElem?_cons_zero]; rfl)
                                case morez41 => exact AllReadyT.nil
                                go_simp
                                have hHeld := ((Below.heap_setCell _ ⟨gw, k * 10 + 7, none⟩ (.int .i64 a.e) ba HGW.out.1).trans (Below.heap_setCell w6.drew ⟨gw, k * 10 + 5, none⟩ (.int .i64 ((i : Int) + 1)) ba HGW.out.1))
                                refine hK.out _ _ (HeldT.of hHeld) (fun _ => ?_)
                                clear hK K
                                try simp only [Act.put, List.setIfInBounds_toArray, List.set_cons_zero, List.set_cons_succ]
                                refine wpAnyT_take (i := 24) (oi := ?oiz42) (v := ?vz42) ?h1z42 (by kernel_rfl) (by kernel_rfl) (by kernel_rfl) (by kernel_rfl) (fun _ _ _ h => h) ?hyz42 (HeldT.of hHeld) ?_
                                case h1z42 => (simp only [List.getElem?_toArray, List.getElem?_cons_succ, List.getElem?_cons_zero]; rfl)
                                case hyz42 => first | (refine Or.inr ⟨rfl, ?_⟩; rfl) | (refine Or.inl ⟨rfl, ?_⟩; intro w hSw; (try dsimp only at hSw); go_simp; done) | (refine Or.inl ⟨rfl, ?_⟩; intro w hSw; (try dsimp only at hSw); go_simp; with_reducible rfl)
                                try simp only [Act.put, List.setIfInBounds_toArray, List.set_cons_zero, List.set_cons_succ]
                                refine wpAnyT_take (i := 25) (oi := ?oiz43) (v := ?vz43) ?h1z43 (by kernel_rfl) (by kernel_rfl) (by kernel_rfl) (by kernel_rfl) (fun _ _ _ h => h) ?hyz43 (HeldT.of hHeld) ?_
                                case h1z43 => (simp only [List.getElem?_toArray, List.getElem?_cons_succ, List.getElem?_cons_zero]; rfl)
                                case hyz43 => first | (refine Or.inr ⟨rfl, ?_⟩; rfl) | (refine Or.inl ⟨rfl, ?_⟩; intro w hSw; (try dsimp only at hSw); go_simp; done) | (refine Or.inl ⟨rfl, ?_⟩; intro w hSw; (try dsimp only at hSw); go_simp; with_reducible rfl)
                                try simp only [Act.put, List.setIfInBounds_toArray, List.set_cons_zero, List.set_cons_succ]
                                refine wpAnyT_ready (rs := [26]) (by kernel_rfl) (by simp) ?_
                                refine AllReadyT.cons (o := ?oiz44) ?h1z44 (fun K hK => ?_) ?morez44
                                case h1z44 => (simp only [List.getElem?_toArray, List.getElem?_cons_succ, List.getElem?_cons_zero]; rfl)
                                case morez44 => exact AllReadyT.nil
                                go_simp
                                have hHeld := ((Below.heap_setCell _ ⟨gw, k * 10 + 8, none⟩ (.slice AD ND CD) ba HGW.out.1).trans ((Below.heap_setCell _ ⟨gw, k * 10 + 7, none⟩ (.int .i64 a.e) ba HGW.out.1).trans (Below.heap_setCell w6.drew ⟨gw, k * 10 + 5, none⟩ (.int .i64 ((i : Int) + 1)) ba HGW.out.1)))
                                refine hK.out _ _ (HeldT.of hHeld) (fun _ => ?_)
                                clear hK K
                                try simp only [Act.put, List.setIfInBounds_toArray, List.set_cons_zero, List.set_cons_succ]
                                refine wpAnyT_take (i := 27) (oi := ?oiz45) (v := ?vz45) ?h1z45 (by kernel_rfl) (by kernel_rfl) (by kernel_rfl) (by kernel_rfl) (fun _ _ _ h => h) ?hyz45 (HeldT.of hHeld) ?_
                                case h1z45 => (simp only [List.getElem?_toArray, List.getElem?_cons_succ, List.getElem?_cons_zero]; rfl)
                                case hyz45 => first | (refine Or.inr ⟨rfl, ?_⟩; rfl) | (refine Or.inl ⟨rfl, ?_⟩; intro w hSw; (try dsimp only at hSw); go_simp; done) | (refine Or.inl ⟨rfl, ?_⟩; intro w hSw; (try dsimp only at hSw); go_simp; with_reducible rfl)
                                try simp only [Act.put, List.setIfInBounds_toArray, List.set_cons_zero, List.set_cons_succ]
                                refine wpAnyT_take (i := 28) (oi := ?oiz46) (v := ?vz46) ?h1z46 (by kernel_rfl) (by kernel_rfl) (by kernel_rfl) (by kernel_rfl) (fun _ _ _ h => h) ?hyz46 (HeldT.of hHeld) ?_
                                case h1z46 => (simp only [List.getElem?_toArray, List.getElem?_cons_succ, List.getElem?_cons_zero]; rfl)
                                case hyz46 => first | (refine Or.inr ⟨rfl, ?_⟩; rfl) | (refine Or.inl ⟨rfl, ?_⟩; intro w hSw; (try dsimp only at hSw); go_simp; done) | (refine Or.inl ⟨rfl, ?_⟩; intro w hSw; (try dsimp only at hSw); go_simp; with_reducible rfl)
                                try simp only [Act.put, List.setIfInBounds_toArray, List.set_cons_zero, List.set_cons_succ]
                                refine wpAnyT_ready (rs := [29]) (by kernel_rfl) (by simp) ?_
                                refine AllReadyT.cons (o := ?oiz47) ?h1z47 (fun K hK => ?_) ?morez47
                                case h1z47 => (simp only [List.getElem?_toArray, List.getElem?_cons_succ, List.getElem?_cons_zero]; rfl)
                                case morez47 => exact AllReadyT.nil
                                go_simp
                                have hHeld := ((Below.heap_setCell _ ⟨gw, k * 10 + 9, none⟩ (.slice AK NK CK) ba HGW.out.1).trans ((Below.heap_setCell _ ⟨gw, k * 10 + 8, none⟩ (.slice AD ND CD) ba HGW.out.1).trans ((Below.heap_setCell _ ⟨gw, k * 10 + 7, none⟩ (.int .i64 a.e) ba HGW.out.1).trans (Below.heap_setCell w6.drew ⟨gw, k * 10 + 5, none⟩ (.int .i64 ((i : Int) + 1)) ba HGW.out.1))))
                                refine hK.out _ _ (HeldT.of hHeld) (fun _ => ?_)
                                clear hK K
                                try simp only [Act.put, List.setIfInBounds_toArray, List.set_cons_zero, List.set_cons_succ]
                                refine wpAnyT_take (i := 30) (oi := ?oiz48) (v := ?vz48) ?h1z48 (by kernel_rfl) (by kernel_rfl) (by kernel_rfl) (by kernel_rfl) (fun _ _ _ h => h) ?hyz48 (HeldT.of hHeld) ?_
                                case h1z48 => (simp only [List.getElem?_toArray, List.getElem?_cons_succ, List.getElem?_cons_zero]; rfl)
                                case hyz48 => first | (refine Or.inr ⟨rfl, ?_⟩; rfl) | (refine Or.inl ⟨rfl, ?_⟩; intro w hSw; (try dsimp only at hSw); go_simp; done) | (refine Or.inl ⟨rfl, ?_⟩; intro w hSw; (try dsimp only at hSw); go_simp; with_reducible rfl)
                                try simp only [Act.put, List.setIfInBounds_toArray, List.set_cons_zero, List.set_cons_succ]
                                refine wpAnyT_ready (rs := [31]) (by kernel_rfl) (by simp) ?_
                                refine AllReadyT.cons (o := ?oiz49) ?h1z49 (fun K hK => ?_) ?morez49
                                case h1z49 => (simp only [List.getElem?_toArray, List.getElem?_cons_succ, List.getElem?_cons_zero]; rfl)
                                case morez49 => exact AllReadyT.nil
                                go_simp
                                refine hK.out _ _ (HeldT.over (by kernel_rfl)) (fun _ => ?_)
                                clear hK K
                                try simp only [Act.put, List.setIfInBounds_toArray, List.set_cons_zero, List.set_cons_succ]
                                refine wpAnyT_done (by kernel_rfl) ?_ _
                                refine NoPanic.normal ?_
                                have HFIN := Lib.hid (HFIN0.out _ (below_drewN _ _ 1))
                                clear y5 y7 y8 y9 j5 j7 j8 j9 b6 bf6 g1 g2 qw u2
                                go_wp2
                                go_roundg (kO - 1)
                                case measure => have := HKO.out; omega
                                case rel => exact ⟨i + 1, by have := HKO.out; omega, by go_num, by rw [HSU.out]; exact HFIN.out⟩
                              · have hdn' : a.done = false := by simpa using hdn
                                have u2 : w6.cell? ⟨ba, 2, none⟩ = some (.bool false) := by rw [← hdn']; exact HRA6.out.cell (i := 2) (by omega)
                                have HFIN := Lib.hid (stands_hit HOK.out.2.2 HK2.out HKL.out HIS.out (m := i + 1) (by rw [HOK.out.1]) (y := (Hs.seen (i + 1) a c)) (by rw [HC.out]; unfold touch; rw [if_neg hdn]) (en := s.ended) (fun j => by rw [if_neg (fun q => hdn q.2)]) (by rw [HNN.out]; exact HL6.out))
                                clear hdn hdn'
                                go_wp2
                                go_roundg (kO - 1)
                                case measure => have := HKO.out; omega
                                case rel => exact ⟨i + 1, by have := HKO.out; omega, by go_num, by rw [HSU.out]; exact HFIN.out⟩
                            · have r2 : (a.mark != (0 : Int)) = true := by rw [bne_iff_ne]; exact hmk
                              have hsm : (Hs.seen (i + 1) a c) = ⟨c.task, c.op, c.key, c.data, c.fr, c.to, (i : Int) + 1, c.e, c.out, c.keys⟩ := by unfold Hs.seen; rw [if_neg hmk]; rfl
                              clear hmk
                              go_upto_region 30 with fail
                              have hmo := (HL5.out.below I (Go.Mem.below_drewN w5.heap.size w5 (mm + nq))).moL I HKL.out (z := (i : Int) + 1) ⟨by omega, by omega⟩ hc
                              have hra6 := (show (w5.drewN (mm + nq)).rowIs ba TAns 6 (fun j => #[Value.int .i64 a.e, .int .i64 a.task, .bool a.done, .int .i64 a.mark, .slice AD ND CD, .slice AK NK CK].getD j undef) from HRA5.out).of_block (hmo.2 ba (.inr rfl))
                              obtain ⟨w6, hw6⟩ : ∃ w6, (w5.drewN (mm + nq)).setCell ⟨gw, k * 10 + 6, none⟩ (.int .i64 ((i : Int) + 1)) = w6 := ⟨_, rfl⟩
                              rw [hw6] at hmo hra6 ⊢
                              have HL6 := Lib.hid (show LawAt PD W w6 p (fun b => b = bx ∨ b = ba) (.slice (some ⟨gw, 0, none⟩) n CW) (.slice (some ⟨ge, 0, none⟩) n CE) (s.add x a) (s.calls.set k (Hs.seen (i + 1) a c)) n s.ended by rw [hsm]; exact hmo.1)
                              have HRA6 := Lib.hid hra6
                              clear hw6 hmo hra6 hsm y6 j6 y3 c0 eb0 ebf x1 x0 y0 hc
                              by_cases hdn : a.done = true
                              · have u2 : w6.cell? ⟨ba, 2, none⟩ = some (.bool true) := by rw [← hdn]; exact HRA6.out.cell (i := 2) (by omega)
                                have HDN := Lib.hid hdn
                                clear hdn
                                have hk6 : k < (s.calls.set k (Hs.seen (i + 1) a c)).length := by rw [List.length_set]; exact HKL.out
                                obtain ⟨gw', CW', f, eW, -, -, hc6, hf6, -⟩ := HL6.out.want.el hk6
                                rw [List.length_set, HNN.out] at eW
                                cases eW
                                have y5 := hc6 5 (by omega)
                                have y7 := hc6 7 (by omega)
                                have y8 := hc6 8 (by omega)
                                have y9 := hc6 9 (by omega)
                                have j5 := hf6 (k * 10 + 5)
                                have j7 := hf6 (k * 10 + 7)
                                have j8 := hf6 (k * 10 + 8)
                                have j9 := hf6 (k * 10 + 9)
                                obtain ⟨ge', CE', eE, -, b6, bf6⟩ := HL6.out.boolAt HKN.out
                                cases eE
                                have HGW := Lib.hid (show ba ≠ gw ∧ ba ≠ ge ∧ gw ≠ ge from ⟨fun q => (HL6.out.apart ba (.inr rfl)).2.1 (by rw [q]; rfl), fun q => (HL6.out.apart ba (.inr rfl)).2.2 (by rw [q]; rfl), fun q => HL6.out.ne gw rfl (by rw [q]; rfl)⟩)
                                have g1 : ¬ gw = ge := HGW.out.2.2
                                have g2 : ¬ ge = gw := fun q => HGW.out.2.2 q.symm
                                have HSX6 := Lib.hid (show ∀ w' : World, w'.heap[ba]? = w6.heap[ba]? → w'.cell? ⟨ba, 0, none⟩ = some (.int .i64 a.e) ∧ w'.cell? ⟨ba, 4, none⟩ = some (.slice AD ND CD) ∧ w'.cell? ⟨ba, 5, none⟩ = some (.slice AK NK CK) from fun w' hb => by
                                  have hr := HRA6.out.of_block hb
                                  exact ⟨hr.cell (i := 0) (by omega), hr.cell (i := 4) (by omega), hr.cell (i := 5) (by omega)⟩)
                                have qw : IntKind.i64.wrap ((i : Int) + 1) = (i : Int) + 1 := IntWalk.i64_in _ (by omega)
                                have HOV := HL6.out.overL I hk6 HKN.out (z := (i : Int) + 1) ⟨by omega, by omega⟩ HAW.out HFIT.out.2.1 HFIT.out.2.2 (c := (Hs.seen (i + 1) a c)) (by simp)
                                rw [HND.out, HNK.out, List.set_set] at HOV
                                have HFIN0 := Lib.hid (fun (b : World) (hb : Below _ _ b) => stands_hit HOK.out.2.2 HK2.out HKL.out HIS.out (m := i + 1) (by rw [HOK.out.1]) (y := Hs.over (i + 1) a (Hs.seen (i + 1) a c)) (by rw [HC.out]; unfold touch; rw [if_pos HDN.out]) (en := fun j => if j = k then true else s.ended j) (fun j => by simp [HDN.out]) (by rw [HNN.out]; exact HOV.below I hb))
                                clear HOV hc6 hf6 hk6
                                go_upto_region 31 with fail
                                refine wp_region_noPanic ?_
                                refine wp_region_till [31] (fun w' => w'.heap[ba]? = w6.heap[ba]?) (by kernel_rfl) rfl (fun _ => ?_)
                                have hHeld := (rfl : w6.drew.heap[ba]? = w6.heap[ba]?)
                                refine wpAnyT_take (i := 0) (oi := ?oiz50) (v := ?vz50) ?h1z50 (by kernel_rfl) (by kernel_rfl) (by kernel_rfl) (by kernel_rfl) (fun _ _ _ h => h) ?hyz50 (HeldT.of hHeld) ?_
                                case h1z50 => (simp only [List.getElem?_toArray, List.getElem?_cons_zero]; rfl)
                                case hyz50 => first | (refine Or.inr ⟨rfl, ?_⟩; rfl) | (refine Or.inl ⟨rfl, ?_⟩; intro w hSw; (try dsimp only at hSw); go_simp; done) | (refine Or.inl ⟨rfl, ?_⟩; intro w hSw; (try dsimp only at hSw); go_simp; with_reducible rfl)
                                try simp only [Act.put, List.setIfInBounds_toArray, List.set_cons_zero, List.set_cons_succ]
                                refine wpAnyT_take (i := 1) (oi := ?oiz51) (v := ?vz51) ?h1z51 (by kernel_rfl) (by kernel_rfl) (by kernel_rfl) (by kernel_rfl) (fun _ _ _ h => h) ?hyz51 (HeldT.of hHeld) ?_
                                case h1z51 => (simp only [List.getElem?_toArray, List.getElem?_cons_succ, List.getElem?_cons_zero]; rfl)
                                case hyz51 => first | (refine Or.inr ⟨rfl, ?_⟩; rfl) | (refine Or.inl ⟨rfl, ?_⟩; intro w hSw; (try dsimp only at hSw); go_simp; done) | (refine Or.inl ⟨rfl, ?_⟩; intro w hSw; (try dsimp only at hSw); go_simp; with_reducible rfl)
                                try simp only [Act.put, List.setIfInBounds_toArray, List.set_cons_zero, List.set_cons_succ]
                                refine wpAnyT_take (i := 2) (oi := ?oiz52) (v := ?vz52) ?h1z52 (by kernel_rfl) (by kernel_rfl) (by kernel_rfl) (by kernel_rfl) (fun _ _ _ h => h) ?hyz52 (HeldT.of hHeld) ?_
                                case h1z52 => (simp only [List.getElem?_toArray, List.getElem?_cons_succ, List.getElem?_cons_zero]; rfl)
                                case hyz52 => first | (refine Or.inr ⟨rfl, ?_⟩; rfl) | (refine Or.inl ⟨rfl, ?_⟩; intro w hSw; (try dsimp only at hSw); go_simp; done) | (refine Or.inl ⟨rfl, ?_⟩; intro w hSw; (try dsimp only at hSw); go_simp; with_reducible rfl)
                                try simp only [Act.put, List.setIfInBounds_toArray, List.set_cons_zero, List.set_cons_succ]
                                refine wpAnyT_take (i := 3) (oi := ?oiz53) (v := ?vz53) ?h1z53 (by kernel_rfl) (by kernel_rfl) (by kernel_rfl) (by kernel_rfl) (fun _ _ _ h => h) ?hyz53 (HeldT.of hHeld) ?_
                                case h1z53 => (simp only [List.getElem?_toArray, List.getElem?_cons_succ, List.getElem?_cons_zero]; rfl)
                                case hyz53 => first | (refine Or.inr ⟨rfl, ?_⟩; rfl) | (refine Or.inl ⟨rfl, ?_⟩; intro w hSw; (try dsimp only at hSw); go_simp; done) | (refine Or.inl ⟨rfl, ?_⟩; intro w hSw; (try dsimp only at hSw); go_simp; with_reducible rfl)
                                try simp only [Act.put, List.setIfInBounds_toArray, List.set_cons_zero, List.set_cons_succ]
                                refine wpAnyT_take (i := 4) (oi := ?oiz54) (v := ?vz54) ?h1z54 (by kernel_rfl) (by kernel_rfl) (by kernel_rfl) (by kernel_rfl) (fun _ _ _ h => h) ?hyz54 (HeldT.of hHeld) ?_
                                case h1z54 => (simp only [List.getElem?_toArray, List.getElem?_cons_succ, List.getElem?_cons_zero]; rfl)
                                case hyz54 => first | (refine Or.inr ⟨rfl, ?_⟩; rfl) | (refine Or.inl ⟨rfl, ?_⟩; intro w hSw; (try dsimp only at hSw); go_simp; done) | (refine Or.inl ⟨rfl, ?_⟩; intro w hSw; (try dsimp only at hSw); go_simp; with_reducible rfl)
                                try simp only [Act.put, List.setIfInBounds_toArray, List.set_cons_zero, List.set_cons_succ]
                                refine wpAnyT_take (i := 5) (oi := ?oiz55) (v := ?vz55) ?h1z55 (by kernel_rfl) (by kernel_rfl) (by kernel_rfl) (by kernel_rfl) (fun _ _ _ h => h) ?hyz55 (HeldT.of hHeld) ?_
                                case h1z55 => (simp only [List.getElem?_toArray, List.getElem?_cons_succ, List.getElem?_cons_zero]; rfl)
                                case hyz55 => first | (refine Or.inr ⟨rfl, ?_⟩; rfl) | (refine Or.inl ⟨rfl, ?_⟩; intro w hSw; (try dsimp only at hSw); go_simp; done) | (refine Or.inl ⟨rfl, ?_⟩; intro w hSw; (try dsimp only at hSw); go_simp; with_reducible rfl)
                                try simp only [Act.put, List.setIfInBounds_toArray, List.set_cons_zero, List.set_cons_succ]
                                refine wpAnyT_take (i := 6) (oi := ?oiz56) (v := ?vz56) ?h1z56 (by kernel_rfl) (by kernel_rfl) (by kernel_rfl) (by kernel_rfl) (fun _ _ _ h => h) ?hyz56 (HeldT.of hHeld) ?_
                                case h1z56 => (simp only [List.getElem?_toArray, List.getElem?_cons_succ, List.getElem?_cons_zero]; rfl)
                                case hyz56 => first | (refine Or.inr ⟨rfl, ?_⟩; rfl) | (refine Or.inl ⟨rfl, ?_⟩; intro w hSw; (try dsimp only at hSw); go_simp; done) | (refine Or.inl ⟨rfl, ?_⟩; intro w hSw; (try dsimp only at hSw); go_simp; with_reducible rfl)
                                try simp only [Act.put, List.setIfInBounds_toArray, List.set_cons_zero, List.set_cons_succ]
                                refine wpAnyT_take (i := 7) (oi := ?oiz57) (v := ?vz57) ?h1z57 (by kernel_rfl) (by kernel_rfl) (by kernel_rfl) (by kernel_rfl) (fun _ _ _ h => h) ?hyz57 (HeldT.of hHeld) ?_
                                case h1z57 => (simp only [List.getElem?_toArray, List.getElem?_cons_succ, List.getElem?_cons_zero]; rfl)
                                case hyz57 => first | (refine Or.inr ⟨rfl, ?_⟩; rfl) | (refine Or.inl ⟨rfl, ?_⟩; intro w hSw; (try dsimp only at hSw); go_simp; done) | (refine Or.inl ⟨rfl, ?_⟩; intro w hSw; (try dsimp only at hSw); go_simp; with_reducible rfl)
                                try simp only [Act.put, List.setIfInBounds_toArray, List.set_cons_zero, List.set_cons_succ]
                                refine wpAnyT_take (i := 8) (oi := ?oiz58) (v := ?vz58) ?h1z58 (by kernel_rfl) (by kernel_rfl) (by kernel_rfl) (by kernel_rfl) (fun _ _ _ h => h) ?hyz58 (HeldT.of hHeld) ?_
                                case h1z58 => (simp only [List.getElem?_toArray, List.getElem?_cons_succ, List.getElem?_cons_zero]; rfl)
                                case hyz58 => first | (refine Or.inr ⟨rfl, ?_⟩; rfl) | (refine Or.inl ⟨rfl, ?_⟩; intro w hSw; (try dsimp only at hSw); go_simp; done) | (refine Or.inl ⟨rfl, ?_⟩; intro w hSw; (try dsimp only at hSw); go_simp; with_reducible rfl)
                                try simp only [Act.put, List.setIfInBounds_toArray, List.set_cons_zero, List.set_cons_succ]
                                refine wpAnyT_take (i := 9) (oi := ?oiz59) (v := ?vz59) ?h1z59 (by kernel_rfl) (by kernel_rfl) (by kernel_rfl) (by kernel_rfl) (fun _ _ _ h => h) ?hyz59 (HeldT.of hHeld) ?_
                                case h1z59 => (simp only [List.getElem?_toArray, List.getElem?_cons_succ, List.getElem?_cons_zero]; rfl)
                                case hyz59 => first | (refine Or.inr ⟨rfl, ?_⟩; rfl) | (refine Or.inl ⟨rfl, ?_⟩; intro w hSw; (try dsimp only at hSw); go_simp; done) | (refine Or.inl ⟨rfl, ?_⟩; intro w hSw; (try dsimp only at hSw); go_simp; with_reducible rfl)
                                try simp only [Act.put, List.setIfInBounds_toArray, List.set_cons_zero, List.set_cons_succ]
                                refine wpAnyT_take (i := 10) (oi := ?oiz60) (v := ?vz60) ?h1z60 (by kernel_rfl) (by kernel_rfl) (by kernel_rfl) (by kernel_rfl) (fun _ _ _ h => h) ?hyz60 (HeldT.of hHeld) ?_
                                case h1z60 => (simp only [List.getElem?_toArray, List.getElem?_cons_succ, List.getElem?_cons_zero]; rfl)
                                case hyz60 => first | (refine Or.inr ⟨rfl, ?_⟩; rfl) | (refine Or.inl ⟨rfl, ?_⟩; intro w hSw; (try dsimp only at hSw); go_simp; done) | (refine Or.inl ⟨rfl, ?_⟩; intro w hSw; (try dsimp only at hSw); go_simp; with_reducible rfl)
                                try simp only [Act.put, List.setIfInBounds_toArray, List.set_cons_zero, List.set_cons_succ]
                                refine wpAnyT_take (i := 11) (oi := ?oiz61) (v := ?vz61) ?h1z61 (by kernel_rfl) (by kernel_rfl) (by kernel_rfl) (by kernel_rfl) (fun _ _ _ h => h) ?hyz61 (HeldT.of hHeld) ?_
                                case h1z61 => (simp only [List.getElem?_toArray, List.getElem?_cons_succ, List.getElem?_cons_zero]; rfl)
                                case hyz61 => first | (refine Or.inr ⟨rfl, ?_⟩; rfl) | (refine Or.inl ⟨rfl, ?_⟩; intro w hSw; (try dsimp only at hSw); go_simp; done) | (refine Or.inl ⟨rfl, ?_⟩; intro w hSw; (try dsimp only at hSw); go_simp; with_reducible rfl)
                                try simp only [Act.put, List.setIfInBounds_toArray, List.set_cons_zero, List.set_cons_succ]
                                refine wpAnyT_take (i := 12) (oi := ?oiz62) (v := ?vz62) ?h1z62 (by kernel_rfl) (by kernel_rfl) (by kernel_rfl) (by kernel_rfl) (fun _ _ _ h => h) ?hyz62 (HeldT.of hHeld) ?_
                                case h1z62 => (simp only [List.getElem?_toArray, List.getElem?_cons_succ, List.getElem?_cons_zero]; rfl)
                                case hyz62 => first | (refine Or.inr ⟨rfl, ?_⟩; rfl) | (refine Or.inl ⟨rfl, ?_⟩; intro w hSw; (try dsimp only at hSw); go_simp; done) | (refine Or.inl ⟨rfl, ?_⟩; intro w hSw; (try dsimp only at hSw); go_simp; with_reducible rfl)
                                try simp only [Act.put, List.setIfInBounds_toArray, List.set_cons_zero, List.set_cons_succ]
                                refine wpAnyT_load 31 (i := 13) (oi := ?oiz63) (v := ?vz63) ?h1z63 (by kernel_rfl) (by kernel_rfl) (by kernel_rfl) (by kernel_rfl) (fun _ _ _ h => h) ?hyz63 (HeldT.of hHeld) ?_
                                case h1z63 => (simp only [List.getElem?_toArray, List.getElem?_cons_succ, List.getElem?_cons_zero]; rfl)
                                case hyz63 => first | (refine Or.inr ⟨rfl, ?_⟩; rfl) | (refine Or.inl ⟨rfl, ?_⟩; intro w hSw; (have hSc := HSX6.out w hSw); go_simp; done) | (refine Or.inl ⟨rfl, ?_⟩; intro w hSw; (have hSc := HSX6.out w hSw); go_simp; with_reducible rfl)
                                try simp only [Act.put, List.setIfInBounds_toArray, List.set_cons_zero, List.set_cons_succ]
                                refine wpAnyT_take (i := 14) (oi := ?oiz64) (v := ?vz64) ?h1z64 (by kernel_rfl) (by kernel_rfl) (by kernel_rfl) (by kernel_rfl) (fun _ _ _ h => h) ?hyz64 (HeldT.of hHeld) ?_
                                case h1z64 => (simp only [List.getElem?_toArray, List.getElem?_cons_succ, List.getElem?_cons_zero]; rfl)
                                case hyz64 => first | (refine Or.inr ⟨rfl, ?_⟩; rfl) | (refine Or.inl ⟨rfl, ?_⟩; intro w hSw; (try dsimp only at hSw); go_simp; done) | (refine Or.inl ⟨rfl, ?_⟩; intro w hSw; (try dsimp only at hSw); go_simp; with_reducible rfl)
                                try simp only [Act.put, List.setIfInBounds_toArray, List.set_cons_zero, List.set_cons_succ]
                                refine wpAnyT_load 31 (i := 15) (oi := ?oiz65) (v := ?vz65) ?h1z65 (by kernel_rfl) (by kernel_rfl) (by kernel_rfl) (by kernel_rfl) (fun _ _ _ h => h) ?hyz65 (HeldT.of hHeld) ?_
                                case h1z65 => (simp only [List.getElem?_toArray, List.getElem?_cons_succ, List.getElem?_cons_zero]; rfl)
                                case hyz65 => first | (refine Or.inr ⟨rfl, ?_⟩; rfl) | (refine Or.inl ⟨rfl, ?_⟩; intro w hSw; (have hSc := HSX6.out w hSw); go_simp; done) | (refine Or.inl ⟨rfl, ?_⟩; intro w hSw; (have hSc := HSX6.out w hSw); go_simp; with_reducible rfl)
                                try simp only [Act.put, List.setIfInBounds_toArray, List.set_cons_zero, List.set_cons_succ]
                                refine wpAnyT_take (i := 16) (oi := ?oiz66) (v := ?vz66) ?h1z66 (by kernel_rfl) (by kernel_rfl) (by kernel_rfl) (by kernel_rfl) (fun _ _ _ h => h) ?hyz66 (HeldT.of hHeld) ?_
                                case h1z66 => (simp only [List.getElem?_toArray, List.getElem?_cons_succ, List.getElem?_cons_zero]; rfl)
                                case hyz66 => first | (refine Or.inr ⟨rfl, ?_⟩; rfl) | (refine Or.inl ⟨rfl, ?_⟩; intro w hSw; (try dsimp only at hSw); go_simp; done) | (refine Or.inl ⟨rfl, ?_⟩; intro w hSw; (try dsimp only at hSw); go_simp; with_reducible rfl)
                                try simp only [Act.put, List.setIfInBounds_toArray, List.set_cons_zero, List.set_cons_succ]
                                refine wpAnyT_load 31 (i := 17) (oi := ?oiz67) (v := ?vz67) ?h1z67 (by kernel_rfl) (by kernel_rfl) (by kernel_rfl) (by kernel_rfl) (fun _ _ _ h => h) ?hyz67 (HeldT.of hHeld) ?_
                                case h1z67 => (simp only [List.getElem?_toArray, List.getElem?_cons_succ, List.getElem?_cons_zero]; rfl)
                                case hyz67 => first | (refine Or.inr ⟨rfl, ?_⟩; rfl) | (refine Or.inl ⟨rfl, ?_⟩; intro w hSw; (have hSc := HSX6.out w hSw); go_simp; done) | (refine Or.inl ⟨rfl, ?_⟩; intro w hSw; (have hSc := HSX6.out w hSw); go_simp; with_reducible rfl)
                                try simp only [Act.put, List.setIfInBounds_toArray, List.set_cons_zero, List.set_cons_succ]
                                refine wpAnyT_take (i := 18) (oi := ?oiz68) (v := ?vz68) ?h1z68 (by kernel_rfl) (by kernel_rfl) (by kernel_rfl) (by kernel_rfl) (fun _ _ _ h => h) ?hyz68 (HeldT.of hHeld) ?_
                                case h1z68 => (simp only [List.getElem?_toArray, List.getElem?_cons_succ, List.getElem?_cons_zero]; rfl)
                                case hyz68 => first | (refine Or.inr ⟨rfl, ?_⟩; rfl) | (refine Or.inl ⟨rfl, ?_⟩; intro w hSw; (try dsimp only at hSw); go_simp; done) | (refine Or.inl ⟨rfl, ?_⟩; intro w hSw; (try dsimp only at hSw); go_simp; with_reducible rfl)
                                try simp only [Act.put, List.setIfInBounds_toArray, List.set_cons_zero, List.set_cons_succ]
                                refine wpAnyT_take (i := 19) (oi := ?oiz69) (v := ?vz69) ?h1z69 (by kernel_rfl) (by kernel_rfl) (by kernel_rfl) (by kernel_rfl) (fun _ _ _ h => h) ?hyz69 (HeldT.of hHeld) ?_
                                case h1z69 => (simp only [List.getElem?_toArray, List.getElem?_cons_succ, List.getElem?_cons_zero]; rfl)
                                case hyz69 => first | (refine Or.inr ⟨rfl, ?_⟩; rfl) | (refine Or.inl ⟨rfl, ?_⟩; intro w hSw; (try dsimp only at hSw); go_simp; done) | (refine Or.inl ⟨rfl, ?_⟩; intro w hSw; (try dsimp only at hSw); go_simp; with_reducible rfl)
                                try simp only [Act.put, List.setIfInBounds_toArray, List.set_cons_zero, List.set_cons_succ]
                                refine wpAnyT_ready (rs := [20]) (by kernel_rfl) (by simp) ?_
                                refine AllReadyT.cons (o := ?oiz70) ?h1z70 (fun K hK => ?_) ?morez70
                                case h1z70 => (simp only [List.getElem?_toArray, List.getElem?_cons_succ, List.getElem?_cons_zero]; rfl)
                                case morez70 => exact AllReadyT.nil
                                go_simp
                                have hHeld := (Below.heap_setCell w6.drew ⟨gw, k * 10 + 5, none⟩ (.int .i64 ((i : Int) + 1)) ba HGW.out.1)
                                refine hK.out _ _ (HeldT.of hHeld) (fun _ => ?_)
                                clear hK K
                                try simp only [Act.put, List.setIfInBounds_toArray, List.set_cons_zero, List.set_cons_succ]
                                refine wpAnyT_take (i := 21) (oi := ?oiz71) (v := ?vz71) ?h1z71 (by kernel_rfl) (by kernel_rfl) (by kernel_rfl) (by kernel_rfl) (fun _ _ _ h => h) ?hyz71 (HeldT.of hHeld) ?_
                                case h1z71 => (simp only [List.getElem?_toArray, List.getElem?_cons_succ, List.getElem?_cons_zero]; rfl)
                                case hyz71 => first | (refine Or.inr ⟨rfl, ?_⟩; rfl) | (refine Or.inl ⟨rfl, ?_⟩; intro w hSw; (try dsimp only at hSw); go_simp; done) | (refine Or.inl ⟨rfl, ?_⟩; intro w hSw; (try dsimp only at hSw); go_simp; with_reducible rfl)
                                try simp only [Act.put, List.setIfInBounds_toArray, List.set_cons_zero, List.set_cons_succ]
                                refine wpAnyT_take (i := 22) (oi := ?oiz72) (v := ?vz72) ?h1z72 (by kernel_rfl) (by kernel_rfl) (by kernel_rfl) (by kernel_rfl) (fun _ _ _ h => h) ?hyz72 (HeldT.of hHeld) ?_
                                case h1z72 => (simp only [List.getElem?_toArray, List.getElem?_cons_succ, List.getElem?_cons_zero]; rfl)
                                case hyz72 => first | (refine Or.inr ⟨rfl, ?_⟩; rfl) | (refine Or.inl ⟨rfl, ?_⟩; intro w hSw; (try dsimp only at hSw); go_simp; done) | (refine Or.inl ⟨rfl, ?_⟩; intro w hSw; (try dsimp only at hSw); go_simp; with_reducible rfl)
                                try simp only [Act.put, List.setIfInBounds_toArray, List.set_cons_zero, List.set_cons_succ]
                                refine wpAnyT_ready (rs := [23]) (by kernel_rfl) (by simp) ?_
                                refine AllReadyT.cons (o := ?oiz73) ?h1z73 (fun K hK => ?_) ?morez73
                                case h1z73 => (simp only [List.getElem?_toArray, List.getElem?_cons_succ, List.getElem?_cons_zero]; rfl)
                                case morez73 => exact AllReadyT.nil
                                go_simp
                                have hHeld := ((Below.heap_setCell _ ⟨gw, k * 10 + 7, none⟩ (.int .i64 a.e) ba HGW.out.1).trans (Below.heap_setCell w6.drew ⟨gw, k * 10 + 5, none⟩ (.int .i64 ((i : Int) + 1)) ba HGW.out.1))
                                refine hK.out _ _ (HeldT.of hHeld) (fun _ => ?_)
                                clear hK K
                                try simp only [Act.put, List.setIfInBounds_toArray, List.set_cons_zero, List.set_cons_succ]
                                refine wpAnyT_take (i := 24) (oi := ?oiz74) (v := ?vz74) ?h1z74 (by kernel_rfl) (by kernel_rfl) (by kernel_rfl) (by kernel_rfl) (fun _ _ _ h => h) ?hyz74 (HeldT.of hHeld) ?_
                                case h1z74 => (simp only [List.getElem?_toArray, List.getElem?_cons_succ, List.getElem?_cons_zero]; rfl)
                                case hyz74 => first | (refine Or.inr ⟨rfl, ?_⟩; rfl) | (refine Or.inl ⟨rfl, ?_⟩; intro w hSw; (try dsimp only at hSw); go_simp; done) | (refine Or.inl ⟨rfl, ?_⟩; intro w hSw; (try dsimp only at hSw); go_simp; with_reducible rfl)
                                try simp only [Act.put, List.setIfInBounds_toArray, List.set_cons_zero, List.set_cons_succ]
                                refine wpAnyT_take (i := 25) (oi := ?oiz75) (v := ?vz75) ?h1z75 (by kernel_rfl) (by kernel_rfl) (by kernel_rfl) (by kernel_rfl) (fun _ _ _ h => h) ?hyz75 (HeldT.of hHeld) ?_
                                case h1z75 => (simp only [List.getElem?_toArray, List.getElem?_cons_succ, List.getElem?_cons_zero]; rfl)
                                case hyz75 => first | (refine Or.inr ⟨rfl, ?_⟩; rfl) | (refine Or.inl ⟨rfl, ?_⟩; intro w hSw; (try dsimp only at hSw); go_simp; done) | (refine Or.inl ⟨rfl, ?_⟩; intro w hSw; (try dsimp only at hSw); go_simp; with_reducible rfl)
                                try simp only [Act.put, List.setIfInBounds_toArray, List.set_cons_zero, List.set_cons_succ]
                                refine wpAnyT_ready (rs := [26]) (by kernel_rfl) (by simp) ?_
                                refine AllReadyT.cons (o := ?oiz76) ?h1z76 (fun K hK => ?_) ?morez76
                                case h1z76 => (simp only [List.getElem?_toArray, List.getElem?_cons_succ, List.getElem?_cons_zero]; rfl)
                                case morez76 => exact AllReadyT.nil
                                go_simp
                                have hHeld := ((Below.heap_setCell _ ⟨gw, k * 10 + 8, none⟩ (.slice AD ND CD) ba HGW.out.1).trans ((Below.heap_setCell _ ⟨gw, k * 10 + 7, none⟩ (.int .i64 a.e) ba HGW.out.1).trans (Below.heap_setCell w6.drew ⟨gw, k * 10 + 5, none⟩ (.int .i64 ((i : Int) + 1)) ba HGW.out.1)))
                                refine hK.out _ _ (HeldT.of hHeld) (fun _ => ?_)
                                clear hK K
                                try simp only [Act.put, List.setIfInBounds_toArray, List.set_cons_zero, List.set_cons_succ]
                                refine wpAnyT_take (i := 27) (oi := ?oiz77) (v := ?vz77) ?h1z77 (by kernel_rfl) (by kernel_rfl) (by kernel_rfl) (by kernel_rfl) (fun _ _ _ h => h) ?hyz77 (HeldT.of hHeld) ?_
                                case h1z77 => (simp only [List.getElem?_toArray, List.getElem?_cons_succ, List.getElem?_cons_zero]; rfl)
                                case hyz77 => first | (refine Or.inr ⟨rfl, ?_⟩; rfl) | (refine Or.inl ⟨rfl, ?_⟩; intro w hSw; (try dsimp only at hSw); go_simp; done) | (refine Or.inl ⟨rfl, ?_⟩; intro w hSw; (try dsimp only at hSw); go_simp; with_reducible rfl)
                                try simp only [Act.put, List.setIfInBounds_toArray, List.set_cons_zero, List.set_cons_succ]
                                refine wpAnyT_take (i := 28) (oi := ?oiz78) (v := ?vz78) ?h1z78 (by kernel_rfl) (by kernel_rfl) (by kernel_rfl) (by kernel_rfl) (fun _ _ _ h => h) ?hyz78 (HeldT.of hHeld) ?_
                                case h1z78 => (simp only [List.getElem?_toArray, List.getElem?_cons_succ, List.getElem?_cons_zero]; rfl)
                                case hyz78 => first | (refine Or.inr ⟨rfl, ?_⟩; rfl) | (refine Or.inl ⟨rfl, ?_⟩; intro w hSw; (try dsimp only at hSw); go_simp; done) | (refine Or.inl ⟨rfl, ?_⟩; intro w hSw; (try dsimp only at hSw); go_simp; with_reducible rfl)
                                try simp only [Act.put, List.setIfInBounds_toArray, List.set_cons_zero, List.set_cons_succ]
                                refine wpAnyT_ready (rs := [29]) (by kernel_rfl) (by simp) ?_
                                refine AllReadyT.cons (o := ?oiz79) ?h1z79 (fun K hK => ?_) ?morez79
                                case h1z79 => (simp only [List.getElem?_toArray, List.getElem?_cons_succ, List.getElem?_cons_zero]; rfl)
                                case morez79 => exact AllReadyT.nil
                                go_simp
                                have hHeld := ((Below.heap_setCell _ ⟨gw, k * 10 + 9, none⟩ (.slice AK NK CK) ba HGW.out.1).trans ((Below.heap_setCell _ ⟨gw, k * 10 + 8, none⟩ (.slice AD ND CD) ba HGW.out.1).trans ((Below.heap_setCell _ ⟨gw, k * 10 + 7, none⟩ (.int .i64 a.e) ba HGW.out.1).trans (Below.heap_setCell w6.drew ⟨gw, k * 10 + 5, none⟩ (.int .i64 ((i : Int) + 1)) ba HGW.out.1))))
                                refine hK.out _ _ (HeldT.of hHeld) (fun _ => ?_)
                                clear hK K
                                try simp only [Act.put, List.setIfInBounds_toArray, List.set_cons_zero, List.set_cons_succ]
                                refine wpAnyT_take (i := 30) (oi := ?oiz80) (v := ?vz80) ?h1z80 (by kernel_rfl) (by kernel_rfl) (by kernel_rfl) (by kernel_rfl) (fun _ _ _ h => h) ?hyz80 (HeldT.of hHeld) ?_
                                case h1z80 => (simp only [List.getElem?_toArray, List.getElem?_cons_succ, List.getElem?_cons_zero]; rfl)
                                case hyz80 => first | (refine Or.inr ⟨rfl, ?_⟩; rfl) | (refine Or.inl ⟨rfl, ?_⟩; intro w hSw; (try dsimp only at hSw); go_simp; done) | (refine Or.inl ⟨rfl, ?_⟩; intro w hSw; (try dsimp only at hSw); go_simp; with_reducible rfl)
                                try simp only [Act.put, List.setIfInBounds_toArray, List.set_cons_zero, List.set_cons_succ]
                                refine wpAnyT_ready (rs := [31]) (by kernel_rfl) (by simp) ?_
                                refine AllReadyT.cons (o := ?oiz81) ?h1z81 (fun K hK => ?_) ?morez81
                                case h1z81 => (simp only [List.getElem?_toArray, List.getElem?_cons_succ, List.getElem?_cons_zero]; rfl)
                                case morez81 => exact AllReadyT.nil
                                go_simp
                                refine hK.out _ _ (HeldT.over (by kernel_rfl)) (fun _ => ?_)
                                clear hK K
                                try simp only [Act.put, List.setIfInBounds_toArray, List.set_cons_zero, List.set_cons_succ]
                                refine wpAnyT_done (by kernel_rfl) ?_ _
                                refine NoPanic.normal ?_
                                have HFIN := Lib.hid (HFIN0.out _ (below_drewN _ _ 1))
                                clear y5 y7 y8 y9 j5 j7 j8 j9 b6 bf6 g1 g2 qw u2
                                go_wp2
                                go_roundg (kO - 1)
                                case measure => have := HKO.out; omega
                                case rel => exact ⟨i + 1, by have := HKO.out; omega, by go_num, by rw [HSU.out]; exact HFIN.out⟩
                              · have hdn' : a.done = false := by simpa using hdn
                                have u2 : w6.cell? ⟨ba, 2, none⟩ = some (.bool false) := by rw [← hdn']; exact HRA6.out.cell (i := 2) (by omega)
                                have HFIN := Lib.hid (stands_hit HOK.out.2.2 HK2.out HKL.out HIS.out (m := i + 1) (by rw [HOK.out.1]) (y := (Hs.seen (i + 1) a c)) (by rw [HC.out]; unfold touch; rw [if_neg hdn]) (en := s.ended) (fun j => by rw [if_neg (fun q => hdn q.2)]) (by rw [HNN.out]; exact HL6.out))
                                clear hdn hdn'
                                go_wp2
                                go_roundg (kO - 1)
                                case measure => have := HKO.out; omega
                                case rel => exact ⟨i + 1, by have := HKO.out; omega, by go_num, by rw [HSU.out]; exact HFIN.out⟩
                        · have r1 : (c.task != x.a) = true := by rw [bne_iff_ne]; exact ht
                          have HISN := Lib.hid (show s.is x.a k = false by unfold St.is; rw [hof]; simp [ht])
                          clear hof hc hcl hfl hR ht
                          go_wp2
                          go_quiet (fail)
                          go_wp2
                          go_roundg k
                          case measure => omega
                          case rel => exact ⟨by omega, by rw [← dec_eq], fun m e1 e2 => by
                            by_cases e : m = k
                            · rw [e]; exact HISN.out
                            · exact HNO.out m (by omega) e2, _, rfl⟩
                  · have s2 : (x.kind == (2 : Int)) = false := by simpa using h2k
                    by_cases h8k : x.kind = 8
                    · have s8 : (x.kind == (8 : Int)) = true := by rw [h8k]; rfl
                      have HK8 := Lib.hid h8k
                      clear h1k h2k h8k
                      go_wp2_with fail
                      go_loopg [11] n (fun kk d w9 => ∃ k : Nat, k + kk = n ∧ d = .int .i64 k ∧ LawAt PD W w9 p (fun b => b = bx ∨ b = ba) (.slice AW n CW) (.slice AE n CE) (s.add x a) s.calls n (fun j => decide (j < k) || s.ended j))
                      case atStart => exact ⟨0, by omega, rfl, HL5.out.en_congr (fun j _ => by simp)⟩
                      case round =>
                        obtain ⟨k, hkk, rfl, hl9⟩ := hrel
                        have HL9 := Lib.hid hl9
                        by_cases hkn : k < n
                        · obtain ⟨ge, CE', eE, -, eb0, ebf⟩ := hl9.boolAt hkn
                          cases eE
                          have z1 : (0 : Int) ≤ (k : Int) := by omega
                          have z2 : (k : Int) < (n : Int) := by omega
                          have HNL := Lib.hid ((hl9.endL I hkn).1.en_congr (en' := fun j => decide (j < k + 1) || s.ended j) (fun j _ => by
                            by_cases e : j = k
                            · subst e; simp
                            · rw [if_neg e, show decide (j < k) = decide (j < k + 1) from decide_eq_decide.2 (by omega)]))
                          clear hl9
                          go_wp2
                          go_roundg (gk - 1)
                          case measure => omega
                          case rel => exact ⟨k + 1, by omega, by go_num, HNL.out⟩
                        · obtain rfl : k = n := by omega
                          have HFIN := Lib.hid (stands_crash HK8.out (by rw [HNN.out]; exact HL9.out.en_congr (fun j hj => by rw [decide_eq_true hj]; rfl)))
                          clear hl9
                          go_wp2
                          go_roundg (kO - 1)
                          case measure => have := HKO.out; omega
                          case rel => exact ⟨i + 1, by have := HKO.out; omega, by go_num, by rw [HSU.out]; exact HFIN.out⟩
                    · have s8 : (x.kind == (8 : Int)) = false := by simpa using h8k
                      have HFIN := Lib.hid (stands_same (add_other' h1k h2k h8k) (by rw [HNN.out]; exact HL5.out))
                      clear h1k h2k h8k
                      go_wp2
                      go_roundg (kO - 1)
                      case measure => have := HKO.out; omega
                      case rel => exact ⟨i + 1, by have := HKO.out; omega, by go_num, by rw [HSU.out]; exact HFIN.out⟩
      · obtain rfl : i = N := by omega
        have hok := stAt_ok l i (by rw [HN.out]; exact Nat.le_refl _)
        obtain ⟨s, hs⟩ : ∃ s, stAt l i = s := ⟨_, rfl⟩
        rw [hs] at hok HST
        have HOK := Lib.hid hok
        obtain ⟨AW, CW, rfl, -, -⟩ := HST.out.shapeW
        clear hst hs hok
        go_wp2_with fail
        refine (answersC I _).mono ?_
        rintro _ w7 ⟨rfl, hb7⟩
        have HL7 := Lib.hid (HST.out.below I hb7)
        clear hb7
        obtain ⟨F7, f7, -⟩ := HL7.out.mine
        have HF7 := Lib.hid f7
        clear f7
        go_wp2_with fail
        refine (I.calls HF7.out ⟨by have := HOK.out; omega, by have := HOK.out; omega⟩).mono ?_
        rintro _ w8 ⟨V, rfl, hs8, hb8⟩
        have hc8 := calls_w hs8.here
        obtain ⟨A8, C8, rfl, -⟩ := calls_shape hc8
        have HS8 := Lib.hid (sameK s.calls _ _ w8 hc8 (calls_below HL7.out.want.cells hb8))
        have HB8 := Lib.hid (HL7.out.bel.trans (hb8.mono HL7.out.bel.size))
        clear hs8 hb8 hc8
        go_wp2_with fail
        refine HS8.out.mono ?_
        rintro _ w9 ⟨rfl, hb9⟩
        have HB9 := Lib.hid (HB8.out.trans (hb9.mono HB8.out.size))
        clear hb9
        go_wp2
        go_ret
        exact ⟨rfl, HB9.out⟩
end Go.Proofs.Ytcljpniknpgmpaa.Hst
