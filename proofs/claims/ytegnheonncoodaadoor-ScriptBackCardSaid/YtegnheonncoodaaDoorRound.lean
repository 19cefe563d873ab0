/- A region that draws its order, in the body of a loop over an iterator; an operation of it that reads is taken first as long as a certain store has not come up; two slices that grow side by side. No program is named here. -/
import Derived.Test.YtegnheonncoodaaDoorBox
import Derived.RangeFuncCalls
import Derived.OrdersIn
import Derived.OrdersHeld
import Derived.OwnWalkIn
import Derived.Lib.AppendZeros
namespace Go.Mem
open Go.RowKit
section
variable {P : Program} {ops : Array Oper} {Q : Exit → Act → World → Prop} {md : Region.Mode}
/-- in the body of a loop over an iterator, an operation that is no defer statement does what it does elsewhere -/
theorem wpOp_in {l n i : Nat} {K : Act → World → Prop} {a : Act} {w : World} (hQ : ¬ LetsOut Q) (hd : ∀ o, ops[i]? = some o → ∀ c, o.op ≠ .defer c) (h : wpOp P ops Q i K a w) : wpOpIn (Fence.wide.inRound l) n P ops Q i K a w := by
  unfold wpOp at h
  unfold wpOpIn
  cases ho : ops[i]? with
  | none => simp only [ho] at h ⊢; exact h
  | some o =>
    simp only [ho] at h ⊢
    split
    · rename_i hw
      simp only [hw, if_true] at h
      rcases h with h | h
      · refine ⟨fun _ _ => trivial, ?_⟩
        rw [Oper.semAt_eq _ _ _ (hd o ho)]
        unfold Oper.wp at h
        generalize (execOp a.eval o).run P w = r at h ⊢
        cases r with
        | ok v w' =>
          cases v <;> simp only [Oper.upon, Oper.uponIn] at h ⊢ <;> first | exact h | skip
          · refine ⟨fun e => (by cases e), (CallsIn.inRound l (callsIn_wide.2 h)).mono fun e w'' he => ?_⟩
            cases e <;> exact he
          · refine ⟨fun e => (by cases e), fun c cs _ => ?_⟩
            obtain ⟨v, w'', hv, hs⟩ := h c cs
            exact ⟨v, w'', hv, stepsIn_wide.2 hs⟩
        | halt x w' => cases x <;> simp only [Oper.upon, Oper.uponIn] at h ⊢ <;> exact h
      · exact absurd h.2 hQ
    · rename_i hw
      simp only [hw] at h
      exact ⟨fun _ _ => trivial, h⟩
theorem wpOps_in {l n : Nat} (hQ : ¬ LetsOut Q) (hd : ∀ (i : Nat) o, ops[i]? = some o → ∀ c, o.op ≠ .defer c) : ∀ (L : List Nat) (a : Act) (w : World), wpOps P ops Q L a w → wpOpsIn (Fence.wide.inRound l) n P ops Q L a w
  | [], _, _, h => h
  | i :: L, a, w, h => by
    rw [wpOps_cons] at h
    rw [wpOpsIn_cons]
    exact wpOp_in hQ (hd i) (wpOp_mono (fun a w => wpOps_in hQ hd L a w) h)
/-- no operation of a region is a defer statement -/
def noDefer (ops : Array Oper) : Bool := ops.toList.all fun o => match o.op with | .defer _ => false | _ => true
theorem noDefer_spec (h : noDefer ops = true) (i : Nat) (o : Oper) (ho : ops[i]? = some o) (c : Call) : o.op ≠ .defer c := by
  intro e
  unfold noDefer at h
  rw [List.all_eq_true] at h
  have := h o (by rw [Array.mem_toList_iff]; exact Array.mem_of_getElem? ho)
  rw [e] at this
  cases this
/-- the region's walk in such a body, by the plain walk's law -/
theorem wpIn_round_any {l n id : Nat} {a : Act} {w : World} (hm : P.follows .mixedOrders = true) (hQ : ¬ LetsOut Q) (hd : noDefer ops = true)
    (h : wpAny P .any ops Q ops.size (Array.replicate ops.size false) a w.drew) : (Code.region id ops true).wpIn (Fence.wide.inRound l) n P Q a w :=
  wpIn_region_draw fun t => by
    simp only [Region.schedule, hm, Bool.true_or, if_true]
    exact wpOps_in hQ (noDefer_spec hd) _ _ _ (wpAny_sound ops.size t _ a _ h)
/-- what holds as long as a certain operation has not come up -/
def HeldBy (Us : List (Nat × (World → Prop))) (listed : Array Bool) (w : World) : Prop := ∀ p ∈ Us, listed.getD p.1 true = false → p.2 w
/-- 'wpAny', and that holds behind each operation -/
def wpAnyU (P : Program) (md : Region.Mode) (ops : Array Oper) (Q : Exit → Act → World → Prop) (Us : List (Nat × (World → Prop))) : Nat → Array Bool → Act → World → Prop
  | 0, listed, a, w => Region.ready md ops listed = [] ∧ Q .normal a w
  | fuel + 1, listed, a, w =>
    (Region.ready md ops listed = [] → Q .normal a w) ∧
    ∀ i ∈ Region.ready md ops listed, wpOp P ops Q i (fun a' w' => HeldBy Us (listed.setIfInBounds i true) w' ∧ wpAnyU P md ops Q Us fuel (listed.setIfInBounds i true) a' w') a w
theorem wpAny_of_U {Us : List (Nat × (World → Prop))} : ∀ (fuel : Nat) (listed : Array Bool) (a : Act) (w : World), wpAnyU P md ops Q Us fuel listed a w → wpAny P md ops Q fuel listed a w
  | 0, _, _, _, h => h
  | fuel + 1, _, _, _, h => ⟨h.1, fun i hi => wpOp_mono (fun a' w' h' => wpAny_of_U fuel _ a' w' h'.2) (h.2 i hi)⟩
theorem HeldBy.set {Us : List (Nat × (World → Prop))} {L : Array Bool} {w : World} (h : HeldBy Us L w) (i : Nat) : HeldBy Us (L.setIfInBounds i true) w := fun p hp hL => by
  by_cases e : i = p.1
  · rw [← e] at hL
    rcases Nat.lt_or_ge i L.size with h' | h'
    · rw [Array.getD_eq_getD_getElem?, Array.getElem?_setIfInBounds] at hL; simp [h'] at hL
    · rw [Array.getD_eq_getD_getElem?, Array.getElem?_setIfInBounds] at hL; simp [Nat.not_lt.2 h'] at hL
  · exact h p hp (by rw [← getD_set_ne true e]; exact hL)
theorem wpAnyU_first {Us : List (Nat × (World → Prop))} {s : Nat} {U : World → Prop} (hmem : (s, U) ∈ Us) {i : Nat} {oi os : Oper} {v : Value} (hi : ops[i]? = some oi) (hs : ops[s]? = some os) (hsi : ∃ e ∈ os.after, Region.binds md e = true ∧ e.on = i) (hne : ∀ p ∈ Us, p.1 ≠ i)
    (hsel : ∀ (j : Nat) (o : Oper) cs b, ops[j]? = some o → o.op ≠ .select cs b) (hQ : ∀ c a w, Q (.panic c) (a.put oi.dst v) w → Q (.panic c) a w) :
    ∀ (fuel : Nat) (listed : Array Bool) (a : Act) (w : World),
      (∀ j oj, ops[j]? = some oj → j ≠ i → listed.getD j true = false → (∀ e ∈ oj.after, Region.binds md e = true → e.on ≠ i) → oi.apart ops oj = true) →
      i ∈ Region.ready md ops listed → listed.getD s true = false → YieldsIf P ops U oi v a → HeldBy Us listed w →
      wpAnyU P md ops Q Us fuel (listed.setIfInBounds i true) (a.put oi.dst v) w → wpAnyU P md ops Q Us (fuel + 1) listed a w := by
  intro fuel
  induction fuel with
  | zero =>
    intro listed a w _ hr hun hy hU H
    refine ⟨fun h => (by rw [h] at hr; cases hr), fun j hj => ?_⟩
    by_cases hji : j = i
    · subst hji; exact hy.wpOp hi (hU _ hmem hun) ⟨hU.set _, H⟩
    · have := ready_mono hj hji
      rw [H.1] at this
      cases this
  | succ fuel ih =>
    intro listed a w hfree hr hun hy hU H
    refine ⟨fun h => (by rw [h] at hr; cases hr), fun j hj => ?_⟩
    by_cases hji : j = i
    · subst hji; exact hy.wpOp hi (hU _ hmem hun) ⟨hU.set _, H⟩
    · have h1 := H.2 j (ready_mono hj hji)
      obtain ⟨hjun, oj, hoj, hall⟩ := mem_ready.1 hj
      have hnot : ∀ e ∈ oj.after, Region.binds md e = true → e.on ≠ i := fun e he hb heq => by
        have h1 := hall e he hb
        have h0 := (mem_ready.1 hr).1
        rw [heq] at h1
        rcases Nat.lt_or_ge i listed.size with h' | h'
        · simp [h'] at h0 h1; rw [h0] at h1; cases h1
        · simp [Array.getElem?_eq_none h'] at h1
      have hjs : j ≠ s := fun e => by
        subst e
        rw [hs] at hoj
        cases hoj
        obtain ⟨e, he, hb, heq⟩ := hsi
        exact hnot e he hb heq
      have hun' : (listed.setIfInBounds j true).getD s true = false := by rw [getD_set_ne true hjs]; exact hun
      have h2 := wpOp_putIf hoj (hfree j oj hoj hji hjun hnot) (fun cs b => hsel i oi cs b hi) (fun cs b => hsel j oj cs b hoj) hQ hy h1
      have hfree' : ∀ k ok, ops[k]? = some ok → k ≠ i → (listed.setIfInBounds j true).getD k true = false →
          (∀ e ∈ ok.after, Region.binds md e = true → e.on ≠ i) → oi.apart ops ok = true := fun k ok hk hki hun2 hno => by
        refine hfree k ok hk hki ?_ hno
        by_cases hjk : j = k
        · subst hjk; exact hjun
        · rw [getD_set_ne true hjk] at hun2; exact hun2
      refine wpOp_mono (fun a' w' h3 => ?_) h2
      have hU' : HeldBy Us (listed.setIfInBounds j true) w' := fun p hp hL => h3.2.1 p hp (by
        rw [Array.setIfInBounds_comm _ _ (Ne.symm hji), getD_set_ne true (hne p hp).symm]; exact hL)
      refine ⟨hU', ih (listed.setIfInBounds j true) a' w' hfree' (ready_mono hr (Ne.symm hji)) hun' h3.1 hU' ?_⟩
      rw [Array.setIfInBounds_comm _ _ hji]
      exact h3.2.2
/-- operation s waits for operation i -/
def waitsFor (md : Region.Mode) (ops : Array Oper) (s i : Nat) : Bool := match ops[s]? with | some o => o.after.toList.any (fun e => Region.binds md e && e.on == i) | none => false
theorem wpAnyU_take {Us : List (Nat × (World → Prop))} (s : Nat) (U : World → Prop) {i : Nat} {oi : Oper} {v : Value} {fuel : Nat} {listed : Array Bool} {a : Act} {w : World} (hmem : (s, U) ∈ Us) (hi : ops[i]? = some oi) (hs : Region.noSelect ops = true) (hf : Region.free md ops listed i = true) (hr : (Region.ready md ops listed).contains i = true)
    (hw : waitsFor md ops s i = true) (hne : ∀ p ∈ Us, p.1 ≠ i) (hun : listed.getD s true = false) (hQ : ∀ c a w, Q (.panic c) (a.put oi.dst v) w → Q (.panic c) a w) (hy : YieldsIf P ops U oi v a) (hU : HeldBy Us listed w)
    (h : wpAnyU P md ops Q Us fuel (listed.setIfInBounds i true) (a.put oi.dst v) w) : wpAnyU P md ops Q Us (fuel + 1) listed a w := by
  unfold waitsFor at hw
  cases ho : ops[s]? with
  | none => rw [ho] at hw; cases hw
  | some os =>
    simp only [ho] at hw
    rw [List.any_eq_true] at hw
    obtain ⟨e, he, hb⟩ := hw
    rw [Bool.and_eq_true, beq_iff_eq] at hb
    exact wpAnyU_first hmem hi ho ⟨e, by rw [← Array.mem_toList_iff]; exact he, hb.1, hb.2⟩ hne (Region.noSelect_spec hs) hQ fuel listed a w (Region.free_spec hi hf) (by simpa using hr) hun hy hU h
theorem wpAnyU_all {Us : List (Nat × (World → Prop))} {rs : List Nat} {fuel : Nat} {listed : Array Bool} {a : Act} {w : World} (hr : Region.ready md ops listed = rs) (hne : rs ≠ [])
    (h : ∀ i ∈ rs, wpOp P ops Q i (fun a' w' => HeldBy Us (listed.setIfInBounds i true) w' ∧ wpAnyU P md ops Q Us fuel (listed.setIfInBounds i true) a' w') a w) : wpAnyU P md ops Q Us (fuel + 1) listed a w :=
  ⟨fun h0 => absurd (hr ▸ h0) hne, hr ▸ h⟩
theorem wpAnyU_done {Us : List (Nat × (World → Prop))} {listed : Array Bool} {a : Act} {w : World} (hr : Region.ready md ops listed = []) (h : Q .normal a w) : ∀ fuel, wpAnyU P md ops Q Us fuel listed a w
  | 0 => ⟨hr, h⟩
  | _ + 1 => ⟨fun _ => h, by rw [hr]; simp⟩
end
theorem row_shape {W : World} {n e k : Nat} {v : Value} {xs : List Value} (h : W.ownsRow n e 1 v k xs) : ∃ A C, v = .slice A k C := by
  rcases h.2 with ⟨rfl, h0⟩ | ⟨g, cap, cur, rfl, _⟩
  · have : k = 0 := by
      have h1 := h.1
      omega
    subst this
    exact ⟨none, 0, rfl⟩
  · exact ⟨_, cap, rfl⟩
/-- two variables in boxes, each a slice that the loop builds in a block of its own, beyond n -/
def Two (n b1 b2 t e : Nat) (xs ys : List Value) (W : World) : Prop :=
  ∃ u1 u2, Boxed W b1 t u1 ∧ Boxed W b2 t u2 ∧ W.ownsRow n e 1 u1 xs.length xs ∧ W.ownsRow n e 1 u2 ys.length ys ∧ (u1.ownBlock = none ∨ u1.ownBlock ≠ u2.ownBlock)
theorem Two.kept {W W' : World} {row : Option Nat} {n b1 b2 t e : Nat} {xs ys : List Value} (h : Two n b1 b2 t e xs ys W) (hg : W.grownBy W' row) (hr : ∀ r, row = some r → ∃ o : Obj, W.heap[r]? = some o ∧ o.isCells = false) : Two n b1 b2 t e xs ys W' := by
  obtain ⟨u1, u2, h1, h2, h3, h4, h5⟩ := h
  exact ⟨u1, u2, box_kept h1 hg hr, box_kept h2 hg hr, row_kept h3 hg hr, row_kept h4 hg hr, h5⟩
section
variable {P : Program} {ops : Array Oper} {Q : Exit → Act → World → Prop} {o : Oper} {a : Act} {w w' : World} {K : Act → World → Prop} {i : Nat} {v : Value}
theorem wpOp_val (hi : ops[i]? = some o) (hg : o.guard = none) (hr : (execOp a.eval o).run P w = .ok (.value v) w') (h : K (a.put o.dst v) w') : wpOp P ops Q i K a w := by
  unfold wpOp
  simp only [hi]
  rw [if_pos (by simp [Region.wanted, hg])]
  refine .inl ?_
  unfold Oper.wp
  rw [hr]
  exact h
theorem wpOp_skip (hi : ops[i]? = some o) (hg : o.guard = none) (hr : (execOp a.eval o).run P w = .ok .skip w') (h : K (a.put o.dst undef) w') : wpOp P ops Q i K a w := by
  unfold wpOp
  simp only [hi]
  rw [if_pos (by simp [Region.wanted, hg])]
  refine .inl ?_
  unfold Oper.wp
  rw [hr]
  exact h
theorem exec_append (s x : Operand) (t tn : TypeId) (ho : o.op = .call { callee := .builtin .append, args := #[s, x], argTypes := #[t, tn] }) (vs vx : Value) (hs : a.eval s = vs) (hx : a.eval x = vx)
    (hr : (Builtin.append_ #[t, tn] o.type #[vs, vx]).run P w = .ok v w') : (execOp a.eval o).run P w = .ok (.value v) w' := by
  unfold execOp
  simp only [ho, resolve, invoke, builtin, Sem.run_bind, Sem.run_pure, Result.andThen_ok, List.map_toArray, List.map_cons, List.map_nil, hs, hx, hr]
end
theorem put_ne {a : Act} {d j : Nat} (v : Value) (h : d ≠ j) : (a.put (some d) v).eval (.tmp j) = a.eval (.tmp j) := by
  simp [Act.put, Act.eval, h]
theorem put_same {a : Act} {d : Nat} (v : Value) (h : d < a.tmps.size) : (a.put (some d) v).eval (.tmp d) = v := by
  simp [Act.put, Act.eval, h]
theorem put_size {a : Act} (d : Option Nat) (v : Value) : (a.put d v).tmps.size = a.tmps.size := by
  cases d <;> simp [Act.put]
theorem put_none {a : Act} (v : Value) : a.put none v = a := by simp [Act.put]
/-- two slices that grow: in w their variables still hold what they held in W; r1, r2 are what they have grown to; tm: the new elements, in blocks of their own -/
structure Duo (n b1 b2 t e : Nat) (W : World) (u1 u2 : Value) (w : World) (r1 : Value) (xs1 : List Value) (r2 : Value) (xs2 : List Value) (tm : List (Nat × Value)) : Prop where
  box1 : Boxed w b1 t u1
  box2 : Boxed w b2 t u2
  row1 : w.ownsRow n e 1 r1 xs1.length xs1
  row2 : w.ownsRow n e 1 r2 xs2.length xs2
  dis : r1.ownBlock = none ∨ r1.ownBlock ≠ r2.ownBlock
  sole : Sole n [] W w
  keeps : KeepsOthers W w
  tmp : ∀ q ∈ tm, w.cell? ⟨q.1, 0, none⟩ = some q.2 ∧ r1.ownBlock ≠ some q.1 ∧ r2.ownBlock ≠ some q.1
section
variable {n b1 b2 t e : Nat} {W w : World} {u1 u2 r1 r2 : Value} {xs1 xs2 : List Value} {tm : List (Nat × Value)}
theorem Duo.swap (h : Duo n b1 b2 t e W u1 u2 w r1 xs1 r2 xs2 tm) : Duo n b2 b1 t e W u2 u1 w r2 xs2 r1 xs1 tm := by
  refine ⟨h.box2, h.box1, h.row2, h.row1, ?_, h.sole, h.keeps, fun q hq => ⟨(h.tmp q hq).1, (h.tmp q hq).2.2, (h.tmp q hq).2.1⟩⟩
  cases h2 : r2.ownBlock with
  | none => exact .inl rfl
  | some k =>
    right
    rcases h.dis with hd | hd
    · rw [hd]; simp
    · rw [h2] at hd; exact Ne.symm hd
theorem Duo.size (h : Duo n b1 b2 t e W u1 u2 w r1 xs1 r2 xs2 tm) (hn : n ≤ W.heap.size) : n ≤ w.heap.size := Nat.le_trans hn h.sole.size
theorem Duo.build (h : Duo n b1 b2 t e W u1 u2 w r1 xs1 r2 xs2 tm) (hn : n ≤ W.heap.size) (c : Value) (e' : Nat) : Duo n b1 b2 t e W u1 u2 (w.alloc (.cells #[c] e')) r1 xs1 r2 xs2 ((w.heap.size, c) :: tm) := by
  refine ⟨h.box1.alloc _, h.box2.alloc _, h.row1.alloc _, h.row2.alloc _, h.dis, h.sole.trans (Sole.alloc n [] w _ (h.size hn)), h.keeps.trans (KeepsOthers.alloc _ _), fun q hq => ?_⟩
  rcases List.mem_cons.1 hq with rfl | hq
  · exact ⟨(Boxed.new w e' c).cell, fun e => by have := (h.row1.lt _ e).2; omega, fun e => by have := (h.row2.lt _ e).2; omega⟩
  · obtain ⟨h1, h2, h3⟩ := h.tmp q hq
    exact ⟨cell_kept h1 (World.grownBy_alloc w _ none) (fun r e => by cases e), h2, h3⟩
theorem Duo.app1 {P : Program} (h : Duo n b1 b2 t e W u1 u2 w r1 xs1 r2 xs2 tm) (hn : n ≤ W.heap.size) (hb1 : b1 < n) (hb2 : b2 < n) (T ty : TypeId) (z : Value) (bytes : Nat) (hT : P.underlying T = some (.slice e)) (hinfo : (P.info? e).map (fun i => (i.zero, i.size, i.bytes)) = some (some z, 1, bytes)) (hzs : z.cells.size = 1)
    (q : Nat) (c : Value) (hq : (q, c) ∈ tm) (h1 : c.oneCell' = true) (hbytes : (xs1.length + 1) * (bytes + 1) ≤ 140737488355328) :
    ∃ v' w', (Builtin.append_ #[T, T] ty #[r1, .slice (some ⟨q, 0, none⟩) 1 1]).run P w = .ok v' w' ∧ Duo n b1 b2 t e W u1 u2 w' v' (xs1 ++ [c]) r2 xs2 tm ∧ ∃ A C, v' = .slice A (xs1.length + 1) C := by
  obtain ⟨i, hi, hz0, hz1, hz2⟩ := info_parts hinfo
  have e1 : (xs1.length + 1) * 1 ≤ (xs1.length + 1) * (bytes + 1) := Nat.mul_le_mul_left _ (by omega)
  have e2 : (xs1.length + 1) * bytes ≤ (xs1.length + 1) * (bytes + 1) := Nat.mul_le_mul_left _ (by omega)
  obtain ⟨hc, ht1, ht2⟩ := h.tmp _ hq
  have hsz := h.size hn
  obtain ⟨v', w', hrun, hown', hg, _, hat⟩ := run_append_own_at (P := P) w n T ty e i z 1 bytes hT hi hz0 hz1 hz2 hzs (by omega) r1 xs1.length xs1 h.row1 ⟨q, 0, none⟩ 1 1 [c] rfl
    (fun j u hu => by
      cases j with
      | zero => simp at hu; subst hu; simpa [Addr.add] using hc
      | succ j => simp at hu) (by simpa using h1) (by unfold maxLen; omega) (by omega) hsz
  have hnb : ∀ {b : Nat}, b < n → some b ≠ r1.ownBlock := fun hb e' => by have := (h.row1.lt _ e'.symm).1; omega
  have hlt2 : ∀ k, r2.ownBlock = some k → k < w.heap.size := fun k e' => (h.row2.lt _ e').2
  refine ⟨v', w', hrun, ⟨h.box1.kept hg (hnb hb1), h.box2.kept hg (hnb hb2), by rw [List.length_append]; exact hown', ?_, ?_, h.sole.trans (Sole.of_grown hg hsz fun j e' => (h.row1.lt _ e').1), h.keeps.trans (keeps_row h.row1 hg), fun q' hq' => ?_⟩, ?_⟩
  · refine row_else h.row2 hg ?_
    have := h.swap.dis
    exact this
  · rcases hat with e' | e'
    · rw [e']; exact h.dis
    · right; rw [e']; intro e''
      have := hlt2 _ e''.symm
      omega
  · obtain ⟨k1, k2, k3⟩ := h.tmp _ hq'
    have hlt : q'.1 < w.heap.size := World.block_lt_of_cell? _ _ k1
    refine ⟨?_, ?_, k3⟩
    · rw [World.cell?_of_block (w := w) (a := ⟨q'.1, 0, none⟩) (hg.block _ hlt (fun e' => k2 e'.symm))]; exact k1
    · rcases hat with e' | e'
      · rw [e']; exact k2
      · rw [e']; intro e''; injection e'' with e''; omega
  · exact row_shape hown'
/-- both stored -/
theorem Duo.stored (h : Duo n b1 b2 t e W u1 u2 w r1 xs1 r2 xs2 tm) (hb1 : b1 < n) (hb2 : b2 < n) (hne : b1 ≠ b2) :
    Two n b1 b2 t e xs1 xs2 ((w.setCell ⟨b1, 0, none⟩ r1).setCell ⟨b2, 0, none⟩ r2) ∧ Sole n [b1, b2] W ((w.setCell ⟨b1, 0, none⟩ r1).setCell ⟨b2, 0, none⟩ r2) ∧ KeepsOthers W ((w.setCell ⟨b1, 0, none⟩ r1).setCell ⟨b2, 0, none⟩ r2) := by
  have hnb : ∀ {w : World} {r : Value} {k : Nat} {xs : List Value} {b : Nat}, w.ownsRow n e 1 r k xs → b < n → r.ownBlock ≠ some b := fun hr hb e' => by have := (hr.lt _ e').1; omega
  have k1 := h.box1.set r1
  have k2 : Boxed (w.setCell ⟨b1, 0, none⟩ r1) b2 t u2 := h.box2.kept (grownBy_setCell' w b1 r1) (fun e' => hne (by injection e' with e'; exact e'.symm))
  have s1 := h.row1.kept (grownBy_setCell' w b1 r1) (.inr (hnb h.row1 hb1))
  have s2 := h.row2.kept (grownBy_setCell' w b1 r1) (.inr (hnb h.row2 hb1))
  refine ⟨⟨r1, r2, k1.kept (grownBy_setCell' _ b2 r2) (fun e' => hne (by injection e')), k2.set r2, s1.kept (grownBy_setCell' _ b2 r2) (.inr (hnb h.row1 hb2)), s2.kept (grownBy_setCell' _ b2 r2) (.inr (hnb h.row2 hb2)), h.dis⟩, ?_, ?_⟩
  · have h0 : Sole n [b1, b2] W w := ⟨h.sole.os, h.sole.tape, h.sole.output, h.sole.size, fun j hj _ => h.sole.block j hj (by simp)⟩
    exact (h0.trans (Sole.set n b1 _ w r1 (by simp))).trans (Sole.set n b2 _ _ r2 (by simp))
  · exact (h.keeps.trans (KeepsOthers.setCell _ _ _)).trans (KeepsOthers.setCell _ _ _)
end
/-- an operation that puts one value into a block of its own -/
def Builds (P : Program) (o : Oper) (t E : Nat) (c : Value) : Prop := ∀ (ρ : Operand → Value) (w : World), ρ (.tmp t) = c → (execOp ρ o).run P w = .ok (.value (.slice (some ⟨w.heap.size, 0, none⟩) 1 1)) (w.alloc (.cells #[c] E))
/-- an operation that stores a slice into a variable -/
def Stores (P : Program) (o : Oper) (tp tr b : Nat) : Prop := ∀ (ρ : Operand → Value) (w : World) (u : Value) (A : Option Addr) (n C : Nat), ρ (.tmp tp) = .pointer (some ⟨b, 0, none⟩) → ρ (.tmp tr) = .slice A n C → w.cell? ⟨b, 0, none⟩ = some u → w.frozen? ⟨b, 0, none⟩ = false → (execOp ρ o).run P w = .ok .skip (w.setCell ⟨b, 0, none⟩ (.slice A n C))
def Appends (o : Oper) (ts tb T : Nat) : Prop := o.op = .call { callee := .builtin .append, args := #[.tmp ts, .tmp tb], argTypes := #[T, T] }
/-- what an act's temporaries hold -/
def Regs (a : Act) (l : List (Nat × Value)) : Prop := ∀ q ∈ l, a.eval (.tmp q.1) = q.2
theorem Regs.put {a : Act} {l : List (Nat × Value)} (h : Regs a l) {d : Nat} (v : Value) (hd : ∀ q ∈ l, d ≠ q.1) (hs : d < a.tmps.size) : Regs (a.put (some d) v) ((d, v) :: l) := by
  intro q hq
  rcases List.mem_cons.1 hq with rfl | hq
  · exact put_same v hs
  · rw [put_ne v (hd q hq)]; exact h q hq
theorem set_same (L : Array Bool) (i : Nat) : (L.setIfInBounds i true).getD i true = true := by
  rw [Array.getD_eq_getD_getElem?, Array.getElem?_setIfInBounds]
  by_cases h : i < L.size <;> simp [h]
/-- the two variables that grow: what holds till the one, till the other is stored -/
def TwoHeld (n b2 s1 s2 : Nat) (W : World) (u2 : Value) : List (Nat × (World → Prop)) := [(s1, Sole n [] W), (s2, fun w => w.cell? ⟨b2, 0, none⟩ = some u2)]
section
variable {P : Program} {ops : Array Oper} {Q : Exit → Act → World → Prop} {n b1 b2 t e T : Nat} {W : World} {u1 u2 : Value} {xs1 xs2 : List Value} {c1 c2 : Value} {s1 s2 : Nat} {o1 o2 : Oper}
theorem Duo.held {w r1 r2 ys1 ys2 tm} (d : Duo n b1 b2 t e W u1 u2 w r1 ys1 r2 ys2 tm) (L : Array Bool) : HeldBy (TwoHeld n b2 s1 s2 W u2) L w := by
  intro q hq _
  rcases List.mem_cons.1 hq with rfl | hq
  · exact d.sole
  · rcases List.mem_cons.1 hq with rfl | hq
    · exact d.box2.cell
    · cases hq
theorem held_one {w : World} (L : Array Bool) (h : w.cell? ⟨b2, 0, none⟩ = some u2) : HeldBy (TwoHeld n b2 s1 s2 W u2) (L.setIfInBounds s1 true) w := by
  intro q hq hL
  rcases List.mem_cons.1 hq with rfl | hq
  · rw [set_same] at hL; cases hL
  · rcases List.mem_cons.1 hq with rfl | hq
    · exact h
    · cases hq
theorem held_two {w : World} (L : Array Bool) (hne : s1 ≠ s2) : HeldBy (TwoHeld n b2 s1 s2 W u2) ((L.setIfInBounds s1 true).setIfInBounds s2 true) w := by
  intro q hq hL
  rcases List.mem_cons.1 hq with rfl | hq
  · rw [getD_set_ne true hne.symm, set_same] at hL; cases hL
  · rcases List.mem_cons.1 hq with rfl | hq
    · rw [set_same] at hL; cases hL
    · cases hq
/-- the two stores at the end -/
theorem two_stores {L : Array Bool} {a : Act} {w : World} {r1 r2 : Value} {ys1 ys2 : List Value} {tm : List (Nat × Value)} {tp1 tp2 tr1 tr2 : Nat} (hb1 : b1 < n) (hb2 : b2 < n) (hne : b1 ≠ b2) (hns : s1 ≠ s2)
    (d : Duo n b1 b2 t e W u1 u2 w r1 ys1 r2 ys2 tm) (hr1 : ∃ A k C, r1 = .slice A k C) (hr2 : ∃ A k C, r2 = .slice A k C)
    (ho1 : ops[s1]? = some o1) (hg1 : o1.guard = none) (hd1 : o1.dst = none) (hs1 : Stores P o1 tp1 tr1 b1) (ho2 : ops[s2]? = some o2) (hg2 : o2.guard = none) (hd2 : o2.dst = none) (hs2 : Stores P o2 tp2 tr2 b2)
    (p1 : a.eval (.tmp tp1) = .pointer (some ⟨b1, 0, none⟩)) (p2 : a.eval (.tmp tp2) = .pointer (some ⟨b2, 0, none⟩)) (q1 : a.eval (.tmp tr1) = r1) (q2 : a.eval (.tmp tr2) = r2)
    (hR1 : Region.ready .any ops L = [s1]) (hR2 : Region.ready .any ops (L.setIfInBounds s1 true) = [s2]) (hR3 : Region.ready .any ops ((L.setIfInBounds s1 true).setIfInBounds s2 true) = [])
    (h : ∀ a w', Two n b1 b2 t e ys1 ys2 w' → Sole n [b1, b2] W w' → KeepsOthers W w' → Q .normal a w') : wpAnyU P .any ops Q (TwoHeld n b2 s1 s2 W u2) 2 L a w := by
  obtain ⟨A1, k1, C1, rfl⟩ := hr1
  obtain ⟨A2, k2, C2, rfl⟩ := hr2
  have kb := d.box2.kept (grownBy_setCell' w b1 (.slice A1 k1 C1)) (fun e' => hne (by injection e' with e'; exact e'.symm))
  obtain ⟨t1, t2, t3⟩ := d.stored hb1 hb2 hne
  refine wpAnyU_all hR1 (by simp) fun i hi => ?_
  obtain rfl : i = s1 := by simpa using hi
  refine wpOp_skip ho1 hg1 (hs1 a.eval w u1 A1 k1 C1 p1 q1 d.box1.cell d.box1.frozen) ⟨held_one L kb.cell, ?_⟩
  rw [hd1, put_none]
  refine wpAnyU_all hR2 (by simp) fun i hi => ?_
  obtain rfl : i = s2 := by simpa using hi
  refine wpOp_skip ho2 hg2 (hs2 a.eval _ u2 A2 k2 C2 p2 q2 kb.cell kb.frozen) ⟨held_two L hns, ?_⟩
  rw [hd2, put_none]
  exact wpAnyU_done hR3 (h _ _ t1 t2 t3) 0
end
end Go.Mem
