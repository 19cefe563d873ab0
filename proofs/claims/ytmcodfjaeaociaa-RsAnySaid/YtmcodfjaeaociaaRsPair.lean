/- rs.Decode: the region of its loop's body in which two slices grow. -/
import Derived.Test.YtmcodfjaeaociaaRsDec
import Derived.Test.YtmcodfjaeaociaaRound
namespace Go.Proofs.Ytmcodfjaeaociaa.Rs
open Go.RowKit Go.Shelf
open Go.Mem Mat
/-- what may come up from L on, the one append still to come -/
structure TailReady (ops : Array Oper) (L : Array Bool) : Prop where
  r0 : Region.ready .any ops L = [10]
  r1 : Region.ready .any ops (L.setIfInBounds 10 true) = [11]
  r2 : Region.ready .any ops ((L.setIfInBounds 10 true).setIfInBounds 11 true) = [12]
  r3 : Region.ready .any ops (((L.setIfInBounds 10 true).setIfInBounds 11 true).setIfInBounds 12 true) = []
structure Pair (ops : Array Oper) (b1 b2 : Nat) (c1 c2 : Value) : Prop where
  o5 : ∃ o, ops[5]? = some o ∧ o.guard = none ∧ o.dst = some 49 ∧ Builds Try.prog o 48 22 c1
  o6 : ∃ o, ops[6]? = some o ∧ o.guard = none ∧ o.dst = some 50 ∧ Appends o 44 49 24
  o9 : ∃ o, ops[9]? = some o ∧ o.guard = none ∧ o.dst = some 53 ∧ Builds Try.prog o 52 22 c2
  o10 : ∃ o, ops[10]? = some o ∧ o.guard = none ∧ o.dst = some 54 ∧ Appends o 51 53 24
  o11 : ∃ o, ops[11]? = some o ∧ o.guard = none ∧ o.dst = none ∧ Stores Try.prog o 10 50 b1
  o12 : ∃ o, ops[12]? = some o ∧ o.guard = none ∧ o.dst = none ∧ Stores Try.prog o 11 54 b2
section
variable {ops : Array Oper} {Q : Exit → Act → World → Prop} {n b1 b2 : Nat} {W : World} {u1 u2 c1 c2 : Value} {xs1 xs2 : List Value} {L : Array Bool} {a : Act} {w : World}
def ptr (b : Nat) : Value := .pointer (some ⟨b, 0, none⟩)
def one (q : Nat) : Value := .slice (some ⟨q, 0, none⟩) 1 1
theorem pair10 {r1 : Value} {ys1 : List Value} {tm : List (Nat × Value)} {q2 : Nat} (hp : Pair ops b1 b2 c1 c2) (hb1 : b1 < n) (hb2 : b2 < n) (hne : b1 ≠ b2) (hn : n ≤ W.heap.size) (ho2 : c2.oneCell' = true) (hl2 : xs2.length ≤ 100)
    (d : Duo n b1 b2 24 22 W u1 u2 w r1 ys1 u2 xs2 tm) (hr1 : ∃ A k C, r1 = .slice A k C) (hq : (q2, c2) ∈ tm) (ht : TailReady ops L)
    (hr : Regs a [(50, r1), (51, u2), (53, one q2), (10, ptr b1), (11, ptr b2)]) (hs : 54 < a.tmps.size)
    (h : ∀ a w', Two n b1 b2 24 22 ys1 (xs2 ++ [c2]) w' → Sole n [b1, b2] W w' → KeepsOthers W w' → Q .normal a w') : wpAnyU Try.prog .any ops Q (TwoHeld n b2 11 12 W u2) 3 L a w := by
  obtain ⟨o, k1, k2, k3, k4⟩ := hp.o10
  obtain ⟨o11, l1, l2, l3, l4⟩ := hp.o11
  obtain ⟨o12, m1, m2, m3, m4⟩ := hp.o12
  obtain ⟨v2, w', hrun, d', A, C, hv⟩ := d.swap.app1 (P := Try.prog) hn hb2 hb1 24 o.type (.slice none 0 0) 24 Try.underlying24 infoRow rfl q2 c2 hq ho2 (by omega)
  refine wpAnyU_all ht.r0 (by simp) fun i hi => ?_
  obtain rfl : i = 10 := by simpa using hi
  refine wpOp_val k1 k2 (exec_append (.tmp 51) (.tmp 53) _ _ k4 _ _ (hr (51, u2) (by simp)) (hr (53, one q2) (by simp)) hrun) ⟨d'.swap.held _, ?_⟩
  rw [k3]
  have hr' := hr.put v2 (d := 54) (by simp) hs
  exact two_stores hb1 hb2 hne (by omega) d'.swap hr1 ⟨_, _, _, hv⟩ l1 l2 l3 l4 m1 m2 m3 m4 (hr' (10, ptr b1) (by simp)) (hr' (11, ptr b2) (by simp)) (hr' (50, r1) (by simp)) (hr' (54, v2) (by simp)) ht.r1 ht.r2 ht.r3 h
/-- the one append -/
theorem pair6 {tm : List (Nat × Value)} {q1 f : Nat} (hp : Pair ops b1 b2 c1 c2) (hb1 : b1 < n) (hb2 : b2 < n) (hn : n ≤ W.heap.size) (ho1 : c1.oneCell' = true) (hl1 : xs1.length ≤ 100)
    (d : Duo n b1 b2 24 22 W u1 u2 w u1 xs1 u2 xs2 tm) (hq : (q1, c1) ∈ tm) (h44 : a.eval (.tmp 44) = u1) (h49 : a.eval (.tmp 49) = one q1)
    (h : ∀ v w', Duo n b1 b2 24 22 W u1 u2 w' v (xs1 ++ [c1]) u2 xs2 tm → (∃ A k C, v = .slice A k C) → wpAnyU Try.prog .any ops Q (TwoHeld n b2 11 12 W u2) f (L.setIfInBounds 6 true) (a.put (some 50) v) w') :
    wpOp Try.prog ops Q 6 (fun a' w' => HeldBy (TwoHeld n b2 11 12 W u2) (L.setIfInBounds 6 true) w' ∧ wpAnyU Try.prog .any ops Q (TwoHeld n b2 11 12 W u2) f (L.setIfInBounds 6 true) a' w') a w := by
  obtain ⟨o, k1, k2, k3, k4⟩ := hp.o6
  obtain ⟨v1, w', hrun, d', A, C, hv⟩ := d.app1 (P := Try.prog) hn hb1 hb2 24 o.type (.slice none 0 0) 24 Try.underlying24 infoRow rfl q1 c1 hq ho1 (by omega)
  refine wpOp_val k1 k2 (exec_append (.tmp 44) (.tmp 49) _ _ k4 _ _ h44 h49 hrun) ⟨d'.held _, ?_⟩
  rw [k3]
  exact h v1 w' d' ⟨_, _, _, hv⟩
/-- the region from where all that is read has been read -/
theorem grow_pair (hp : Pair ops b1 b2 c1 c2) (hb1 : b1 < n) (hb2 : b2 < n) (hne : b1 ≠ b2) (hn : n ≤ W.heap.size) (ho1 : c1.oneCell' = true) (ho2 : c2.oneCell' = true) (hl1 : xs1.length ≤ 100) (hl2 : xs2.length ≤ 100)
    (d : Duo n b1 b2 24 22 W u1 u2 W u1 xs1 u2 xs2 [])
    (hr : Regs a [(44, u1), (48, c1), (51, u2), (52, c2), (10, ptr b1), (11, ptr b2)]) (hs : 54 < a.tmps.size)
    (r0 : Region.ready .any ops L = [5, 9]) (r5 : Region.ready .any ops (L.setIfInBounds 5 true) = [6, 9]) (r56 : Region.ready .any ops ((L.setIfInBounds 5 true).setIfInBounds 6 true) = [9]) (r59 : Region.ready .any ops ((L.setIfInBounds 5 true).setIfInBounds 9 true) = [6])
    (r9 : Region.ready .any ops (L.setIfInBounds 9 true) = [5]) (r95 : Region.ready .any ops ((L.setIfInBounds 9 true).setIfInBounds 5 true) = [6])
    (t1 : TailReady ops (((L.setIfInBounds 5 true).setIfInBounds 6 true).setIfInBounds 9 true)) (t2 : TailReady ops (((L.setIfInBounds 5 true).setIfInBounds 9 true).setIfInBounds 6 true)) (t3 : TailReady ops (((L.setIfInBounds 9 true).setIfInBounds 5 true).setIfInBounds 6 true))
    (h : ∀ a w', Two n b1 b2 24 22 (xs1 ++ [c1]) (xs2 ++ [c2]) w' → Sole n [b1, b2] W w' → KeepsOthers W w' → Q .normal a w') : wpAnyU Try.prog .any ops Q (TwoHeld n b2 11 12 W u2) 6 L a W := by
  obtain ⟨o5, k1, k2, k3, k4⟩ := hp.o5
  obtain ⟨o9, l1, l2, l3, l4⟩ := hp.o9
  refine wpAnyU_all r0 (by simp) fun i hi => ?_
  rcases (by simpa using hi : i = 5 ∨ i = 9) with rfl | rfl
  · have d1 := d.build hn c1 22
    refine wpOp_val k1 k2 (k4 a.eval _ (hr (48, c1) (by simp))) ⟨d1.held _, ?_⟩
    rw [k3]
    have hr1 := hr.put (one W.heap.size) (d := 49) (by simp) (by omega)
    refine wpAnyU_all r5 (by simp) fun i hi => ?_
    rcases (by simpa using hi : i = 6 ∨ i = 9) with rfl | rfl
    · refine pair6 hp hb1 hb2 hn ho1 hl1 d1 (List.mem_cons_self ..) (hr1 (44, u1) (by simp)) (hr1 (49, one W.heap.size) (by simp)) fun v w2 d2 hv => ?_
      have hr2 := hr1.put v (d := 50) (by simp) (by rw [put_size]; omega)
      refine wpAnyU_all r56 (by simp) fun i hi => ?_
      obtain rfl : i = 9 := by simpa using hi
      have d3 := d2.build hn c2 22
      refine wpOp_val l1 l2 (l4 _ _ (hr2 (52, c2) (by simp))) ⟨d3.held _, ?_⟩
      rw [l3]
      have hr3 := hr2.put (one w2.heap.size) (d := 53) (by simp) (by rw [put_size, put_size]; omega)
      exact pair10 hp hb1 hb2 hne hn ho2 hl2 d3 hv (List.mem_cons_self ..) t1 (fun q hq => hr3 q (by simp at hq ⊢; rcases hq with h | h | h | h | h <;> simp [h])) (by rw [put_size, put_size, put_size]; exact hs) h
    · have d2 := d1.build hn c2 22
      refine wpOp_val l1 l2 (l4 _ _ (hr1 (52, c2) (by simp))) ⟨d2.held _, ?_⟩
      rw [l3]
      have hr2 := hr1.put (one (W.alloc (.cells #[c1] 22)).heap.size) (d := 53) (by simp) (by rw [put_size]; omega)
      refine wpAnyU_all r59 (by simp) fun i hi => ?_
      obtain rfl : i = 6 := by simpa using hi
      refine pair6 hp hb1 hb2 hn ho1 hl1 d2 (List.mem_cons_of_mem _ (List.mem_cons_self ..)) (hr2 (44, u1) (by simp)) (hr2 (49, one W.heap.size) (by simp)) fun v w2 d3 hv => ?_
      have hr3 := hr2.put v (d := 50) (by simp) (by rw [put_size, put_size]; omega)
      exact pair10 hp hb1 hb2 hne hn ho2 hl2 d3 hv (List.mem_cons_self ..) t2 (fun q hq => hr3 q (by simp at hq ⊢; rcases hq with h | h | h | h | h <;> simp [h])) (by rw [put_size, put_size, put_size]; exact hs) h
  · have d1 := d.build hn c2 22
    refine wpOp_val l1 l2 (l4 a.eval _ (hr (52, c2) (by simp))) ⟨d1.held _, ?_⟩
    rw [l3]
    have hr1 := hr.put (one W.heap.size) (d := 53) (by simp) (by omega)
    refine wpAnyU_all r9 (by simp) fun i hi => ?_
    obtain rfl : i = 5 := by simpa using hi
    have d2 := d1.build hn c1 22
    refine wpOp_val k1 k2 (k4 _ _ (hr1 (48, c1) (by simp))) ⟨d2.held _, ?_⟩
    rw [k3]
    have hr2 := hr1.put (one (W.alloc (.cells #[c2] 22)).heap.size) (d := 49) (by simp) (by rw [put_size]; omega)
    refine wpAnyU_all r95 (by simp) fun i hi => ?_
    obtain rfl : i = 6 := by simpa using hi
    refine pair6 hp hb1 hb2 hn ho1 hl1 d2 (List.mem_cons_self ..) (hr2 (44, u1) (by simp)) (hr2 (49, one (W.alloc (.cells #[c2] 22)).heap.size) (by simp)) fun v w2 d3 hv => ?_
    have hr3 := hr2.put v (d := 50) (by simp) (by rw [put_size, put_size]; omega)
    exact pair10 hp hb1 hb2 hne hn ho2 hl2 d3 hv (List.mem_cons_of_mem _ (List.mem_cons_self ..)) t3 (fun q hq => hr3 q (by simp at hq ⊢; rcases hq with h | h | h | h | h <;> simp [h])) (by rw [put_size, put_size, put_size]; exact hs) h
end
end Go.Proofs.Ytmcodfjaeaociaa.Rs
