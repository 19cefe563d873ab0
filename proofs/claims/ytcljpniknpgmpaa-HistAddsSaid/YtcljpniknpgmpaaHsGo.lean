/- The program's history in memory; New; copies of bytes, of texts, of calls. -/
import Derived.Test.YtcljpniknpgmpaaHsMap
import Derived.Test.YtcljpniknpgmpaaAppSrc
import Derived.Laws.OwnMore
import Derived.Deep.RegionHeld3
import Derived.Deep.RegionLaw
import Derived.Deep.LoopGhost
import Derived.Deep.Cut
import Derived.Deep.CutRange
import Derived.StillTailTactics
import Derived.BigRegion
import Derived.WalkSpells
namespace Go.Mem
open Go.RowKit
set_option linter.unusedVariables false
/-- append([]T{}, s...) of structs -/
theorem run_copy_structs {P : Program} (w : World) (t ty e : TypeId) (z : Value) (k bytes : Nat) (ht : P.underlying t = some (.slice e)) (hinfo : (P.info? e).map (fun i => (i.zero, i.size, i.bytes)) = some (some z, k, bytes)) (hzs : z.cells.size = k) (hk0 : 0 < k)
    (g m C : Nat) (xs : List Value) (h : w.ownsRow 0 e k (.slice (some ⟨g, 0, none⟩) m C) m xs) (h1 : ∀ u ∈ xs, u.oneCell' = true) (hbytes : m * (bytes + 1) ≤ 140737488355328) :
    ∃ v' w', (Builtin.append_ #[t, t] ty #[.slice (some ⟨w.heap.size, 0, none⟩) 0 0, .slice (some ⟨g, 0, none⟩) m C]).run P (w.alloc (.cells #[] e)) = .ok v' w' ∧ w'.ownsRow w.heap.size e k v' m xs ∧ Below w.heap.size w w' := by
  obtain ⟨i, hi, hz0, hz1, hz2⟩ := info_parts hinfo
  have hal : Below w.heap.size w (w.alloc (.cells #[] e)) := (Below.refl _ _).alloc (Nat.le_refl _) _
  have h' := h.alloc (.cells #[] e)
  have hown : (w.alloc (.cells #[] e)).ownsRow w.heap.size e k (.slice (some ⟨w.heap.size, 0, none⟩) 0 0) 0 [] := World.ownsRow_made w #[] 0 (Nat.le_refl _) (Nat.zero_le _) (by simp)
  have hb1 : m * 1 ≤ m * (bytes + 1) := Nat.mul_le_mul_left _ (by omega)
  have hb2 : m * bytes ≤ m * (bytes + 1) := Nat.mul_le_mul_left _ (by omega)
  obtain ⟨v', w', hrun, hown', hg, _, _⟩ := run_append_own_at (P := P) (w.alloc (.cells #[] e)) w.heap.size t ty e i z k bytes ht hi hz0 hz1 hz2 hzs hk0 _ 0 [] hown ⟨g, 0, none⟩ m C xs h.1
    (fun j u hj => h'.cells (g := g) rfl j u hj) h1 (by unfold maxLen; omega) (by rw [Nat.zero_add]; omega) hal.size
  rw [Nat.zero_add, List.nil_append] at hown'
  exact ⟨v', w', hrun, hown', hal.trans ((Below.refl _ _).grown hg hal.size (fun b q => by injection q with q; subst q; exact Nat.le_refl _))⟩
end Go.Mem
namespace Go.Proofs.Ytcljpniknpgmpaa.Hst
set_option linter.unusedVariables false
open Go.ChangeShapes Go.WideShapes Go.ChangeAt Go.RowKit
open Go.Mem Hs
theorem infoByte : (Try.prog.info? 5).map (fun i => (i.zero, i.size, i.bytes)) = some (some (.int .u8 0), 1, 1) := by kernel_rfl
theorem infoStr : (Try.prog.info? 9).map (fun i => (i.zero, i.size, i.bytes)) = some (some (.string ⟨#[]⟩), 1, 16) := by kernel_rfl
def zCall : Value := .agg #[.int .i64 0, .int .i64 0, .string ⟨#[]⟩, .slice none 0 0, .int .i64 0, .int .i64 0, .int .i64 0, .int .i64 0, .slice none 0 0, .slice none 0 0]
theorem infoCall : (Try.prog.info? TCall).map (fun i => (i.zero, i.size, i.bytes)) = some (some zCall, 10, 136) := by kernel_rfl
set_option maxHeartbeats 1000000 in
theorem cloneB (l : List Nat) (v : Value) (w : World) (h : Bytes w v l) (hl : l.length ≤ 4000000) :
    Calls Try.prog 16 #[v] w fun e w' => ∃ u, e = .returned u ∧ Built ByteR w' w.heap.size 5 u l ∧ Below w.heap.size w w' := by
  obtain ⟨A, C, rfl, h1, h2, h3⟩ := h.shape
  have hne := Lib.run_eql_slice_nil (P := Try.prog)
  rcases A with _ | ad
  · have hC := h3 rfl
    have hl0 : l = [] := List.length_eq_zero_iff.1 (by omega)
    subst hl0
    subst hC
    go_enter Try.func16, Try.ntmps16
    go_wp2_with fail
    go_ret
    exact ⟨_, rfl, Built.start _ _ _, Below.refl _ _⟩
  · have hal : Below w.heap.size w (w.alloc (.cells #[] 5)) := (Below.refl _ _).alloc (Nat.le_refl _) _
    have HB := Lib.hid (built_none (R := ByteR) (t := 5) w (Nat.le_refl _))
    have HL := Lib.hid (h.below hal)
    have HA := Lib.hid hal
    have HLL := Lib.hid hl
    clear hal h hl
    go_enter Try.func16, Try.ntmps16
    go_wp2_with (at_builtin; refine wpList_append_src _ rfl (.tmp 5) (.tmp 6) 28 28 rfl w.heap.size 5 Try.underlying28 infoByte _ _ rfl HB.out _ _ rfl (BSrc.ofBytes Try.underlying28 HL.out) (by have := HLL.out; simp; omega) (by simp) ?_; intro v' w' hbu' hg' hb' hat')
    go_ret
    exact ⟨_, rfl, hbu', HA.out.trans hb'⟩
set_option maxHeartbeats 1000000 in
theorem cloneS (l : List ByteArray) (v : Value) (w : World) (h : Strs w v l) (hl : l.length ≤ 1000000) :
    Calls Try.prog 17 #[v] w fun e w' => ∃ u, e = .returned u ∧ Built StrR w' w.heap.size 9 u l ∧ Below w.heap.size w w' := by
  obtain ⟨A, C, rfl, h1, h2, h3⟩ := h.shape
  have hne := Lib.run_eql_slice_nil (P := Try.prog)
  rcases A with _ | ad
  · have hC := h3 rfl
    have hl0 : l = [] := List.length_eq_zero_iff.1 (by omega)
    subst hl0
    subst hC
    go_enter Try.func17, Try.ntmps17
    go_wp2_with fail
    go_ret
    exact ⟨_, rfl, Built.start _ _ _, Below.refl _ _⟩
  · have hal : Below w.heap.size w (w.alloc (.cells #[] 9)) := (Below.refl _ _).alloc (Nat.le_refl _) _
    have HB := Lib.hid (built_none (R := StrR) (t := 9) w (Nat.le_refl _))
    have HL := Lib.hid (h.below hal)
    have HA := Lib.hid hal
    have HLL := Lib.hid hl
    clear hal h hl
    go_enter Try.func17, Try.ntmps17
    go_wp2_with (at_builtin; refine wpList_append_list strR_world strR_one _ rfl (.tmp 5) (.tmp 6) 33 rfl w.heap.size 9 (.string ⟨#[]⟩) 16 Try.underlying33 infoStr rfl _ _ rfl HB.out _ _ _ _ rfl HL.out (by have := HLL.out; simp; omega) (by simp) ?_; intro v' w' hbu' hg' hb')
    go_ret
    exact ⟨_, rfl, hbu', HA.out.trans hb'⟩
theorem callR_one {w : World} {f : Nat → Value} {c : CallD} (h : CallR w f c) : ∀ j, j < 10 → (f j).oneCell' = true := by
  intro j hj
  obtain ⟨A3, C3, e3, -⟩ := h.r3.shape
  obtain ⟨A8, C8, e8, -⟩ := h.r8.shape
  obtain ⟨A9, C9, e9, -⟩ := h.r9.shape
  rcases (by omega : j = 0 ∨ j = 1 ∨ j = 2 ∨ j = 3 ∨ j = 4 ∨ j = 5 ∨ j = 6 ∨ j = 7 ∨ j = 8 ∨ j = 9) with rfl | rfl | rfl | rfl | rfl | rfl | rfl | rfl | rfl | rfl
  · rw [h.r0]; rfl
  · rw [h.r1]; rfl
  · rw [h.r2]; rfl
  · rw [e3]; rfl
  · rw [h.r4]; rfl
  · rw [h.r5]; rfl
  · rw [h.r6]; rfl
  · rw [h.r7]; rfl
  · rw [e8]; rfl
  · rw [e9]; rfl
theorem calls_one {E : Nat → Prop} {w : World} {L : List CallD} {xs : List Value} (hl : xs.length = L.length * 10) (h : ∀ i (hi : i < L.length), ∃ f : Nat → Value, (∀ j, j < 10 → xs[i * 10 + j]? = some (f j)) ∧ On E w (fun w' => CallR w' f L[i])) : ∀ u ∈ xs, u.oneCell' = true := by
  intro u hu
  obtain ⟨q, hq, rfl⟩ := List.getElem_of_mem hu
  obtain ⟨f, e, hR⟩ := h (q / 10) (by omega)
  have h1 := e (q % 10) (by omega)
  rw [show q / 10 * 10 + q % 10 = q by omega, List.getElem?_eq_getElem hq] at h1
  injection h1 with h1
  rw [h1]
  exact callR_one hR.here _ (by omega)
set_option maxHeartbeats 1000000 in
theorem cloneK {E : Nat → Prop} {w : World} {V : Value} {L : List CallD} (h : BuiltX 10 CallR E w TCall V L) (hl : L.length ≤ 1000000) :
    Calls Try.prog 15 #[V] w fun e w' => ∃ u xs, e = .returned u ∧ w'.ownsRow w.heap.size TCall 10 u L.length xs ∧ (∀ i (hi : i < L.length), ∃ f : Nat → Value, (∀ j, j < 10 → xs[i * 10 + j]? = some (f j)) ∧ On E w (fun w' => CallR w' f L[i])) ∧ Below w.heap.size w w' := by
  have hne := Lib.run_eql_slice_nil (P := Try.prog)
  obtain ⟨xs, h1, h2, h3⟩ := h
  rcases h1.2 with ⟨rfl, e0⟩ | ⟨g, cap, cur, rfl, q0, q1, q2, q3, q4⟩
  · have hl0 : L = [] := List.length_eq_zero_iff.1 e0
    subst hl0
    go_enter Try.func15, Try.ntmps15
    go_wp2_with fail
    go_ret
    exact ⟨_, [], rfl, World.ownsRow_nil _ _ _ _, fun i hi => absurd hi (by simp), Below.refl _ _⟩
  · obtain ⟨v', w', hrun, r1, r2⟩ := run_copy_structs (P := Try.prog) w 26 26 TCall zCall 10 136 Try.underlying26 infoCall rfl (by omega) g L.length cap xs h1 (calls_one h1.1 h3) (by omega)
    have HR := Lib.hid hrun
    have H1 := Lib.hid r1
    have H2 := Lib.hid r2
    have H3 := Lib.hid h3
    clear hrun r1 r2 h1 h2 h3 q1 q4
    go_enter Try.func15, Try.ntmps15
    go_wp2_with (at_builtin; refine Lib.wpList_append_run _ rfl (.tmp 5) (.tmp 6) 26 26 rfl _ _ rfl rfl _ _ HR.out ?_)
    go_ret
    exact ⟨_, xs, rfl, H1.out, H3.out, H2.out⟩
theorem step_append_run {P : Program} (w w' : World) (v' : Value) {ops : Array Oper} {o : Oper} {a : Act} {K : Act → World → Prop} {Q : Exit → Act → World → Prop} {E : Prop} (hgd : o.guard = none) (s x : Operand) (t tn : TypeId)
    (ho : o.op = .call { callee := .builtin .append, args := #[s, x], argTypes := #[t, tn] }) (vs vx : Value) (hs : a.eval s = vs) (hx : a.eval x = vx) (hr : (Builtin.append_ #[t, tn] o.type #[vs, vx]).run P w = .ok v' w') (h : K (a.put o.dst v') w') :
    if Region.wanted o (yielded ops a.tmps) = true then Oper.wp P o a w K Q else E := by
  rw [if_pos (show Region.wanted o (yielded ops a.tmps) = true by simp [Region.wanted, hgd])]
  exact Lib.wp_append_run w s x t tn ho vs vx hs hx v' w' hr h
def hc (s : St) (M : Option Nat) (V : Value) : Nat → Value
  | 0 => .int .i64 (s.mom : Nat) | 1 => V | _ => .map M
def foot (E : Nat → Prop) (p : Nat) (M : Option Nat) (V : Value) : Nat → Prop := fun b => b = p ∨ E b ∨ M = some b ∨ V.ownBlock = some b
/-- the program's history: three cells, its calls, whose parts lie in blocks E, and a map -/
structure HAt (w : World) (E : Nat → Prop) (p : Nat) (M : Option Nat) (V : Value) (s : St) : Prop where
  head : w.rowIs p THist 3 (hc s M V)
  calls : BuiltX 10 CallR E w TCall V s.calls
  map : (M = none ∧ ∀ t, s.find t = none) ∨ ∃ b, M = some b ∧ MapOf w b s
  lt : ∀ b, E b → b < w.heap.size
  np : ¬ E p
  nm : ∀ b, M = some b → ¬ E b ∧ b ≠ p ∧ V.ownBlock ≠ some b
  vp : V.ownBlock ≠ some p
  uniq : s.Uniq
section
variable {w w' : World} {E G : Nat → Prop} {p : Nat} {M : Option Nat} {V : Value} {s : St}
theorem HAt.map_lt (h : HAt w E p M V s) : ∀ b, M = some b → b < w.heap.size := fun b q => by
  rcases h.map with ⟨e, _⟩ | ⟨b', e, hm⟩
  · rw [e] at q; cases q
  · rw [e] at q; cases q
    exact hm.lt
theorem HAt.foot_lt (h : HAt w E p M V s) : ∀ b, foot E p M V b → b < w.heap.size := fun b q => by
  rcases q with rfl | q | q | q
  · exact h.head.lt
  · exact h.lt b q
  · exact h.map_lt b q
  · exact h.calls.own_lt b q
theorem HAt.turned (h : HAt w E p M V s) (ht : Turned G w w') (hG : ∀ b, G b → ¬ foot E p M V b) : HAt w' E p M V s :=
  ⟨h.head.of_block (ht.block p h.head.lt (fun q => hG p q (.inl rfl))), h.calls.turned ht (fun b q => ⟨fun z => hG b q (.inr (.inl z)), fun z => hG b q (.inr (.inr (.inr z)))⟩),
    h.map.imp id (fun ⟨b, h1, h2⟩ => ⟨b, h1, h2.keep (ht.block b h2.lt (fun q => hG b q (.inr (.inr (.inl h1)))))⟩), fun b q => Nat.lt_of_lt_of_le (h.lt b q) ht.size, h.np, h.nm, h.vp, h.uniq⟩
theorem HAt.below (h : HAt w E p M V s) (hb : Below w.heap.size w w') : HAt w' E p M V s := h.turned (Turned.of_below (fun _ => False) hb) (fun _ q => q.elim)
theorem HAt.cell (h : HAt w E p M V s) {i : Nat} (hi : i < 3) : w.cell? ⟨p, i, none⟩ = some (hc s M V i) := h.head.cell hi
theorem HAt.free (h : HAt w E p M V s) (i : Nat) : w.frozen? ⟨p, i, none⟩ = false := h.head.frozen i
end
def PDh : Thing := fun w F p s => ∃ E M V, HAt w E p M V s ∧ F = foot E p M V
theorem newC (w : World) : Calls Try.prog 8 #[] w fun e w' => ∃ F p, e = .returned (.pointer (some ⟨p, 0, none⟩)) ∧ PDh w' F p Hs.zero ∧ (∀ b, F b → w.heap.size ≤ b) ∧ Below w.heap.size w w' := by
  have hrow : (w.alloc (.cells #[.int .i64 0, .slice none 0 0, .map none] THist)).rowIs w.heap.size THist 3 (fun i => #[Value.int .i64 0, .slice none 0 0, .map none].getD i undef) := row_of w _ _
  have hrow2 : (w.alloc (.cells #[.int .i64 0, .slice none 0 0, .map none] THist)).rowIs w.heap.size THist 3 (hc Hs.zero none (.slice none 0 0)) := hrow.congr fun i hi => by
    rcases (by omega : i = 0 ∨ i = 1 ∨ i = 2) with rfl | rfl | rfl <;> rfl
  have hat : HAt (w.alloc (.cells #[.int .i64 0, .slice none 0 0, .map none] THist)) (fun _ => False) w.heap.size none (.slice none 0 0) Hs.zero :=
    ⟨hrow2, BuiltX.start _ _ _ _ _, .inl ⟨rfl, fun _ => rfl⟩, fun _ q => q.elim, fun q => q.elim, (fun b q => by cases q), (fun q => by cases q), St.zero_uniq⟩
  have H := Lib.hid hat
  clear hrow hrow2 hat
  go_enter Try.func8, Try.ntmps8
  go_wp2
  go_ret
  refine ⟨_, _, rfl, ⟨_, _, _, H.out, rfl⟩, fun b q => ?_, (Below.refl _ _).alloc (Nat.le_refl _) _⟩
  rcases q with q | q | q | q
  · omega
  · exact q.elim
  · cases q
  · cases q
end Go.Proofs.Ytcljpniknpgmpaa.Hst
