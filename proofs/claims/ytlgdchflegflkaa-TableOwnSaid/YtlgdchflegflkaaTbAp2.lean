/- The document's Apply of a RecDel, as a walk. -/
import Derived.Test.YtlgdchflegflkaaTbAp
namespace Tb
open Go Go.Mem Kl
theorem ap2 {t : TabD} {r : RecD} (hk : r.kind = 2) : apply t r = if (∃ x ∈ t.objs, keyOf x = r.key.toList) ∧ 1 ≤ r.id ∧ r.id ≤ 33554432 then some ⟨t.k, t.n, del keyOf r.key.toList t.objs, t.states, t.epoch, maxZ t.last r.id⟩ else none := by
  unfold apply
  rw [if_neg (by omega), if_pos hk]
theorem del_len {k : List UInt8} {L : List ObjD} : (del keyOf k L).length = L.length ↔ ¬ ∃ x ∈ L, keyOf x = k := by
  unfold del
  rw [List.length_filter_eq_length_iff]
  simp
theorem ap2_no {t : TabD} {r : RecD} (hk : r.kind = 2) (h : (del keyOf r.key.toList t.objs).length = t.objs.length ∨ r.id < 1 ∨ 33554432 < r.id) : (apply t r).isSome = false ∧ stepT t r = t := by
  have e : apply t r = none := by
    rw [ap2 hk, if_neg]
    rintro ⟨h1, h2, h3⟩
    rcases h with h | h | h
    · exact del_len.1 h h1
    · omega
    · omega
  unfold stepT
  rw [e]
  exact ⟨rfl, rfl⟩
theorem ap2_yes {t : TabD} {r : RecD} (hk : r.kind = 2) (h0 : ¬ (del keyOf r.key.toList t.objs).length = t.objs.length) (h1 : 1 ≤ r.id) (h2 : r.id ≤ 33554432) : (apply t r).isSome = true ∧ stepT t r = ⟨t.k, t.n, del keyOf r.key.toList t.objs, t.states, t.epoch, maxZ t.last r.id⟩ := by
  have e : apply t r = some ⟨t.k, t.n, del keyOf r.key.toList t.objs, t.states, t.epoch, maxZ t.last r.id⟩ := by
    rw [ap2 hk, if_pos ⟨Classical.not_not.1 (fun q => h0 (del_len.2 q)), h1, h2⟩]
  unfold stepT
  rw [e]
  exact ⟨rfl, rfl⟩
theorem del_keep {k : List UInt8} {L : List ObjD} {i : Nat} (hi : i < L.length) (h : ¬ L[i].key.toList = k) : del keyOf k (L.take (i + 1)) = del keyOf k (L.take i) ++ [L[i]] := by
  rw [List.take_succ_eq_append_getElem hi]
  unfold del
  rw [List.filter_append]
  simp [keyOf, h]
theorem del_drop {k : List UInt8} {L : List ObjD} {i : Nat} (hi : i < L.length) (h : L[i].key.toList = k) : del keyOf k (L.take (i + 1)) = del keyOf k (L.take i) := by
  rw [List.take_succ_eq_append_getElem hi]
  unfold del
  rw [List.filter_append]
  simp [keyOf, h]
theorem del_le {k : List UInt8} {L : List ObjD} : (del keyOf k L).length ≤ L.length := List.length_filter_le _ _
end Tb
namespace Go.Proofs.Ytlgdchflegflkaa.Tbl
set_option linter.unusedVariables false
open Go.ChangeShapes Go.WideShapes Go.ChangeAt Go.RowKit
open Go.Mem RecM
/-- in the midst: M has been put behind one another, in blocks of the call's own -/
def LMid (w1 : World) (K : Nat → Prop) (M : List ObjD) (v : Value) (wr : World) : Prop := BuiltX 4 ObjR K wr TObj v M ∧ (∀ b, v.ownBlock = some b → w1.heap.size ≤ b) ∧ Below w1.heap.size w1 wr
section
variable {w1 wr w' : World} {K : Nat → Prop} {M : List ObjD} {v v' : Value}
theorem LMid.start (w1 : World) (K : Nat → Prop) : LMid w1 K [] (.slice none 0 0) w1 := ⟨BuiltX.start _ _ _ _ _, fun b q => (by cases q), Below.refl _ _⟩
theorem LMid.below (h : LMid w1 K M v wr) (hb : Below wr.heap.size wr w') : LMid w1 K M v w' := ⟨h.1.below hb, h.2.1, h.2.2.trans (hb.mono h.2.2.size)⟩
theorem LMid.len (h : LMid w1 K M v wr) : ∃ A C, v = .slice A M.length C ∧ M.length ≤ C ∧ C ≤ 9223372036854775807 := by
  obtain ⟨A, C, e, h1, h2, -⟩ := h.1.len
  exact ⟨A, C, e, h1, h2⟩
theorem LMid.next (h : LMid w1 K M v wr) {x : ObjD} (hb : BuiltX 4 ObjR K w' TObj v' (M ++ [x])) (ht : Turned (fun b => v.ownBlock = some b) wr w') (hat : v'.ownBlock = v.ownBlock ∨ v'.ownBlock = some (wr.heap.size + 1)) : LMid w1 K (M ++ [x]) v' w' := by
  have hs := h.2.2.size
  refine ⟨hb, fun b q => ?_, h.2.2.trans (ht.below (fun b q => h.2.1 b q) hs)⟩
  rcases hat with e | e
  · exact h.2.1 b (e ▸ q)
  · rw [e] at q; injection q with q; omega
end
set_option maxRecDepth 100000 in
set_option maxHeartbeats 8000000 in
theorem apply_del {w : World} {G : Nat → Prop} {r : Nat} {t : Tb.TabD} (h : RT w G r t) (hok : t.Ok) (hfew : t.objs.length ≤ 1000) (rd : RecD) (V : Value) (hV : RecV w V rd) (hk : rd.kind = 2) :
    Calls Try.prog 13 #[.pointer (some ⟨r, 0, none⟩), V] w (ApPost w G r t rd) := by
  obtain ⟨As, Ao, Ad, Cs, Co, Cd, rfl, hr⟩ := hV
  have HNO := Lib.hid (@Tb.ap2_no t rd hk)
  have HYES := Lib.hid (@Tb.ap2_yes t rd hk)
  obtain ⟨kind, id, size, key, ss, os, ds⟩ := rd
  dsimp only at HNO HYES hk
  subst hk
  obtain ⟨K, VO, S, hh⟩ := h
  have c2 : w.cell? ⟨r, 2, none⟩ = some VO := hh.cell (i := 2) (by omega)
  have c5 : w.cell? ⟨r, 5, none⟩ = some (.int .i64 t.last) := hh.cell (i := 5) (by omega)
  obtain ⟨AV, CV, rfl, gV1, gV2, -⟩ := hh.objs.len
  obtain ⟨w1, hw1⟩ : ∃ w1, w1 = w.alloc (.cells #[.int .i64 2, .int .i64 id, .int .i64 size, .string key, .slice As ss.length Cs, .slice Ao os.length Co, .slice Ad ds.length Cd] 36) := ⟨_, rfl⟩
  have hx : Below w.heap.size w w1 := by rw [hw1]; exact (Below.refl _ _).alloc (Nat.le_refl _) _
  have hrow : w1.rowIs w.heap.size 36 7 (fun i => #[Value.int .i64 2, .int .i64 id, .int .i64 size, .string key, .slice As ss.length Cs, .slice Ao os.length Co, .slice Ad ds.length Cd].getD i undef) := by rw [hw1]; exact row_of w _ _
  have d2 := below_cell hx _ _ c2
  have d5 := below_cell hx _ _ c5
  have b0 : w1.cell? ⟨w.heap.size, 0, none⟩ = some (.int .i64 2) := hrow.cell (i := 0) (by omega)
  have b1 : w1.cell? ⟨w.heap.size, 1, none⟩ = some (.int .i64 id) := hrow.cell (i := 1) (by omega)
  have b3 : w1.cell? ⟨w.heap.size, 3, none⟩ = some (.string key) := hrow.cell (i := 3) (by omega)
  have i0 : -9223372036854775808 ≤ id := hr.k1.1
  have i1 : id ≤ 9223372036854775807 := hr.k1.2
  have HKEEP := Lib.hid (show ∀ i (hi : i < t.objs.length), ¬ t.objs[i].key.toList = key.toList → _ from fun i hi q => Tb.del_keep (k := key.toList) hi q)
  have HDROP := Lib.hid (show ∀ i (hi : i < t.objs.length), t.objs[i].key.toList = key.toList → _ from fun i hi q => Tb.del_drop (k := key.toList) hi q)
  have HLE := Lib.hid (show ∀ i, i ≤ t.objs.length → (Kl.del Tb.keyOf key.toList (t.objs.take i)).length ≤ 1000 from fun i hi => Nat.le_trans Tb.del_le (by rw [List.length_take]; omega))
  have HALL := Lib.hid (show t.objs.take t.objs.length = t.objs from List.take_length)
  obtain ⟨la, hla⟩ : ∃ x, t.last = x := ⟨_, rfl⟩
  obtain ⟨N, hN⟩ : ∃ x, t.objs.length = x := ⟨_, rfl⟩
  have HN := Lib.hid hN
  obtain ⟨B, hB⟩ : ∃ B, w.heap.size = B := ⟨_, rfl⟩
  have HBE := Lib.hid hB
  have HX := Lib.hid hx
  have HH := Lib.hid hh
  have HMAX := Lib.hid (show Tb.maxZ la id = if la < id then id else la from rfl)
  rw [hN] at d2 gV1 HNO HYES HALL HLE hfew
  rw [hla] at d5 HYES
  rw [hB] at b0 b1 b3 hrow
  have HW1 := Lib.hid hw1
  have HLT := Lib.hid (fun b q => hh.lt b (hh.gk b q).1)
  unfold recVal
  dsimp only
  clear hr hh c2 c5 hx hw1 hB hN hla hrow
  rcases (by omega : la < id ∨ id ≤ la) with hl | hl
  all_goals
    go_enter Try.func13, Try.ntmps13
    go_upto_region 1 with (fail)
    rw [← HW1.out, HBE.out]
    go_upto_region 24 with (fail)
    go_wp2_with fail
    have HM0 := Lib.hid (LMid.start w1 K)
    go_loopw [11, 12] (fun v c wr => ∃ i : Nat, i ≤ N ∧ c = .int .i64 i ∧ LMid w1 K (Kl.del Tb.keyOf key.toList (t.objs.take i)) v wr) (fun _ c _ => N - (intOf c).toNat)
    case atStart => exact ⟨0, Nat.zero_le _, rfl, HM0.out⟩
    case round =>
      obtain ⟨i, hi, rfl, hm⟩ := hrel
      have HM := Lib.hid hm
      have e2 := below_cell hm.2.2 _ _ d2
      have e1 := below_cell hm.2.2 _ _ b1
      have e3 := below_cell hm.2.2 _ _ b3
      have e5 := below_cell hm.2.2 _ _ d5
      by_cases hlt : i < N
      · have hil : i < t.objs.length := by rw [HN.out]; exact hlt
        obtain ⟨g, A', C', rfl, a0, a1, a2, a3, hon⟩ := BuiltX.val HH.out.objs hil
        have hbw := HX.out.trans (hm.2.2.mono HX.out.size)
        have HKE := Lib.hid (HKEEP.out i hil)
        have HDR := Lib.hid (HDROP.out i hil)
        have HL1 := Lib.hid (HLE.out i (by omega))
        obtain ⟨x, hx⟩ : ∃ x, t.objs[i] = x := ⟨_, rfl⟩
        rw [hx] at a0 a1 a2 a3 hon HKE HDR
        obtain ⟨M, hM⟩ : ∃ M, x.stripes.length = M := ⟨_, rfl⟩
        rw [hM] at a3 hon
        have a0 := below_cell hbw _ _ a0
        have a1 := below_cell hbw _ _ a1
        have a2 := below_cell hbw _ _ a2
        have a3 := below_cell hbw _ _ a3
        have hon := On.turned hon (Turned.of_below (fun _ => False) hbw) (fun _ q => q.elim)
        have HON := Lib.hid hon
        have q1 : (0 : Int) ≤ (i : Int) := by omega
        have q2 : (i : Int) < (N : Int) := by omega
        clear hm hx hM hil hbw hon
        by_cases hkey : x.key.toList = key.toList
        · have HE := Lib.hid (HDR.out hkey)
          have f1 : (x.key.toList == key.toList) = true := by rw [hkey]; simp
          clear hkey
          go_wp2_with fail
          go_quiet (fail)
          go_wp2_with fail
          go_roundw
          case rel => exact ⟨i + 1, by omega, by go_num, by rw [HE.out]; exact HM.out.below (below_drewN _ _ _)⟩
          case measure => simp [intOf]; omega
        · have HE := Lib.hid (HKE.out hkey)
          have f1 : (x.key.toList == key.toList) = false := beq_eq_false_iff_ne.2 hkey
          clear hkey
          go_wp2_with fail
          go_quiet (fail)
          have hq := HM.out.below (below_drewN wr.heap.size wr nq)
          have HONQ := Lib.hid (On.turned HON.out (Turned.drewN (fun _ => False) wr nq) (fun _ q => q.elim))
          have hb := below_drewN wr.heap.size wr nq
          have z2 := below_cell hb _ _ e2
          have y0 := below_cell hb _ _ a0
          have y1 := below_cell hb _ _ a1
          have y2 := below_cell hb _ _ a2
          have y3 := below_cell hb _ _ a3
          obtain ⟨wq, hwq⟩ : ∃ wq, wr.drewN nq = wq := ⟨_, rfl⟩
          rw [hwq] at hq HONQ z2 y0 y1 y2 y3 ⊢
          have HQ := Lib.hid hq
          obtain ⟨Au, Cu, rfl, -, -⟩ := hq.len
          have HKB := Lib.hid (show ∀ b, K b → b < wq.heap.size from fun b q => Nat.lt_of_lt_of_le (HLT.out b q) (Nat.le_trans HX.out.size hq.2.2.size))
          clear hq hb hwq a0 a1 a2 a3 e1 e2 e3 e5
          go_wp2_with (at_builtin; refine wpList_append_builtX (K := K) _ rfl (.tmp 148) (.tmp 156) 28 rfl TObj _ 56 Try.underlying28 infoObj rfl (by omega) _ _ rfl HQ.out.1 HKB.out #[.string x.key, .int .i64 x.id, .int .i64 x.size, .slice A' M C'] x _ rfl rfl rfl (objCells _ _ _ _ _ _) HONQ.out (by have := HL1.out; omega) ?_; intro v5 w5 hbu5 ht5 hat5)
          have HNEW := Lib.hid (HQ.out.next hbu5 ht5 hat5)
          rw [← HE.out] at HNEW
          clear hbu5 ht5 hat5 y0 y1 y2 y3 z2
          go_wp2_with fail
          go_roundw
          case rel => exact ⟨i + 1, by omega, by go_num, HNEW.out⟩
          case measure => simp [intOf]; omega
      · obtain rfl : i = N := by omega
        rw [HALL.out] at hm
        clear HM
        obtain ⟨Au, Cu, rfl, -, -⟩ := hm.len
        have HM := Lib.hid hm
        obtain ⟨D, hD⟩ : ∃ D, (Kl.del Tb.keyOf key.toList t.objs).length = D := ⟨_, rfl⟩
        rw [hD] at HM HNO HYES ⊢
        have HD2 := Lib.hid (show D ≤ 1000 from by have := HLE.out i (by omega); rw [HALL.out, hD] at this; exact this)
        have hbw := HX.out.trans (hm.2.2.mono HX.out.size)
        have hhr := (HH.out.on.below hbw).now
        have l2 := hhr.free 2
        have l5 := hhr.free 5
        have hfin : ∀ x, After w G r ⟨t.k, t.n, Kl.del Tb.keyOf key.toList t.objs, t.states, t.epoch, x⟩ ((wr.setCell ⟨r, 2, none⟩ (.slice Au D Cu)).setCell ⟨r, 5, none⟩ (.int .i64 x)) := fun x => by
          have h1 := (HH.out.on.below HX.out).news hm.2.2
          have hlt := (HH.out.on.below HX.out).now.lt
          have h2 := h1.objs (K' := K) (V' := .slice Au D Cu) (L := Kl.del Tb.keyOf key.toList t.objs) (HM.out.1) (fun _ q => q) (fun b q => h1.now.gk b q) (fun b q => ⟨.inr ⟨hm.2.1 b (by rw [hD]; exact q), hm.1.own_lt b (by rw [hD]; exact q)⟩, fun e => by have := hlt r HH.out.gr; have := hm.2.1 b (by rw [hD]; exact q); omega⟩)
          exact (h2.last x).done
        have HSAME := Lib.hid (show After w G r t wr from ap_same ⟨K, _, _, HH.out⟩ hbw)
        clear hm hlt hi hD hbw
        by_cases k1 : D = i
        · have HN1 := Lib.hid (HNO.out (.inl k1))
          subst k1
          have f1 : ((D : Int) == (D : Int)) = true := by simp
          go_wp2_with fail
          go_ret
          exact ⟨by rw [(HN1.out).1]; rfl, by rw [(HN1.out).2]; exact HSAME.out⟩
        have f1 : ((D : Int) == (i : Int)) = false := beq_eq_false_iff_ne.2 (by omega)
        have f1' : (D == i) = false := beq_eq_false_iff_ne.2 (by omega)
        by_cases k2 : id < 1
        · have HN1 := Lib.hid (HNO.out (.inr (.inl k2)))
          have f2 : decide (id < 1) = true := decide_eq_true k2
          clear k1 k2
          go_wp2_with fail
          go_ret
          exact ⟨by rw [(HN1.out).1]; rfl, by rw [(HN1.out).2]; exact HSAME.out⟩
        have f2 : decide (id < 1) = false := decide_eq_false k2
        by_cases k3 : 33554432 < id
        · have HN1 := Lib.hid (HNO.out (.inr (.inr k3)))
          have f3 : decide (33554432 < id) = true := decide_eq_true k3
          clear k1 k2 k3
          go_wp2_with fail
          go_ret
          exact ⟨by rw [(HN1.out).1]; rfl, by rw [(HN1.out).2]; exact HSAME.out⟩
        have f3 : decide (33554432 < id) = false := decide_eq_false k3
        have HY1 := Lib.hid (HYES.out k1 (by omega) (by omega))
        clear k1 k2 k3
        have HFIN := Lib.hid hfin
        clear hfin
        go_wp2_with fail
        go_ret
        exact ⟨by rw [(HY1.out).1]; rfl, by rw [(HY1.out).2, HMAX.out]; first | (rw [if_pos hl]; exact HFIN.out _) | (rw [if_neg (by omega)]; exact HFIN.out _)⟩
end Go.Proofs.Ytlgdchflegflkaa.Tbl
