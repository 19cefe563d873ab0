/- The document's Apply of a RecPut, as a walk. -/
import Derived.Test.YtlgdchflegflkaaTbAp2
import Derived.WalkLawsBesides
import Derived.Deep.CutRange
namespace Tb
open Go Go.Mem Kl
/-- may it be put there, as far as the first i objects tell? -/
def okB (r0 : Bool) (L : List ObjD) (id : Int) (i : Nat) : Bool := r0 && (L.take i).all fun x => !(x.id == id)
theorem okB_zero (r0 : Bool) (L : List ObjD) (id : Int) : okB r0 L id 0 = r0 := by simp [okB]
theorem okB_succ {r0 : Bool} {L : List ObjD} {id : Int} {i : Nat} (hi : i < L.length) : okB r0 L id (i + 1) = (okB r0 L id i && !(L[i].id == id)) := by
  unfold okB
  rw [List.take_succ_eq_append_getElem hi, List.all_append]
  simp [Bool.and_assoc]
theorem ap1 {t : TabD} {r : RecD} (hk : r.kind = 1) {N : Nat} (hN : t.objs.length = N) : (apply t r).isSome = okB (decide (ObjOk t.k t.n (putObj r))) t.objs r.id N ∧ stepT t r = if okB (decide (ObjOk t.k t.n (putObj r))) t.objs r.id N = true then ⟨t.k, t.n, put keyOf (putObj r) t.objs, t.states, t.epoch, maxZ t.last r.id⟩ else t := by
  have e : okB (decide (ObjOk t.k t.n (putObj r))) t.objs r.id N = decide (ObjOk t.k t.n (putObj r) ∧ ∀ x ∈ t.objs, x.id ≠ r.id) := by
    unfold okB
    rw [List.take_of_length_le (by omega), Bool.decide_and]
    congr 1
    rw [Bool.eq_iff_iff, decide_eq_true_iff, List.all_eq_true]
    simp
  have a : apply t r = if ObjOk t.k t.n (putObj r) ∧ ∀ x ∈ t.objs, x.id ≠ r.id then some ⟨t.k, t.n, put keyOf (putObj r) t.objs, t.states, t.epoch, maxZ t.last r.id⟩ else none := by
    unfold apply
    rw [if_pos hk]
  unfold stepT
  rw [e, a]
  by_cases c : ObjOk t.k t.n (putObj r) ∧ ∀ x ∈ t.objs, x.id ≠ r.id
  · rw [if_pos c, decide_eq_true c]; exact ⟨rfl, rfl⟩
  · rw [if_neg c, decide_eq_false c]; exact ⟨rfl, rfl⟩
theorem put_all {x : ObjD} : ∀ {L : List ObjD}, (∀ y ∈ L, lt (keyOf y) (keyOf x) = true) → put keyOf x L = L ++ [x]
  | [], _ => rfl
  | a :: L, h => by
    unfold put
    rw [if_pos (h a (by simp)), put_all fun y hy => h y (by simp [hy])]
    rfl
theorem put_snoc_lt {x a : ObjD} (ha : lt (keyOf a) (keyOf x) = true) : ∀ {L : List ObjD}, (∀ y ∈ L, lt (keyOf y) (keyOf x) = true) → put keyOf x (L ++ [a]) = L ++ [a] ++ [x] := fun {L} h => put_all fun y hy => by
  rcases List.mem_append.1 hy with q | q
  · exact h y q
  · rw [List.mem_singleton.1 q]; exact ha
theorem put_snoc_eq {x a : ObjD} (ha : keyOf a = keyOf x) : ∀ {L : List ObjD}, (∀ y ∈ L, lt (keyOf y) (keyOf x) = true) → put keyOf x (L ++ [a]) = L ++ [x]
  | [], _ => by
    show put keyOf x [a] = [x]
    unfold put
    rw [if_neg (by rw [ha, irrefl]; simp), if_pos ha]
  | b :: L, h => by
    show put keyOf x (b :: (L ++ [a])) = _
    unfold put
    rw [if_pos (h b (by simp)), put_snoc_eq ha fun y hy => h y (by simp [hy])]
    rfl
theorem put_snoc_gt {x a : ObjD} (ha : lt (keyOf x) (keyOf a) = true) : ∀ {L : List ObjD}, (∀ y ∈ L, lt (keyOf y) (keyOf x) = true) → put keyOf x (L ++ [a]) = L ++ [x] ++ [a]
  | [], _ => by
    show put keyOf x [a] = [x, a]
    unfold put
    rw [if_neg (by rw [asymm ha]; simp), if_neg (fun e => ne ha e.symm)]
  | b :: L, h => by
    show put keyOf x (b :: (L ++ [a])) = _
    unfold put
    rw [if_pos (h b (by simp)), put_snoc_gt ha fun y hy => h y (by simp [hy])]
    rfl
theorem put_snoc_past {x a : ObjD} : ∀ {L : List ObjD}, (∃ y ∈ L, lt (keyOf y) (keyOf x) = false) → put keyOf x (L ++ [a]) = put keyOf x L ++ [a]
  | [], h => by obtain ⟨y, hy, -⟩ := h; cases hy
  | b :: L, h => by
    show put keyOf x (b :: (L ++ [a])) = put keyOf x (b :: L) ++ [a]
    unfold put
    by_cases c : lt (keyOf b) (keyOf x) = true
    · rw [if_pos c, if_pos c, put_snoc_past]
      · rfl
      · obtain ⟨y, hy, e⟩ := h
        rcases List.mem_cons.1 hy with q | q
        · rw [q] at e; rw [e] at c; cases c
        · exact ⟨y, q, e⟩
    · rw [if_neg c, if_neg c]
      split <;> rfl
theorem put_len_le {x : ObjD} : ∀ {L : List ObjD}, (put keyOf x L).length ≤ L.length + 1
  | [] => Nat.le_refl _
  | b :: L => by
    unfold put
    split
    · have := put_len_le (x := x) (L := L)
      simp only [List.length_cons]; omega
    · split <;> simp
/-- in the midst of the loop: p: it has been put there -/
def PutTo (x : ObjD) (L : List ObjD) (i : Nat) (p : Bool) (P : List ObjD) : Prop := (p = false ∧ P = L.take i ∧ ∀ y ∈ L.take i, lt (keyOf y) (keyOf x) = true) ∨ (p = true ∧ P = put keyOf x (L.take i) ∧ ∃ y ∈ L.take i, lt (keyOf y) (keyOf x) = false)
theorem PutTo.start (x : ObjD) (L : List ObjD) : PutTo x L 0 false [] := .inl ⟨rfl, rfl, fun y hy => by cases hy⟩
theorem PutTo.less {x : ObjD} {L P : List ObjD} {i : Nat} (hi : i < L.length) (h : PutTo x L i false P) (hlt : lt (keyOf L[i]) (keyOf x) = true) : PutTo x L (i + 1) false (P ++ [L[i]]) := by
  rcases h with ⟨-, rfl, h⟩ | ⟨e, -⟩
  · refine .inl ⟨rfl, (List.take_succ_eq_append_getElem hi).symm, fun y hy => ?_⟩
    rw [List.take_succ_eq_append_getElem hi] at hy
    rcases List.mem_append.1 hy with q | q
    · exact h y q
    · rw [List.mem_singleton.1 q]; exact hlt
  · cases e
theorem PutTo.same {x : ObjD} {L P : List ObjD} {i : Nat} (hi : i < L.length) (h : PutTo x L i false P) (he : keyOf L[i] = keyOf x) : PutTo x L (i + 1) true (P ++ [x]) := by
  rcases h with ⟨-, rfl, h⟩ | ⟨e, -⟩
  · refine .inr ⟨rfl, ?_, L[i], ?_, by rw [he, irrefl]⟩
    · rw [List.take_succ_eq_append_getElem hi, put_snoc_eq he h]
    · rw [List.take_succ_eq_append_getElem hi]; exact List.mem_append.2 (.inr (List.mem_singleton.2 rfl))
  · cases e
theorem PutTo.more {x : ObjD} {L P : List ObjD} {i : Nat} (hi : i < L.length) (h : PutTo x L i false P) (hgt : lt (keyOf x) (keyOf L[i]) = true) : PutTo x L (i + 1) true (P ++ [x] ++ [L[i]]) := by
  rcases h with ⟨-, rfl, h⟩ | ⟨e, -⟩
  · refine .inr ⟨rfl, ?_, L[i], ?_, asymm hgt⟩
    · rw [List.take_succ_eq_append_getElem hi, put_snoc_gt hgt h]
    · rw [List.take_succ_eq_append_getElem hi]; exact List.mem_append.2 (.inr (List.mem_singleton.2 rfl))
  · cases e
theorem PutTo.past {x : ObjD} {L P : List ObjD} {i : Nat} (hi : i < L.length) (hr : Rising keyOf L) (h : PutTo x L i true P) : PutTo x L (i + 1) true (P ++ [L[i]]) ∧ lt (keyOf x) (keyOf L[i]) = true := by
  rcases h with ⟨e, -⟩ | ⟨-, rfl, h⟩
  · cases e
  · refine ⟨.inr ⟨rfl, ?_, ?_⟩, ?_⟩
    · rw [List.take_succ_eq_append_getElem hi, put_snoc_past h]
    · obtain ⟨y, hy, e⟩ := h
      exact ⟨y, by rw [List.take_succ_eq_append_getElem hi]; exact List.mem_append.2 (.inl hy), e⟩
    · obtain ⟨y, hy, e⟩ := h
      obtain ⟨j, hj, rfl⟩ := List.getElem_of_mem hy
      have hji : j < i := by rw [List.length_take] at hj; omega
      rw [List.getElem_take] at e
      exact le_lt e (List.pairwise_iff_getElem.1 hr j i (by omega) hi hji)
theorem PutTo.ends {x : ObjD} {L P : List ObjD} {i : Nat} {p : Bool} (hi : L.length = i) (h : PutTo x L i p P) : (if p = true then P else P ++ [x]) = put keyOf x L := by
  have e : L.take i = L := List.take_of_length_le (by omega)
  rcases h with ⟨rfl, rfl, h⟩ | ⟨rfl, rfl, h⟩
  · rw [e] at h ⊢; exact (put_all h).symm
  · rw [e]; rfl
theorem PutTo.le {x : ObjD} {L P : List ObjD} {i : Nat} {p : Bool} (h : PutTo x L i p P) : P.length ≤ i + 1 := by
  have := List.length_take_le i L
  rcases h with ⟨-, rfl, -⟩ | ⟨-, rfl, -⟩
  · omega
  · have := put_len_le (x := x) (L := L.take i); omega
end Tb
namespace Go.Proofs.Ytlgdchflegflkaa.Tbl
set_option linter.unusedVariables false
open Go.ChangeShapes Go.WideShapes Go.ChangeAt Go.RowKit
open Go.Mem RecM
set_option maxRecDepth 100000 in
set_option maxHeartbeats 16000000 in
theorem apply_put {w : World} {G : Nat → Prop} {r : Nat} {t : Tb.TabD} (h : RT w G r t) (hok : t.Ok) (hfew : t.objs.length ≤ 1000) (rd : RecD) (V : Value) (hV : RecV w V rd) (hk : rd.kind = 1) (hns : rd.stripes.length ≤ 10000) (hnl : ∀ s ∈ rd.stripes, s.locs.length ≤ 1000000) :
    Calls Try.prog 13 #[.pointer (some ⟨r, 0, none⟩), V] w (ApPost w G r t rd) := by
  obtain ⟨As, Ao, Ad, Cs, Co, Cd, rfl, hr⟩ := hV
  have HAP := Lib.hid (fun N (q : t.objs.length = N) => @Tb.ap1 t rd hk N q)
  obtain ⟨kind, id, size, key, ss, os, ds⟩ := rd
  dsimp only at HAP hk hns hnl
  subst hk
  obtain ⟨K, VO, S, hh⟩ := h
  have c0 : w.cell? ⟨r, 0, none⟩ = some (.int .i64 t.k) := hh.cell (i := 0) (by omega)
  have c1 : w.cell? ⟨r, 1, none⟩ = some (.int .i64 (t.n - t.k)) := hh.cell (i := 1) (by omega)
  have c2 : w.cell? ⟨r, 2, none⟩ = some VO := hh.cell (i := 2) (by omega)
  have c5 : w.cell? ⟨r, 5, none⟩ = some (.int .i64 t.last) := hh.cell (i := 5) (by omega)
  obtain ⟨AV, CV, rfl, gV1, gV2, -⟩ := hh.objs.len
  obtain ⟨w1, hw1⟩ : ∃ w1, w1 = w.alloc (.cells #[.int .i64 1, .int .i64 id, .int .i64 size, .string key, .slice As ss.length Cs, .slice Ao os.length Co, .slice Ad ds.length Cd] 36) := ⟨_, rfl⟩
  have hx : Below w.heap.size w w1 := by rw [hw1]; exact (Below.refl _ _).alloc (Nat.le_refl _) _
  have hrow : w1.rowIs w.heap.size 36 7 (fun i => #[Value.int .i64 1, .int .i64 id, .int .i64 size, .string key, .slice As ss.length Cs, .slice Ao os.length Co, .slice Ad ds.length Cd].getD i undef) := by rw [hw1]; exact row_of w _ _
  have d0 := below_cell hx _ _ c0
  have d1 := below_cell hx _ _ c1
  have d2 := below_cell hx _ _ c2
  have d5 := below_cell hx _ _ c5
  have b0 : w1.cell? ⟨w.heap.size, 0, none⟩ = some (.int .i64 1) := hrow.cell (i := 0) (by omega)
  have b1 : w1.cell? ⟨w.heap.size, 1, none⟩ = some (.int .i64 id) := hrow.cell (i := 1) (by omega)
  have b2 : w1.cell? ⟨w.heap.size, 2, none⟩ = some (.int .i64 size) := hrow.cell (i := 2) (by omega)
  have b3 : w1.cell? ⟨w.heap.size, 3, none⟩ = some (.string key) := hrow.cell (i := 3) (by omega)
  have b4 : w1.cell? ⟨w.heap.size, 4, none⟩ = some (.slice As ss.length Cs) := hrow.cell (i := 4) (by omega)
  have HOB := Lib.hid (show ObjIs w1 (.agg #[.string key, .int .i64 id, .int .i64 size, .slice As ss.length Cs]) (Tb.putObj ⟨1, id, size, key, ss, os, ds⟩) from ⟨As, Cs, rfl, hr.s.below hx, hr.k1, hr.k2, hr.k3, hr.ls⟩)
  have HCP := Lib.hid (copiedC (Tb.putObj ⟨1, id, size, key, ss, os, ds⟩) _ HOB.out hns hnl)
  have HI64 := Lib.hid (show I64 id ∧ I64 size ∧ KeyOk key ∧ LenOk ss.length from ⟨hr.k1, hr.k2, hr.k3, hr.ls⟩)
  have i0 : -9223372036854775808 ≤ id := hr.k1.1
  have i1 : id ≤ 9223372036854775807 := hr.k1.2
  obtain ⟨la, hla⟩ : ∃ x, t.last = x := ⟨_, rfl⟩
  obtain ⟨N, hN⟩ : ∃ x, t.objs.length = x := ⟨_, rfl⟩
  have HN := Lib.hid hN
  have HLA := Lib.hid hla
  obtain ⟨B, hB⟩ : ∃ B, w.heap.size = B := ⟨_, rfl⟩
  have HBE := Lib.hid hB
  have HX := Lib.hid hx
  have HH := Lib.hid hh
  have HAP1 := Lib.hid (HAP.out N hN)
  have HMAX := Lib.hid (show Tb.maxZ la id = if la < id then id else la from rfl)
  rw [hN] at d2 gV1 hfew
  rw [hla] at d5 HAP1
  rw [hB] at b0 b1 b2 b3 b4 hrow
  have HW1 := Lib.hid hw1
  have HLT := Lib.hid (fun b q => hh.lt b (hh.gk b q).1)
  unfold recVal
  dsimp only
  clear HAP hr hh c0 c1 c2 c5 hx hw1 hB hN hla hrow hns hnl
  obtain ⟨lz, hlz⟩ : ∃ lz, Tb.maxZ la id = lz := ⟨_, rfl⟩
  have HLZ := Lib.hid hlz
  rw [hlz] at HMAX HAP1
  clear hlz
  go_enter Try.func13, Try.ntmps13
  go_upto_region 1 with (fail)
  rw [← HW1.out, HBE.out]
  go_upto_region 2 with (fail)
  go_upto_if 27 with (fail)
  go_cut [5] from 24 to 29 (fun l wx => l = .int .i64 lz ∧ w1 = wx)
  case first =>
    rcases (by omega : la < id ∨ id ≤ la) with hl | hl
    all_goals
      go_wp2_with fail
      go_meet
      case rel => exact ⟨by rw [HMAX.out]; first | (rw [if_pos hl]) | (rw [if_neg (by omega)]), rfl⟩
  case rest =>
    obtain ⟨rfl, rfl⟩ := hcut
    go_upto_region 6 with (fail)
    go_wp2_with fail
    refine HCP.out.mono ?_
    rintro _ w2 ⟨A2, C2, rfl, ⟨KO, k1, k2, k3⟩, hb2⟩
    dsimp only [Tb.putObj] at k1 k3 ⊢
    go_upto_region 7 with (fail)
    obtain ⟨w3, hw3⟩ : ∃ w3, w2.alloc (.cells #[.string key, .int .i64 id, .int .i64 size, .slice A2 ss.length C2] TObj) = w3 := ⟨_, rfl⟩
    have hb3 : Below w2.heap.size w2 w3 := by rw [← hw3]; exact (Below.refl _ _).alloc (Nat.le_refl _) _
    have hrow3 : w3.rowIs w2.heap.size TObj 4 (fun j => #[Value.string key, .int .i64 id, .int .i64 size, .slice A2 ss.length C2].getD j undef) := by rw [← hw3]; exact row_of _ _ _
    have hb13 : Below w1.heap.size w1 w3 := hb2.trans (hb3.mono hb2.size)
    have hbu3 := k1.below hb3
    have hob3 : ObjIs w3 (.agg #[.string key, .int .i64 id, .int .i64 size, .slice A2 ss.length C2]) (Tb.putObj ⟨1, id, size, key, ss, os, ds⟩) := ⟨A2, C2, rfl, hbu3.cells, HI64.out.1, HI64.out.2.1, HI64.out.2.2.1, HI64.out.2.2.2⟩
    have hro := rightObjC (w := w3) (below_cell hb13 _ _ d0) (below_cell hb13 _ _ d1) HH.out.k0 HH.out.k1 HH.out.m0 HH.out.m1 _ _ hob3
    rw [show t.k + (t.n - t.k) = t.n by omega] at hro
    obtain ⟨ro, hroe⟩ : ∃ x, decide (Tb.ObjOk t.k t.n (Tb.putObj ⟨1, id, size, key, ss, os, ds⟩)) = x := ⟨_, rfl⟩
    rw [hroe] at hro HAP1
    have HRO := Lib.hid hro
    obtain ⟨Bo, hBo⟩ : ∃ x, w2.heap.size = x := ⟨_, rfl⟩
    rw [hBo] at hrow3
    obtain ⟨NS, hNS⟩ : ∃ x, ss.length = x := ⟨_, rfl⟩
    rw [hNS] at hrow3 HRO hbu3 hw3 k1 k3
    have p0 : w3.cell? ⟨Bo, 0, none⟩ = some (.string key) := hrow3.cell (i := 0) (by omega)
    have p1 : w3.cell? ⟨Bo, 1, none⟩ = some (.int .i64 id) := hrow3.cell (i := 1) (by omega)
    have p2 : w3.cell? ⟨Bo, 2, none⟩ = some (.int .i64 size) := hrow3.cell (i := 2) (by omega)
    have p3 : w3.cell? ⟨Bo, 3, none⟩ = some (.slice A2 NS C2) := hrow3.cell (i := 3) (by omega)
    have r2 := below_cell hb13 _ _ d2
    have HB13 := Lib.hid hb13
    have HK3 := Lib.hid (show (∀ b, KO b → w1.heap.size ≤ b ∧ b < w3.heap.size) ∧ (∀ b, (Value.slice A2 NS C2).ownBlock = some b → w1.heap.size ≤ b ∧ b < w3.heap.size) from ⟨fun b q => ⟨(k2 b q).1, Nat.lt_of_lt_of_le (k2 b q).2 hb3.size⟩, fun b q => ⟨k3 b q, hbu3.own_lt b q⟩⟩)
    have HBU3 := Lib.hid hbu3
    have HNS := Lib.hid hNS
    have HRE := Lib.hid hroe
    clear hro hroe hrow3 hb2 hb3 hb13 hbu3 hob3 k1 k2 k3 d0 d1 d2 d5 b0 b1 b2 b3 b4 HOB HCP
    rw [hNS, hBo]
    rw [hw3]
    clear hw3 hBo hNS
    go_wp2_with fail
    refine HRO.out.mono ?_
    rintro _ w4 ⟨rfl, hb4⟩
    have hb14 := HB13.out.trans (hb4.mono HB13.out.size)
    have s2 := below_cell hb4 _ _ r2
    have sy0 := below_cell hb4 _ _ p0
    have sy1 := below_cell hb4 _ _ p1
    have sy2 := below_cell hb4 _ _ p2
    have sy3 := below_cell hb4 _ _ p3
    obtain ⟨K', hK'⟩ : ∃ K' : Nat → Prop, K' = fun b => K b ∨ KO b ∨ (Value.slice A2 NS C2).ownBlock = some b := ⟨_, rfl⟩
    have HK' := Lib.hid hK'
    have HKO := Lib.hid (show ∀ b, K b → K' b from fun b q => by rw [hK']; exact .inl q)
    have HKLT := Lib.hid (show ∀ b, K' b → b < w4.heap.size from fun b q => by
      have e1 := HX.out.size
      have e2 := hb14.size
      have e3 := hb4.size
      rw [hK'] at q
      rcases q with q | q | q
      · have := HLT.out b q; omega
      · have := (HK3.out.1 b q).2; omega
      · have := (HK3.out.2 b q).2; omega)
    have HONO := Lib.hid (show On K' w4 (fun w' => ObjR w' (fun j => #[Value.string key, .int .i64 id, .int .i64 size, .slice A2 NS C2].getD j undef) (Tb.putObj ⟨1, id, size, key, ss, os, ds⟩)) from by
      have e1 := On.turned HBU3.out.on (Turned.of_below (fun _ => False) hb4) (fun _ q => q.elim)
      exact (On.more e1 (fun b q => by rw [hK']; exact .inr q)).map fun w' q => ⟨rfl, rfl, rfl, q, HI64.out.1, HI64.out.2.1, HI64.out.2.2.1, HI64.out.2.2.2⟩)
    have HB14 := Lib.hid hb14
    have HB4 := Lib.hid hb4
    have HM0 := Lib.hid (LMid.start w4 K')
    have HOK0 := Lib.hid (Tb.okB_zero ro t.objs id)
    have HRIS := Lib.hid hok.all.2.1
    obtain ⟨o, ho⟩ : ∃ o, Tb.putObj ⟨1, id, size, key, ss, os, ds⟩ = o := ⟨_, rfl⟩
    have HKY := Lib.hid (show Tb.keyOf o = key.toList by rw [← ho]; rfl)
    rw [ho] at HAP1 HONO
    have HPT0 := Lib.hid (Tb.PutTo.start o t.objs)
    clear hb4 hb14 hK' p0 p1 p2 p3 r2 HRO ho
    go_wp2_with fail
    go_loopw [7, 8, 9, 10] (fun okv v pv c wr => ∃ (i : Nat) (p : Bool) (P : List ObjD), i ≤ N ∧ c = .int .i64 i ∧ okv = .bool (Tb.okB ro t.objs id i) ∧ pv = .bool p ∧ Tb.PutTo o t.objs i p P ∧ LMid w4 K' P v wr) (fun _ _ _ c _ => N - (intOf c).toNat)
    case atStart => exact ⟨0, false, [], Nat.zero_le _, rfl, by rw [HOK0.out], rfl, HPT0.out, HM0.out⟩
    case round =>
      obtain ⟨i, p, P, hi, rfl, rfl, rfl, hpt, hm⟩ := hrel
      have HM := Lib.hid hm
      have HPT := Lib.hid hpt
      have HPL := Lib.hid hpt.le
      have hb := hm.2.2
      have e2 := below_cell hb _ _ s2
      have ey0 := below_cell hb _ _ sy0
      have ey1 := below_cell hb _ _ sy1
      have ey2 := below_cell hb _ _ sy2
      have ey3 := below_cell hb _ _ sy3
      have HONr := Lib.hid (On.turned HONO.out (Turned.of_below (fun _ => False) hb) (fun _ q => q.elim))
      have HKr := Lib.hid (show ∀ b, K' b → b < wr.heap.size from fun b q => Nat.lt_of_lt_of_le (HKLT.out b q) hb.size)
      by_cases hlt : i < N
      · have hil : i < t.objs.length := by rw [HN.out]; exact hlt
        obtain ⟨g, A', C', rfl, a0, a1, a2, a3, hon⟩ := BuiltX.val HH.out.objs hil
        have HOKS := Lib.hid (Tb.okB_succ (r0 := ro) (id := id) hil)
        have HLESS := Lib.hid (fun (q : p = false) z => Tb.PutTo.less hil (q ▸ hpt) z)
        have HSAME := Lib.hid (fun (q : p = false) z => Tb.PutTo.same hil (q ▸ hpt) z)
        have HMORE := Lib.hid (fun (q : p = false) z => Tb.PutTo.more hil (q ▸ hpt) z)
        have HPAST := Lib.hid (fun (q : p = true) => Tb.PutTo.past hil HRIS.out (q ▸ hpt))
        obtain ⟨x, hx⟩ : ∃ x, t.objs[i] = x := ⟨_, rfl⟩
        rw [hx] at a0 a1 a2 a3 hon HOKS HLESS HSAME HMORE HPAST
        obtain ⟨M, hM⟩ : ∃ M, x.stripes.length = M := ⟨_, rfl⟩
        rw [hM] at a3 hon
        have hbw : Below w.heap.size w wr := (HX.out.trans (HB14.out.mono HX.out.size)).trans (hb.mono (Nat.le_trans HX.out.size HB14.out.size))
        have hbw4 : Below w.heap.size w w4 := HX.out.trans (HB14.out.mono HX.out.size)
        have se0 := below_cell hbw4 _ _ a0
        have se1 := below_cell hbw4 _ _ a1
        have se2 := below_cell hbw4 _ _ a2
        have se3 := below_cell hbw4 _ _ a3
        have e0 := below_cell hb _ _ se0
        have e1 := below_cell hb _ _ se1
        have ex2 := below_cell hb _ _ se2
        have e3 := below_cell hb _ _ se3
        have HONX4 := Lib.hid (On.more (On.turned hon (Turned.of_below (fun _ => False) hbw4) (fun _ q => q.elim)) HKO.out)
        have HS := Lib.hid (show ∀ w', Below w4.heap.size w4 w' → w'.cell? ⟨r, 2, none⟩ = some (.slice (some ⟨g, 0, none⟩) N CV) ∧ w'.cell? ⟨Bo, 0, none⟩ = some (.string key) ∧ w'.cell? ⟨Bo, 1, none⟩ = some (.int .i64 id) ∧ w'.cell? ⟨Bo, 2, none⟩ = some (.int .i64 size) ∧ w'.cell? ⟨Bo, 3, none⟩ = some (.slice A2 NS C2) ∧
            w'.cell? ⟨g, i * 4, none⟩ = some (.string x.key) ∧ w'.cell? ⟨g, i * 4 + 1, none⟩ = some (.int .i64 x.id) ∧ w'.cell? ⟨g, i * 4 + 2, none⟩ = some (.int .i64 x.size) ∧ w'.cell? ⟨g, i * 4 + 3, none⟩ = some (.slice A' M C') from
          fun w' q => ⟨below_cell q _ _ s2, below_cell q _ _ sy0, below_cell q _ _ sy1, below_cell q _ _ sy2, below_cell q _ _ sy3, below_cell q _ _ se0, below_cell q _ _ se1, below_cell q _ _ se2, below_cell q _ _ se3⟩)
        obtain ⟨Au, Cu, rfl, -, -⟩ := hm.len
        obtain ⟨ok, hokk⟩ : ∃ ok, Tb.okB ro t.objs id i = ok := ⟨_, rfl⟩
        rw [hokk] at HOKS
        have q1 : (0 : Int) ≤ (i : Int) := by omega
        have q2 : (i : Int) < (N : Int) := by omega
        have HKX := Lib.hid (show Tb.keyOf x = x.key.toList from rfl)
        rw [hokk]
        clear hm hpt hb hx hM hil hbw hbw4 hon a0 a1 a2 a3 hokk s2 sy0 sy1 sy2 sy3 se0 se1 se2 se3
        have hoks : (ok = false ∧ Tb.okB ro t.objs id (i + 1) = false) ∨ (ok = true ∧ (x.id == id) = true ∧ Tb.okB ro t.objs id (i + 1) = false) ∨ (ok = true ∧ (x.id == id) = false ∧ Tb.okB ro t.objs id (i + 1) = true) := by
          rw [HOKS.out]
          cases ok
          · exact .inl ⟨rfl, rfl⟩
          · cases h9 : (x.id == id)
            · exact .inr (.inr ⟨rfl, rfl, rfl⟩)
            · exact .inr (.inl ⟨rfl, rfl, rfl⟩)
        have hpos : (p = true ∧ (x.key.toList == key.toList) = false ∧ ∃ P', P' = P ++ [x] ∧ Tb.PutTo o t.objs (i + 1) true P') ∨ (p = false ∧ Kl.lt x.key.toList key.toList = true ∧ (x.key.toList == key.toList) = false ∧ ∃ P', P' = P ++ [x] ∧ Tb.PutTo o t.objs (i + 1) false P') ∨
            (p = false ∧ Kl.lt x.key.toList key.toList = false ∧ (x.key.toList == key.toList) = true ∧ ∃ P', P' = P ++ [o] ∧ Tb.PutTo o t.objs (i + 1) true P') ∨ (p = false ∧ Kl.lt x.key.toList key.toList = false ∧ (x.key.toList == key.toList) = false ∧ ∃ P', P' = P ++ [o] ++ [x] ∧ Tb.PutTo o t.objs (i + 1) true P') := by
          rw [HKY.out, HKX.out] at HPAST HLESS HSAME HMORE
          cases p
          · rcases Kl.total x.key.toList key.toList with q | q | q
            · exact .inr (.inl ⟨rfl, q, beq_eq_false_iff_ne.2 (Kl.ne q), _, rfl, HLESS.out rfl q⟩)
            · exact .inr (.inr (.inl ⟨rfl, by rw [q]; exact Kl.irrefl _, by rw [q]; simp, _, rfl, HSAME.out rfl q⟩))
            · exact .inr (.inr (.inr ⟨rfl, Kl.asymm q, beq_eq_false_iff_ne.2 (fun z => Kl.ne q z.symm), _, rfl, HMORE.out rfl q⟩))
          · exact .inl ⟨rfl, beq_eq_false_iff_ne.2 (fun z => Kl.ne (HPAST.out rfl).2 z.symm), _, rfl, (HPAST.out rfl).1⟩
        clear HOKS HLESS HSAME HMORE HPAST HKX
        rcases hpos with ⟨rfl, f2, P', hP', hpt⟩ | ⟨rfl, f1, f2, P', hP', hpt⟩ | ⟨rfl, f1, f2, P', hP', hpt⟩ | ⟨rfl, f1, f2, P', hP', hpt⟩
        · rcases hoks with ⟨rfl, hk1⟩ | ⟨rfl, f0, hk1⟩ | ⟨rfl, f0, hk1⟩
          all_goals
            have HK1 := Lib.hid hk1
            have HP' := Lib.hid hP'
            have HPT' := Lib.hid hpt
            clear hP' hpt hk1
            go_wp2_with fail
            go_quiet (fail)
            go_wp2_with fail
            go_quiet (fail)
            rw [World.drewN_drewN]
            clear e2 ey0 ey1 ey2 ey3 e0 e1 ex2 e3
            generalize hwq : (wr : World).drewN _ = wq
            have HMq := Lib.hid (HM.out.below (show Below (wr).heap.size wr wq from by rw [← hwq]; exact Go.Mem.below_drewN _ _ _))
            clear hwq
            have HS2 := HS
            obtain ⟨e2, ey0, ey1, ey2, ey3, e0, e1, ex2, e3⟩ := HS.out _ HMq.out.2.2
            have HKQ := Lib.hid (show ∀ b, K' b → b < _ from fun b q => Nat.lt_of_lt_of_le (HKLT.out b q) HMq.out.2.2.size)
            have HONQ := Lib.hid (On.turned HONO.out (Turned.of_below (fun _ => False) HMq.out.2.2) (fun _ q => q.elim))
            have HONZ := Lib.hid (On.turned HONX4.out (Turned.of_below (fun _ => False) HMq.out.2.2) (fun _ q => q.elim))
            go_wp2_with fail
            go_quiet (fail)
            clear e2 ey0 ey1 ey2 ey3 e0 e1 ex2 e3
            clear HKQ HONQ HONZ
            generalize hwq : (wq : World).drewN _ = wz
            have HMz := Lib.hid (HMq.out.below (show Below (wq).heap.size wq wz from by rw [← hwq]; exact Go.Mem.below_drewN _ _ _))
            clear hwq
            obtain ⟨e2, ey0, ey1, ey2, ey3, e0, e1, ex2, e3⟩ := HS.out _ HMz.out.2.2
            have HKQ := Lib.hid (show ∀ b, K' b → b < _ from fun b q => Nat.lt_of_lt_of_le (HKLT.out b q) HMz.out.2.2.size)
            have HONQ := Lib.hid (On.turned HONO.out (Turned.of_below (fun _ => False) HMz.out.2.2) (fun _ q => q.elim))
            have HONZ := Lib.hid (On.turned HONX4.out (Turned.of_below (fun _ => False) HMz.out.2.2) (fun _ q => q.elim))
            go_wp2_with (at_builtin; refine wpList_append_builtX (K := K') _ rfl (.tmp 100) (.tmp 108) 28 rfl TObj _ 56 Try.underlying28 infoObj rfl (by omega) _ _ rfl HMz.out.1 HKQ.out #[.string x.key, .int .i64 x.id, .int .i64 x.size, .slice A' M C'] x _ rfl rfl rfl (objCells _ _ _ _ _ _) HONZ.out (by have := HPL.out; omega) ?_; intro v5 w5 hbu5 ht5 hat5)
            clear e2 ey0 ey1 ey2 ey3 e0 e1 ex2 e3
            have HNEW := Lib.hid (HMz.out.next hbu5 ht5 hat5)
            clear hbu5 ht5 hat5 HKQ HONQ HONZ
            rw [← HP'.out] at HNEW
            go_wp2_with fail
            go_roundw
            case rel => exact ⟨i + 1, true, P', by omega, by go_num, by first | (rw [HK1.out]; done) | (rw [HK1.out]; exact congrArg Value.bool (by simp only [bne, f0, Bool.not_true, Bool.not_false])), rfl, HPT'.out, HNEW.out⟩
            case measure => simp [intOf]; omega
        · rcases hoks with ⟨rfl, hk1⟩ | ⟨rfl, f0, hk1⟩ | ⟨rfl, f0, hk1⟩
          all_goals
            have HK1 := Lib.hid hk1
            have HP' := Lib.hid hP'
            have HPT' := Lib.hid hpt
            clear hP' hpt hk1
            go_wp2_with fail
            go_quiet (fail)
            go_wp2_with fail
            go_quiet (fail)
            rw [World.drewN_drewN]
            clear e2 ey0 ey1 ey2 ey3 e0 e1 ex2 e3
            generalize hwq : (wr : World).drewN _ = wq
            have HMq := Lib.hid (HM.out.below (show Below (wr).heap.size wr wq from by rw [← hwq]; exact Go.Mem.below_drewN _ _ _))
            clear hwq
            have HS2 := HS
            obtain ⟨e2, ey0, ey1, ey2, ey3, e0, e1, ex2, e3⟩ := HS.out _ HMq.out.2.2
            have HKQ := Lib.hid (show ∀ b, K' b → b < _ from fun b q => Nat.lt_of_lt_of_le (HKLT.out b q) HMq.out.2.2.size)
            have HONQ := Lib.hid (On.turned HONO.out (Turned.of_below (fun _ => False) HMq.out.2.2) (fun _ q => q.elim))
            have HONZ := Lib.hid (On.turned HONX4.out (Turned.of_below (fun _ => False) HMq.out.2.2) (fun _ q => q.elim))
            go_wp2_with fail
            go_quiet (fail)
            clear e2 ey0 ey1 ey2 ey3 e0 e1 ex2 e3
            clear HKQ HONQ HONZ
            generalize hwq : (wq : World).drewN _ = wz
            have HMz := Lib.hid (HMq.out.below (show Below (wq).heap.size wq wz from by rw [← hwq]; exact Go.Mem.below_drewN _ _ _))
            clear hwq
            obtain ⟨e2, ey0, ey1, ey2, ey3, e0, e1, ex2, e3⟩ := HS.out _ HMz.out.2.2
            have HKQ := Lib.hid (show ∀ b, K' b → b < _ from fun b q => Nat.lt_of_lt_of_le (HKLT.out b q) HMz.out.2.2.size)
            have HONQ := Lib.hid (On.turned HONO.out (Turned.of_below (fun _ => False) HMz.out.2.2) (fun _ q => q.elim))
            have HONZ := Lib.hid (On.turned HONX4.out (Turned.of_below (fun _ => False) HMz.out.2.2) (fun _ q => q.elim))
            go_wp2_with (at_builtin; refine wpList_append_builtX (K := K') _ rfl (.tmp 100) (.tmp 108) 28 rfl TObj _ 56 Try.underlying28 infoObj rfl (by omega) _ _ rfl HMz.out.1 HKQ.out #[.string x.key, .int .i64 x.id, .int .i64 x.size, .slice A' M C'] x _ rfl rfl rfl (objCells _ _ _ _ _ _) HONZ.out (by have := HPL.out; omega) ?_; intro v5 w5 hbu5 ht5 hat5)
            clear e2 ey0 ey1 ey2 ey3 e0 e1 ex2 e3
            have HNEW := Lib.hid (HMz.out.next hbu5 ht5 hat5)
            clear hbu5 ht5 hat5 HKQ HONQ HONZ
            rw [← HP'.out] at HNEW
            go_wp2_with fail
            go_roundw
            case rel => exact ⟨i + 1, false, P', by omega, by go_num, by first | (rw [HK1.out]; done) | (rw [HK1.out]; exact congrArg Value.bool (by simp only [bne, f0, Bool.not_true, Bool.not_false])), rfl, HPT'.out, HNEW.out⟩
            case measure => simp [intOf]; omega
        · rcases hoks with ⟨rfl, hk1⟩ | ⟨rfl, f0, hk1⟩ | ⟨rfl, f0, hk1⟩
          all_goals
            have HK1 := Lib.hid hk1
            have HP' := Lib.hid hP'
            have HPT' := Lib.hid hpt
            clear hP' hpt hk1
            go_wp2_with fail
            go_quiet (fail)
            go_wp2_with fail
            go_quiet (fail)
            rw [World.drewN_drewN]
            clear e2 ey0 ey1 ey2 ey3 e0 e1 ex2 e3
            generalize hwq : (wr : World).drewN _ = wq
            have HMq := Lib.hid (HM.out.below (show Below (wr).heap.size wr wq from by rw [← hwq]; exact Go.Mem.below_drewN _ _ _))
            clear hwq
            have HS2 := HS
            obtain ⟨e2, ey0, ey1, ey2, ey3, e0, e1, ex2, e3⟩ := HS.out _ HMq.out.2.2
            have HKQ := Lib.hid (show ∀ b, K' b → b < _ from fun b q => Nat.lt_of_lt_of_le (HKLT.out b q) HMq.out.2.2.size)
            have HONQ := Lib.hid (On.turned HONO.out (Turned.of_below (fun _ => False) HMq.out.2.2) (fun _ q => q.elim))
            have HONZ := Lib.hid (On.turned HONX4.out (Turned.of_below (fun _ => False) HMq.out.2.2) (fun _ q => q.elim))
            go_wp2_with (at_builtin; refine wpList_append_builtX (K := K') _ rfl (.tmp 85) (.tmp 87) 28 rfl TObj _ 56 Try.underlying28 infoObj rfl (by omega) _ _ rfl HMq.out.1 HKQ.out #[.string key, .int .i64 id, .int .i64 size, .slice A2 NS C2] o _ rfl rfl rfl (objCells _ _ _ _ _ _) HONQ.out (by have := HPL.out; omega) ?_; intro v5 w5 hbu5 ht5 hat5)
            clear e2 ey0 ey1 ey2 ey3 e0 e1 ex2 e3
            have HNEWo := Lib.hid (HMq.out.next hbu5 ht5 hat5)
            clear hbu5 ht5 hat5 HKQ HONQ HONZ
            rw [← HP'.out] at HNEWo
            obtain ⟨A5, C5, rfl, -, -⟩ := HNEWo.out.len
            obtain ⟨e2, ey0, ey1, ey2, ey3, e0, e1, ex2, e3⟩ := HS.out _ HNEWo.out.2.2
            have HKQ := Lib.hid (show ∀ b, K' b → b < _ from fun b q => Nat.lt_of_lt_of_le (HKLT.out b q) HNEWo.out.2.2.size)
            have HONQ := Lib.hid (On.turned HONO.out (Turned.of_below (fun _ => False) HNEWo.out.2.2) (fun _ q => q.elim))
            have HONZ := Lib.hid (On.turned HONX4.out (Turned.of_below (fun _ => False) HNEWo.out.2.2) (fun _ q => q.elim))
            go_wp2_with fail
            go_quiet (fail)
            clear e2 ey0 ey1 ey2 ey3 e0 e1 ex2 e3
            clear HKQ HONQ HONZ
            generalize hwq : (w5 : World).drewN _ = wz
            have HMz := Lib.hid (HNEWo.out.below (show Below (w5).heap.size w5 wz from by rw [← hwq]; exact Go.Mem.below_drewN _ _ _))
            clear hwq
            go_wp2_with fail
            go_roundw
            case rel => exact ⟨i + 1, true, P', by omega, by go_num, by first | (rw [HK1.out]; done) | (rw [HK1.out]; exact congrArg Value.bool (by simp only [bne, f0, Bool.not_true, Bool.not_false])), rfl, HPT'.out, HMz.out⟩
            case measure => simp [intOf]; omega
        · rcases hoks with ⟨rfl, hk1⟩ | ⟨rfl, f0, hk1⟩ | ⟨rfl, f0, hk1⟩
          all_goals
            have HK1 := Lib.hid hk1
            have HP' := Lib.hid hP'
            have HPT' := Lib.hid hpt
            clear hP' hpt hk1
            go_wp2_with fail
            go_quiet (fail)
            go_wp2_with fail
            go_quiet (fail)
            rw [World.drewN_drewN]
            clear e2 ey0 ey1 ey2 ey3 e0 e1 ex2 e3
            generalize hwq : (wr : World).drewN _ = wq
            have HMq := Lib.hid (HM.out.below (show Below (wr).heap.size wr wq from by rw [← hwq]; exact Go.Mem.below_drewN _ _ _))
            clear hwq
            have HS2 := HS
            obtain ⟨e2, ey0, ey1, ey2, ey3, e0, e1, ex2, e3⟩ := HS.out _ HMq.out.2.2
            have HKQ := Lib.hid (show ∀ b, K' b → b < _ from fun b q => Nat.lt_of_lt_of_le (HKLT.out b q) HMq.out.2.2.size)
            have HONQ := Lib.hid (On.turned HONO.out (Turned.of_below (fun _ => False) HMq.out.2.2) (fun _ q => q.elim))
            have HONZ := Lib.hid (On.turned HONX4.out (Turned.of_below (fun _ => False) HMq.out.2.2) (fun _ q => q.elim))
            go_wp2_with (at_builtin; refine wpList_append_builtX (K := K') _ rfl (.tmp 85) (.tmp 87) 28 rfl TObj _ 56 Try.underlying28 infoObj rfl (by omega) _ _ rfl HMq.out.1 HKQ.out #[.string key, .int .i64 id, .int .i64 size, .slice A2 NS C2] o _ rfl rfl rfl (objCells _ _ _ _ _ _) HONQ.out (by have := HPL.out; omega) ?_; intro v5 w5 hbu5 ht5 hat5)
            clear e2 ey0 ey1 ey2 ey3 e0 e1 ex2 e3
            have HNEWo := Lib.hid (HMq.out.next hbu5 ht5 hat5)
            clear hbu5 ht5 hat5 HKQ HONQ HONZ
            obtain ⟨P1, hP1⟩ : ∃ P1, P ++ [o] = P1 := ⟨_, rfl⟩
            have HL1 := Lib.hid (show P1.length = P.length + 1 by rw [← hP1]; simp)
            rw [hP1] at HNEWo HP'
            clear hP1
            obtain ⟨A5, C5, rfl, -, -⟩ := HNEWo.out.len
            obtain ⟨e2, ey0, ey1, ey2, ey3, e0, e1, ex2, e3⟩ := HS.out _ HNEWo.out.2.2
            have HKQ := Lib.hid (show ∀ b, K' b → b < _ from fun b q => Nat.lt_of_lt_of_le (HKLT.out b q) HNEWo.out.2.2.size)
            have HONQ := Lib.hid (On.turned HONO.out (Turned.of_below (fun _ => False) HNEWo.out.2.2) (fun _ q => q.elim))
            have HONZ := Lib.hid (On.turned HONX4.out (Turned.of_below (fun _ => False) HNEWo.out.2.2) (fun _ q => q.elim))
            go_wp2_with fail
            go_quiet (fail)
            clear e2 ey0 ey1 ey2 ey3 e0 e1 ex2 e3
            clear HKQ HONQ HONZ
            generalize hwq : (w5 : World).drewN _ = wz
            have HMz := Lib.hid (HNEWo.out.below (show Below (w5).heap.size w5 wz from by rw [← hwq]; exact Go.Mem.below_drewN _ _ _))
            clear hwq
            obtain ⟨e2, ey0, ey1, ey2, ey3, e0, e1, ex2, e3⟩ := HS.out _ HMz.out.2.2
            have HKQ := Lib.hid (show ∀ b, K' b → b < _ from fun b q => Nat.lt_of_lt_of_le (HKLT.out b q) HMz.out.2.2.size)
            have HONQ := Lib.hid (On.turned HONO.out (Turned.of_below (fun _ => False) HMz.out.2.2) (fun _ q => q.elim))
            have HONZ := Lib.hid (On.turned HONX4.out (Turned.of_below (fun _ => False) HMz.out.2.2) (fun _ q => q.elim))
            go_wp2_with (at_builtin; refine wpList_append_builtX (K := K') _ rfl (.tmp 100) (.tmp 108) 28 rfl TObj _ 56 Try.underlying28 infoObj rfl (by omega) _ _ rfl HMz.out.1 HKQ.out #[.string x.key, .int .i64 x.id, .int .i64 x.size, .slice A' M C'] x _ rfl rfl rfl (objCells _ _ _ _ _ _) HONZ.out (by have := HPL.out; have := HL1.out; omega) ?_; intro v5 w5 hbu5 ht5 hat5)
            clear e2 ey0 ey1 ey2 ey3 e0 e1 ex2 e3
            have HNEW := Lib.hid (HMz.out.next hbu5 ht5 hat5)
            clear hbu5 ht5 hat5 HKQ HONQ HONZ
            rw [← HP'.out] at HNEW
            go_wp2_with fail
            go_roundw
            case rel => exact ⟨i + 1, true, P', by omega, by go_num, by first | (rw [HK1.out]; done) | (rw [HK1.out]; exact congrArg Value.bool (by simp only [bne, f0, Bool.not_true, Bool.not_false])), rfl, HPT'.out, HNEW.out⟩
            case measure => simp [intOf]; omega
      · obtain rfl : i = N := by omega
        clear hlt hi
        have HE := Lib.hid (hpt.ends HN.out)
        obtain ⟨Au, Cu, rfl, -, -⟩ := hm.len
        obtain ⟨ok, hokk⟩ : ∃ ok, Tb.okB ro t.objs id i = ok := ⟨_, rfl⟩
        rw [hokk] at HAP1 ⊢
        have HFIN := Lib.hid (show ∀ w' A5 n5 C5, LMid w4 K' (Kl.put Tb.keyOf o t.objs) (.slice A5 n5 C5) w' → After w G r ⟨t.k, t.n, Kl.put Tb.keyOf o t.objs, t.states, t.epoch, lz⟩ ((w'.setCell ⟨r, 2, none⟩ (.slice A5 n5 C5)).setCell ⟨r, 5, none⟩ (.int .i64 lz)) from fun w' A5 n5 C5 hm => by
          have e1 := HX.out.size
          have e2 := HB14.out.size
          have e3 := HB4.out.size
          have e4 := hm.2.2.size
          have hbw : Below w.heap.size w w' := (HX.out.trans (HB14.out.mono e1)).trans (hm.2.2.mono (by omega))
          have h1 := HH.out.on.news hbw
          have hr := HH.out.lt r HH.out.gr
          have h2 := h1.objs (K' := K') (V' := .slice A5 n5 C5) (L := Kl.put Tb.keyOf o t.objs) hm.1 HKO.out (fun b q => by
            rw [HK'.out] at q
            rcases q with q | q | q
            · exact h1.now.gk b q
            · have := HK3.out.1 b q
              exact ⟨.inr (by omega), by omega⟩
            · have := HK3.out.2 b q
              exact ⟨.inr (by omega), by omega⟩) (fun b q => ⟨.inr ⟨by have := hm.2.1 b q; omega, hm.1.own_lt b q⟩, fun e => by have := hm.2.1 b q; omega⟩)
          exact (h2.last lz).done)
        have HSAME := Lib.hid (show ∀ w', Below w4.heap.size w4 w' → After w G r t w' from fun w' q => ap_same ⟨K, _, _, HH.out⟩ ((HX.out.trans (HB14.out.mono HX.out.size)).trans (q.mono (Nat.le_trans HX.out.size HB14.out.size))))
        have HROW := Lib.hid (show ∀ w', Below w4.heap.size w4 w' → w'.frozen? ⟨r, 2, none⟩ = false ∧ w'.frozen? ⟨r, 5, none⟩ = false ∧ w'.cell? ⟨r, 2, none⟩ = some (.slice AV i CV) ∧ w'.cell? ⟨r, 5, none⟩ = some (.int .i64 la) from fun w' q => by
          have h1 := (HH.out.on.below ((HX.out.trans (HB14.out.mono HX.out.size)).trans (q.mono (Nat.le_trans HX.out.size HB14.out.size)))).now
          refine ⟨h1.free 2, h1.free 5, below_cell q _ _ s2, ?_⟩
          have h5 : w'.cell? ⟨r, 5, none⟩ = some (.int .i64 t.last) := h1.cell (i := 5) (by omega)
          rw [HLA.out] at h5
          exact h5)
        clear hm hpt hb hokk
        have HAPT := HAP1
        cases p
        · rw [if_neg (by simp)] at HE
          have HKQ := HKr
          have HONQ := HONr
          go_wp2_with (at_builtin; refine wpList_append_builtX (K := K') _ rfl (.tmp 112) (.tmp 114) 28 rfl TObj _ 56 Try.underlying28 infoObj rfl (by omega) _ _ rfl HM.out.1 HKQ.out #[.string key, .int .i64 id, .int .i64 size, .slice A2 NS C2] o _ rfl rfl rfl (objCells _ _ _ _ _ _) HONQ.out (by have := HPL.out; omega) ?_; intro v5 w5 hbu5 ht5 hat5; have HNEW := Lib.hid (HM.out.next hbu5 ht5 hat5); rw [HE.out] at HNEW; clear hbu5 ht5 hat5 e2 ey0 ey1 ey2 ey3 s2 sy0 sy1 sy2 sy3; obtain ⟨A5, C5, rfl, -, -⟩ := HNEW.out.len; obtain ⟨l2, l5, e2, e5⟩ := HROW.out _ HNEW.out.2.2; have HFI := Lib.hid (HFIN.out _ _ _ _ HNEW.out); have HSA := Lib.hid (HSAME.out _ HNEW.out.2.2); obtain ⟨D, hD⟩ : ∃ D, (Kl.put Tb.keyOf o t.objs).length = D := ⟨_, rfl⟩; rw [hD] at HFI ⊢; clear HFIN hD)
          all_goals
            go_ret
            exact ⟨by rw [(HAPT.out).1]; rfl, by rw [(HAPT.out).2]; first | (rw [if_pos (by assumption)]; exact HFI.out) | (rw [if_neg (by simp only [*]; simp)]; exact HSA.out)⟩
        · rw [if_pos rfl] at HE
          rw [HE.out] at HM ⊢
          clear e2 ey0 ey1 ey2 ey3 s2 sy0 sy1 sy2 sy3
          obtain ⟨l2, l5, e2, e5⟩ := HROW.out _ HM.out.2.2
          have HFI := Lib.hid (HFIN.out _ _ _ _ HM.out)
          have HSA := Lib.hid (HSAME.out _ HM.out.2.2)
          obtain ⟨D, hD⟩ : ∃ D, (Kl.put Tb.keyOf o t.objs).length = D := ⟨_, rfl⟩
          rw [hD] at HFI HM ⊢
          clear HFIN hD
          cases ok
          · go_wp2_with fail
            go_ret
            exact ⟨by rw [(HAPT.out).1]; rfl, by rw [(HAPT.out).2]; rw [if_neg (by simp)]; exact HSA.out⟩
          · go_wp2_with fail
            go_ret
            exact ⟨by rw [(HAPT.out).1]; rfl, by rw [(HAPT.out).2]; rw [if_pos trivial]; exact HFI.out⟩
end Go.Proofs.Ytlgdchflegflkaa.Tbl
