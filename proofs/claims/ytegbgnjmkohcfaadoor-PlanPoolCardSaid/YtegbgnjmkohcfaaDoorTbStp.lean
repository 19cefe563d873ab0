/- The stripes of what there is, plain: by their numbers, unlike ones; one that is moved. No program is named here. -/
import Derived.Test.YtegbgnjmkohcfaaDoorTbMath
namespace Tb
open Go Go.Mem Kl
theorem numbered_range : ∀ {l : List StpD} {n : Int}, Numbered n l → ∀ s ∈ l, n ≤ s.id ∧ s.id < n + l.length
  | [], _, _, s, h => by cases h
  | a :: l, n, hn, s, h => by
    rw [List.length_cons]
    rcases List.mem_cons.1 h with q | q
    · rw [q, hn.1]; omega
    · have := numbered_range hn.2 s q
      omega
theorem numbered_nodup : ∀ {l : List StpD} {n : Int}, Numbered n l → (l.map StpD.id).Nodup
  | [], _, _ => List.nodup_nil
  | a :: l, n, hn => by
    rw [List.map_cons, List.nodup_cons]
    refine ⟨fun q => ?_, numbered_nodup hn.2⟩
    obtain ⟨s, hs, e⟩ := List.mem_map.1 q
    have := numbered_range hn.2 s hs
    rw [e, hn.1] at this
    omega
theorem obj_range {k n : Int} (hk : 1 ≤ k) {o : ObjD} (h : ObjOk k n o) {s : StpD} (hs : s ∈ o.stripes) : 16 * o.id ≤ s.id ∧ s.id < 16 * o.id + 16 := by
  obtain ⟨c1, c2, c3, c4, c5, c6, c7, c8, c9⟩ := h
  have hr := numbered_range c8 s hs
  have hl : (o.stripes.length : Int) < 13 := by
    rw [c7]
    unfold nStp
    exact Int.ediv_lt_of_lt_mul (by omega) (by omega)
  omega
theorem flat_nodup {k n : Int} (hk : 1 ≤ k) : ∀ {L : List ObjD}, (∀ o ∈ L, ObjOk k n o) → (L.map ObjD.id).Nodup → ((L.flatMap ObjD.stripes).map StpD.id).Nodup
  | [], _, _ => List.nodup_nil
  | o :: L, h, q => by
    rw [List.map_cons, List.nodup_cons] at q
    rw [List.flatMap_cons, List.map_append, List.nodup_append]
    have ho := h o (by simp)
    refine ⟨numbered_nodup ho.2.2.2.2.2.2.2.1, flat_nodup hk (fun x hx => h x (by simp [hx])) q.2, fun a ha b hb e => ?_⟩
    obtain ⟨s, hs, rfl⟩ := List.mem_map.1 ha
    obtain ⟨s', hs', rfl⟩ := List.mem_map.1 hb
    obtain ⟨o', ho', hm⟩ := List.mem_flatMap.1 hs'
    have r1 := obj_range hk ho hs
    have r2 := obj_range hk (h o' (by simp [ho'])) hm
    exact q.1 (List.mem_map.2 ⟨o', ho', by omega⟩)
theorem stripes_nodup {t : TabD} (h : t.Ok) : ((stripes t).map StpD.id).Nodup := flat_nodup h.k1 (fun o ho => (h.all.1 o ho).1) h.all.2.2
theorem find_self : ∀ {L : List StpD}, (L.map StpD.id).Nodup → ∀ s ∈ L, L.find? (fun x => decide (x.id = s.id)) = some s
  | [], _, s, h => by cases h
  | a :: L, k, s, h => by
    rw [List.map_cons, List.nodup_cons] at k
    rw [List.find?_cons]
    rcases List.mem_cons.1 h with q | q
    · subst q; simp
    · have : ¬ a.id = s.id := fun e => k.1 (List.mem_map.2 ⟨s, q, e.symm⟩)
      simp only [this, decide_false]
      exact find_self k.2 s q
theorem stripe_self {t : TabD} (h : t.Ok) {s : StpD} (hs : s ∈ stripes t) : stripe t s.id = some s := find_self (stripes_nodup h) s hs
theorem stripe_some {t : TabD} {id : Int} {s : StpD} (h : stripe t id = some s) : s ∈ stripes t ∧ s.id = id := ⟨List.mem_of_find?_eq_some h, by simpa using List.find?_some h⟩
theorem stripe_none {t : TabD} {id : Int} (h : stripe t id = none) : ∀ s ∈ stripes t, s.id ≠ id := by
  unfold stripe at h
  rw [List.find?_eq_none] at h
  exact fun s hs => by simpa using h s hs
/-- sorted by their numbers -/
def insS (x : StpD) : List StpD → List StpD
  | [] => [x]
  | a :: l => if x.id < a.id then x :: a :: l else a :: insS x l
def sortS : List StpD → List StpD
  | [] => []
  | x :: l => insS x (sortS l)
def Up (l : List StpD) : Prop := l.Pairwise fun a b => a.id < b.id
theorem insS_perm (x : StpD) : ∀ l, (insS x l).Perm (x :: l)
  | [] => .refl _
  | a :: l => by
    unfold insS
    split
    · exact .refl _
    · exact ((insS_perm x l).cons a).trans (.swap x a l)
theorem sortS_perm : ∀ l, (sortS l).Perm l
  | [] => .refl _
  | x :: l => (insS_perm x _).trans ((sortS_perm l).cons x)
theorem insS_up {x : StpD} : ∀ {l : List StpD}, Up l → (∀ y ∈ l, y.id ≠ x.id) → Up (insS x l)
  | [], _, _ => List.pairwise_singleton _ _
  | a :: l, h, k => by
    obtain ⟨h1, h2⟩ := List.pairwise_cons.1 h
    unfold insS
    split
    · rename_i c
      refine List.pairwise_cons.2 ⟨fun y hy => ?_, h⟩
      rcases List.mem_cons.1 hy with q | q
      · rw [q]; exact c
      · exact Int.lt_trans c (h1 y q)
    · rename_i c
      have ha := k a (by simp)
      refine List.pairwise_cons.2 ⟨fun y hy => ?_, insS_up h2 fun y hy => k y (by simp [hy])⟩
      rcases List.mem_cons.1 ((insS_perm x l).mem_iff.1 hy) with q | q
      · rw [q]; omega
      · exact h1 y q
theorem sortS_up : ∀ {l : List StpD}, (l.map StpD.id).Nodup → Up (sortS l)
  | [], _ => List.Pairwise.nil
  | x :: l, h => by
    rw [List.map_cons, List.nodup_cons] at h
    refine insS_up (sortS_up h.2) fun y hy e => h.1 (List.mem_map.2 ⟨y, (sortS_perm l).mem_iff.1 hy, e⟩)
/-- two rows that rise and hold the same are one -/
theorem up_unique : ∀ {l m : List StpD}, Up l → Up m → l.Perm m → l = m
  | [], m, _, _, p => (List.nil_perm.1 p).symm
  | a :: l, [], _, _, p => absurd p.length_eq (by simp)
  | a :: l, b :: m, h, k, p => by
    obtain ⟨h1, h2⟩ := List.pairwise_cons.1 h
    obtain ⟨k1, k2⟩ := List.pairwise_cons.1 k
    have e : a = b := by
      rcases List.mem_cons.1 (p.mem_iff.1 (List.mem_cons_self (a := a) (l := l))) with q | q
      · exact q
      · rcases List.mem_cons.1 (p.mem_iff.2 (List.mem_cons_self (a := b) (l := m))) with z | z
        · exact z.symm
        · have := k1 a q
          have := h1 b z
          omega
    subst e
    rw [up_unique h2 k2 ((List.perm_cons a).1 p)]
def rowS (t : TabD) : List StpD := sortS (stripes t)
theorem rowS_up {t : TabD} (h : t.Ok) : Up (rowS t) := sortS_up (stripes_nodup h)
theorem rowS_mem {t : TabD} {s : StpD} : s ∈ rowS t ↔ s ∈ stripes t := (sortS_perm _).mem_iff
theorem rowS_len {t : TabD} : (rowS t).length = (stripes t).length := (sortS_perm _).length_eq
theorem rowS_is {t : TabD} (h : t.Ok) {l : List StpD} (k : Up l) (p : l.Perm (stripes t)) : l = rowS t := up_unique k (rowS_up h) (p.trans (sortS_perm _).symm)
/-- a stripe in the place of that of its number -/
def sub (s x : StpD) : StpD := if x.id = s.id then s else x
theorem sub_id (s x : StpD) : (sub s x).id = x.id := by unfold sub; split <;> simp_all
theorem sub_away {s : StpD} : ∀ {l : List StpD}, (∀ x ∈ l, x.id ≠ s.id) → l.map (sub s) = l
  | [], _ => rfl
  | a :: l, h => by
    rw [List.map_cons, sub_away fun x hx => h x (by simp [hx]), sub, if_neg (h a (by simp))]
theorem moveS_none {s : StpD} : ∀ {l : List StpD}, moveS s l = none ↔ ∀ x ∈ l, x.id ≠ s.id
  | [] => by simp [moveS]
  | a :: l => by
    unfold moveS
    split
    · rename_i e
      simp [e]
    · rename_i e
      rw [Option.map_eq_none_iff, moveS_none]
      simp [e]
theorem moveS_some {s : StpD} : ∀ {l l' : List StpD}, moveS s l = some l' → (l.map StpD.id).Nodup → l' = l.map (sub s) ∧ ∃ x ∈ l, x.id = s.id
  | [], _, h, _ => by cases h
  | a :: l, l', h, k => by
    rw [List.map_cons, List.nodup_cons] at k
    unfold moveS at h
    split at h
    · rename_i e
      cases h
      refine ⟨?_, a, by simp, e⟩
      rw [List.map_cons, sub, if_pos e, sub_away fun x hx q => k.1 (List.mem_map.2 ⟨x, hx, q.trans e.symm⟩)]
    · rename_i e
      obtain ⟨m, hm, rfl⟩ := Option.map_eq_some_iff.1 h
      obtain ⟨h1, x, hx, q⟩ := moveS_some hm k.2
      refine ⟨?_, x, by simp [hx], q⟩
      rw [List.map_cons, sub, if_neg e, h1]
theorem moveO_none {s : StpD} : ∀ {L : List ObjD}, moveO s L = none ↔ ∀ x ∈ L.flatMap ObjD.stripes, x.id ≠ s.id
  | [] => by simp [moveO]
  | o :: L => by
    unfold moveO
    rw [List.flatMap_cons]
    split
    · rename_i l hl
      refine ⟨(fun h => by cases h), fun h => ?_⟩
      have : moveS s o.stripes = none := moveS_none.2 fun x hx => h x (List.mem_append_left _ hx)
      rw [this] at hl
      cases hl
    · rename_i hl
      rw [Option.map_eq_none_iff, moveO_none]
      have h1 := moveS_none.1 hl
      refine ⟨fun h x hx => ?_, fun h x hx => h x (List.mem_append_right _ hx)⟩
      rcases List.mem_append.1 hx with q | q
      · exact h1 x q
      · exact h x q
theorem moveO_some {s : StpD} : ∀ {L L' : List ObjD}, moveO s L = some L' → ((L.flatMap ObjD.stripes).map StpD.id).Nodup → L'.flatMap ObjD.stripes = (L.flatMap ObjD.stripes).map (sub s) ∧ ∃ x ∈ L.flatMap ObjD.stripes, x.id = s.id
  | [], _, h, _ => by cases h
  | o :: L, L', h, k => by
    rw [List.flatMap_cons, List.map_append, List.nodup_append] at k
    obtain ⟨k1, k2, k3⟩ := k
    unfold moveO at h
    rw [List.flatMap_cons, List.map_append]
    split at h
    · rename_i l hl
      cases h
      obtain ⟨h1, x, hx, q⟩ := moveS_some hl k1
      refine ⟨?_, x, List.mem_append_left _ hx, q⟩
      rw [List.flatMap_cons, h1, sub_away fun y hy e => k3 _ (List.mem_map.2 ⟨x, hx, rfl⟩) _ (List.mem_map.2 ⟨y, hy, rfl⟩) (q.trans e.symm)]
    · rename_i hl
      obtain ⟨m, hm, rfl⟩ := Option.map_eq_some_iff.1 h
      obtain ⟨h1, x, hx, q⟩ := moveO_some hm k2
      refine ⟨?_, x, List.mem_append_right _ hx, q⟩
      rw [List.flatMap_cons, h1, sub_away (moveS_none.1 hl)]
/-- a move turns one stripe of the row alone -/
theorem row_moved {t : TabD} {s : StpD} {L : List ObjD} (h : t.Ok) (hs : StpOk t.n s) (hm : moveO s t.objs = some L) : rowS ⟨t.k, t.n, L, t.states, t.epoch, t.last⟩ = (rowS t).map (sub s) ∧ ∃ x ∈ rowS t, x.id = s.id := by
  obtain ⟨k1, k2, k3⟩ := moveO_ok hs hm h.all.1
  have hok : TabD.Ok ⟨t.k, t.n, L, t.states, t.epoch, t.last⟩ := ⟨h.k1, ⟨k3, rising_map.2 (by show (L.map keyOf).Pairwise _; rw [k1]; exact rising_map.1 h.all.2.1), by show (L.map ObjD.id).Nodup; rw [k2]; exact h.all.2.2⟩, h.last0, h.last1, h.ep0, h.ep1, h.drv⟩
  obtain ⟨m1, x, hx, q⟩ := moveO_some hm (stripes_nodup h)
  refine ⟨(rowS_is hok ?_ ?_).symm, x, rowS_mem.2 hx, q⟩
  · have hu := rowS_up h
    unfold Up at hu ⊢
    rw [List.pairwise_map]
    exact hu.imp fun hab => by rw [sub_id, sub_id]; exact hab
  · show ((rowS t).map (sub s)).Perm (L.flatMap ObjD.stripes)
    rw [m1]
    exact (sortS_perm _).map _
end Tb
