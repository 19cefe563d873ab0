/- What there is, plain: objects by key, drives, the last version; a table of k and n - k. No program is named here. -/
import Derived.Test.YtegbgnjmkohcfaaDoorRecD
import Derived.Test.YtegbgnjmkohcfaaDoorKeyLt
namespace Tb
open Go Go.Mem Kl
/-- the stripe is right -/
def StpOk (n : Int) (s : StpD) : Prop := 0 ≤ s.ep ∧ s.ep ≤ 1073741824 ∧ (s.locs.length : Int) = n ∧ (∀ x ∈ s.locs, 0 ≤ x ∧ x ≤ 11) ∧ s.locs.Nodup
instance (n : Int) (s : StpD) : Decidable (StpOk n s) := by unfold StpOk; infer_instance
def nStp (k size : Int) : Int := (size + (8 * k - 1)) / (8 * k)
/-- its stripes bear the numbers from n on -/
def Numbered : Int → List StpD → Prop
  | _, [] => True
  | n, s :: l => s.id = n ∧ Numbered (n + 1) l
instance decNumbered : ∀ (n : Int) (l : List StpD), Decidable (Numbered n l)
  | _, [] => isTrue trivial
  | n, _ :: l => @instDecidableAnd _ _ _ (decNumbered (n + 1) l)
def ObjOk (k n : Int) (o : ObjD) : Prop := 1 ≤ o.key.size ∧ o.key.size ≤ 16 ∧ 1 ≤ o.id ∧ o.id ≤ 33554432 ∧ 0 ≤ o.size ∧ o.size ≤ 96 ∧ (o.stripes.length : Int) = nStp k o.size ∧ Numbered (16 * o.id) o.stripes ∧ ∀ s ∈ o.stripes, StpOk n s
instance (k n : Int) (o : ObjD) : Decidable (ObjOk k n o) := by unfold ObjOk; infer_instance
def DrvOk (l : List Int) : Prop := (∀ x ∈ l, 0 ≤ x ∧ x ≤ 2) ∧ l.length ≤ 12
instance (l : List Int) : Decidable (DrvOk l) := by unfold DrvOk; infer_instance
structure TabD where
  k : Int
  n : Int
  objs : List ObjD
  states : List Int
  epoch : Int
  last : Int
def keyOf (o : ObjD) : List UInt8 := o.key.toList
def AllOk (k n x : Int) (L : List ObjD) : Prop := (∀ o ∈ L, ObjOk k n o ∧ o.id ≤ x) ∧ Rising keyOf L ∧ (L.map ObjD.id).Nodup
instance (k n x : Int) (L : List ObjD) : Decidable (AllOk k n x L) := by unfold AllOk Rising; infer_instance
structure TabD.Ok (t : TabD) : Prop where
  k1 : 1 ≤ t.k
  all : AllOk t.k t.n t.last t.objs
  last0 : 0 ≤ t.last
  last1 : t.last ≤ 33554432
  ep0 : 0 ≤ t.epoch
  ep1 : t.epoch ≤ 1073741824
  drv : DrvOk t.states
def moveS (s : StpD) : List StpD → Option (List StpD)
  | [] => none
  | a :: l => if a.id = s.id then some (s :: l) else (moveS s l).map (a :: ·)
def moveO (s : StpD) : List ObjD → Option (List ObjD)
  | [] => none
  | o :: L => match moveS s o.stripes with
    | some l => some (⟨o.key, o.id, o.size, l⟩ :: L)
    | none => (moveO s L).map (o :: ·)
def putObj (r : RecD) : ObjD := ⟨r.key, r.id, r.size, r.stripes⟩
def maxZ (a b : Int) : Int := if a < b then b else a
def apply (t : TabD) (r : RecD) : Option TabD :=
  if r.kind = 1 then
    if ObjOk t.k t.n (putObj r) ∧ ∀ x ∈ t.objs, x.id ≠ r.id then some ⟨t.k, t.n, put keyOf (putObj r) t.objs, t.states, t.epoch, maxZ t.last r.id⟩ else none
  else if r.kind = 2 then
    if (∃ x ∈ t.objs, keyOf x = r.key.toList) ∧ 1 ≤ r.id ∧ r.id ≤ 33554432 then some ⟨t.k, t.n, del keyOf r.key.toList t.objs, t.states, t.epoch, maxZ t.last r.id⟩ else none
  else if r.kind = 3 then
    match r.stripes with
    | [s] => if StpOk t.n s then (moveO s t.objs).map fun L => ⟨t.k, t.n, L, t.states, t.epoch, t.last⟩ else none
    | _ => none
  else if r.kind = 4 then
    if r.id = t.epoch + 1 ∧ r.id ≤ 1073741824 ∧ DrvOk r.drives ∧ t.states.length ≤ r.drives.length then some ⟨t.k, t.n, t.objs, r.drives, r.id, t.last⟩ else none
  else if r.kind = 5 then
    if 0 ≤ r.id ∧ r.id ≤ 33554432 ∧ 0 ≤ r.size ∧ r.size ≤ 1073741824 ∧ DrvOk r.drives ∧ AllOk t.k t.n r.id r.objects then some ⟨t.k, t.n, r.objects, r.drives, r.size, r.id⟩ else none
  else none
def empty (k n : Int) : TabD := ⟨k, n, [], [], 0, 0⟩
def allRec (t : TabD) : RecD := ⟨5, t.last, t.epoch, ⟨#[]⟩, [], t.objs, t.states⟩
def stripes (t : TabD) : List StpD := t.objs.flatMap ObjD.stripes
def stripe (t : TabD) (id : Int) : Option StpD := (stripes t).find? fun s => decide (s.id = id)
theorem empty_ok {k : Int} (n : Int) (h : 1 ≤ k) : (empty k n).Ok := ⟨h, ⟨by simp [empty], List.Pairwise.nil, List.nodup_nil⟩, Int.le_refl _, by show (0 : Int) ≤ _; decide, Int.le_refl _, by show (0 : Int) ≤ _; decide, by show DrvOk []; decide⟩
/-- the record that leads here leads here -/
theorem all_leads {t : TabD} (h : t.Ok) {u : TabD} (hk : u.k = t.k) (hn : u.n = t.n) : apply u (allRec t) = some t := by
  unfold apply
  rw [if_neg (show ¬ (allRec t).kind = 1 from (by decide : ¬ (5 : Int) = 1)), if_neg (show ¬ (allRec t).kind = 2 from (by decide : ¬ (5 : Int) = 2)), if_neg (show ¬ (allRec t).kind = 3 from (by decide : ¬ (5 : Int) = 3)), if_neg (show ¬ (allRec t).kind = 4 from (by decide : ¬ (5 : Int) = 4)), if_pos (show (allRec t).kind = 5 from rfl), if_pos (show 0 ≤ (allRec t).id ∧ (allRec t).id ≤ 33554432 ∧ 0 ≤ (allRec t).size ∧ (allRec t).size ≤ 1073741824 ∧ DrvOk (allRec t).drives ∧ AllOk u.k u.n (allRec t).id (allRec t).objects from ⟨h.last0, h.last1, h.ep0, h.ep1, h.drv, (by rw [hk, hn]; exact h.all)⟩), hk, hn]
  rfl
theorem put_nodup {x : ObjD} : ∀ {L : List ObjD}, (∀ y ∈ L, y.id ≠ x.id) → (L.map ObjD.id).Nodup → ((put keyOf x L).map ObjD.id).Nodup
  | [], _, _ => by simp [put]
  | a :: L, h, k => by
    rw [List.map_cons, List.nodup_cons] at k
    have ha := h a (by simp)
    have hL : ∀ y ∈ L, y.id ≠ x.id := fun y hy => h y (by simp [hy])
    have hx : x.id ∉ L.map ObjD.id := fun q => by
      obtain ⟨y, hy, e⟩ := List.mem_map.1 q
      exact hL y hy e
    unfold put
    split
    · rw [List.map_cons, List.nodup_cons]
      refine ⟨fun q => ?_, put_nodup hL k.2⟩
      obtain ⟨y, hy, e⟩ := List.mem_map.1 q
      rcases put_mem hy with z | z
      · rw [z] at e; exact ha e.symm
      · exact k.1 (List.mem_map.2 ⟨y, z, e⟩)
    · split
      · rw [List.map_cons, List.nodup_cons]
        exact ⟨hx, k.2⟩
      · rw [List.map_cons, List.map_cons, List.nodup_cons, List.nodup_cons]
        refine ⟨fun q => ?_, k⟩
        rcases List.mem_cons.1 q with z | z
        · exact ha z.symm
        · exact hx z
theorem moveS_ok {s : StpD} {N : Int} (hs : StpOk N s) : ∀ {l l' : List StpD} {n : Int}, moveS s l = some l' → Numbered n l → (∀ x ∈ l, StpOk N x) → l'.length = l.length ∧ Numbered n l' ∧ ∀ x ∈ l', StpOk N x
  | [], _, _, h, _, _ => by cases h
  | a :: l, l', n, h, hn, ho => by
    unfold moveS at h
    split at h
    · rename_i e
      cases h
      refine ⟨rfl, ⟨e ▸ hn.1, hn.2⟩, fun x hx => ?_⟩
      rcases List.mem_cons.1 hx with q | q
      · rw [q]; exact hs
      · exact ho x (by simp [q])
    · obtain ⟨m, hm, rfl⟩ := Option.map_eq_some_iff.1 h
      obtain ⟨h1, h2, h3⟩ := moveS_ok hs hm hn.2 fun x hx => ho x (by simp [hx])
      refine ⟨by simp [h1], ⟨hn.1, h2⟩, fun x hx => ?_⟩
      rcases List.mem_cons.1 hx with q | q
      · rw [q]; exact ho a (by simp)
      · exact h3 x q
theorem moveO_ok {s : StpD} {K N : Int} (hs : StpOk N s) : ∀ {L L' : List ObjD} {n : Int}, moveO s L = some L' → (∀ o ∈ L, ObjOk K N o ∧ o.id ≤ n) → L'.map keyOf = L.map keyOf ∧ L'.map ObjD.id = L.map ObjD.id ∧ ∀ o ∈ L', ObjOk K N o ∧ o.id ≤ n
  | [], _, _, h, _ => by cases h
  | a :: L, L', n, h, ho => by
    obtain ⟨ha, han⟩ := ho a (by simp)
    unfold moveO at h
    split at h
    · rename_i l hl
      cases h
      obtain ⟨c1, c2, c3, c4, c5, c6, c7, c8, c9⟩ := ha
      obtain ⟨k1, k2, k3⟩ := moveS_ok hs hl c8 c9
      refine ⟨rfl, rfl, fun o q => ?_⟩
      rcases List.mem_cons.1 q with z | z
      · rw [z]
        exact ⟨⟨c1, c2, c3, c4, c5, c6, (by rw [k1]; exact c7), k2, k3⟩, han⟩
      · exact ho o (by simp [z])
    · obtain ⟨m, hm, rfl⟩ := Option.map_eq_some_iff.1 h
      obtain ⟨h1, h2, h3⟩ := moveO_ok hs hm fun o q => ho o (by simp [q])
      refine ⟨by simp [h1], by simp [h2], fun o q => ?_⟩
      rcases List.mem_cons.1 q with z | z
      · rw [z]; exact ⟨ha, han⟩
      · exact h3 o z
theorem rising_map {L : List ObjD} : Rising keyOf L ↔ (L.map keyOf).Pairwise fun a b => lt a b = true := by unfold Rising; rw [List.pairwise_map]
theorem maxZ_le {a b : Int} : a ≤ maxZ a b ∧ b ≤ maxZ a b ∧ (maxZ a b = a ∨ maxZ a b = b) := by unfold maxZ; split <;> omega
theorem apply_ok {t t' : TabD} {r : RecD} (h : t.Ok) (e : apply t r = some t') : t'.Ok := by
  obtain ⟨hk1, ⟨h1, h2, h3⟩, l0, l1, e0, e1, hd⟩ := h
  obtain ⟨m1, m2, m3⟩ := maxZ_le (a := t.last) (b := r.id)
  unfold apply at e
  split at e
  · split at e
    · rename_i hk hc
      cases e
      obtain ⟨q, hq⟩ := hc
      have hid : r.id ≤ 33554432 := q.2.2.2.1
      refine ⟨hk1, ⟨fun o ho => ?_, put_rising h2, put_nodup hq h3⟩, by show 0 ≤ maxZ _ _; omega, by show maxZ _ _ ≤ _; omega, e0, e1, hd⟩
      rcases put_mem ho with z | z
      · rw [z]; exact ⟨q, m2⟩
      · exact ⟨(h1 o z).1, Int.le_trans (h1 o z).2 m1⟩
    · cases e
  · split at e
    · split at e
      · rename_i hk hc
        cases e
        refine ⟨hk1, ⟨fun o ho => ?_, del_rising h2, ?_⟩, by show 0 ≤ maxZ _ _; omega, by show maxZ _ _ ≤ _; omega, e0, e1, hd⟩
        · have hm : o ∈ t.objs := (List.mem_filter.1 ho).1
          exact ⟨(h1 o hm).1, Int.le_trans (h1 o hm).2 m1⟩
        · exact h3.sublist (List.Sublist.map _ List.filter_sublist)
      · cases e
    · split at e
      · split at e
        · split at e
          · rename_i hs
            obtain ⟨L, hL, rfl⟩ := Option.map_eq_some_iff.1 e
            obtain ⟨k1, k2, k3⟩ := moveO_ok hs hL h1
            exact ⟨hk1, ⟨k3, rising_map.2 (by show (L.map keyOf).Pairwise _; rw [k1]; exact rising_map.1 h2), by show (L.map ObjD.id).Nodup; rw [k2]; exact h3⟩, l0, l1, e0, e1, hd⟩
          · cases e
        · cases e
      · split at e
        · split at e
          · rename_i hc
            cases e
            exact ⟨hk1, ⟨h1, h2, h3⟩, l0, l1, by show 0 ≤ r.id; omega, hc.2.1, hc.2.2.1⟩
          · cases e
        · split at e
          · split at e
            · rename_i hc
              cases e
              exact ⟨hk1, hc.2.2.2.2.2, hc.1, hc.2.1, hc.2.2.1, hc.2.2.2.1, hc.2.2.2.2.1⟩
            · cases e
          · cases e
end Tb
