/- The document's Apply of a RecAll: what its loop has seen, plain. -/
import Derived.Test.YtlgdchflegflkaaTbAp1
namespace Tb
open Go Go.Mem Kl
theorem ap5 {t : TabD} {r : RecD} (hk : r.kind = 5) : apply t r = if 0 ≤ r.id ∧ r.id ≤ 33554432 ∧ 0 ≤ r.size ∧ r.size ≤ 1073741824 ∧ DrvOk r.drives ∧ AllOk t.k t.n r.id r.objects then some ⟨t.k, t.n, r.objects, r.drives, r.size, r.id⟩ else none := by
  unfold apply
  rw [if_neg (by omega), if_neg (by omega), if_neg (by omega), if_neg (by omega), if_pos hk]
theorem ap5_no {t : TabD} {r : RecD} (hk : r.kind = 5) (h : ¬ (0 ≤ r.id ∧ r.id ≤ 33554432 ∧ 0 ≤ r.size ∧ r.size ≤ 1073741824 ∧ DrvOk r.drives ∧ AllOk t.k t.n r.id r.objects)) : (apply t r).isSome = false ∧ stepT t r = t := by
  have e : apply t r = none := by rw [ap5 hk, if_neg h]
  unfold stepT
  rw [e]
  exact ⟨rfl, rfl⟩
theorem ap5_yes {t : TabD} {r : RecD} (hk : r.kind = 5) (h : 0 ≤ r.id ∧ r.id ≤ 33554432 ∧ 0 ≤ r.size ∧ r.size ≤ 1073741824 ∧ DrvOk r.drives ∧ AllOk t.k t.n r.id r.objects) : (apply t r).isSome = true ∧ stepT t r = ⟨t.k, t.n, r.objects, r.drives, r.size, r.id⟩ := by
  have e : apply t r = some ⟨t.k, t.n, r.objects, r.drives, r.size, r.id⟩ := by rw [ap5 hk, if_pos h]
  unfold stepT
  rw [e]
  exact ⟨rfl, rfl⟩
theorem allOk_nil (k n x : Int) : AllOk k n x [] := ⟨fun _ h => (by cases h), List.Pairwise.nil, List.nodup_nil⟩
theorem allOk_succ {k n x : Int} {L : List ObjD} {i : Nat} (hi : i < L.length) (h : AllOk k n x (L.take i)) (h1 : ObjOk k n L[i]) (h2 : L[i].id ≤ x) (h3 : i = 0 ∨ ∃ hj : i - 1 < L.length, lt (keyOf L[i - 1]) (keyOf L[i]) = true) (h4 : ∀ j (hj : j < L.length), j < i → ¬ L[j].id = L[i].id) : AllOk k n x (L.take (i + 1)) := by
  obtain ⟨a, b, c⟩ := h
  rw [List.take_succ_eq_append_getElem hi]
  refine ⟨fun o ho => ?_, ?_, ?_⟩
  · rcases List.mem_append.1 ho with q | q
    · exact a o q
    · rw [List.mem_singleton.1 q]; exact ⟨h1, h2⟩
  · refine List.pairwise_append.2 ⟨b, List.pairwise_singleton _ _, fun y hy z hz => ?_⟩
    rw [List.mem_singleton.1 hz]
    obtain ⟨j, hj, rfl⟩ := List.getElem_of_mem hy
    have hji : j < i := by rw [List.length_take] at hj; omega
    rcases h3 with e | ⟨hp, h3⟩
    · omega
    by_cases e : j = i - 1
    · subst e; rw [List.getElem_take]; exact h3
    · have hp' : i - 1 < (L.take i).length := by rw [List.length_take]; omega
      have := List.pairwise_iff_getElem.1 b j (i - 1) hj hp' (by omega)
      rw [List.getElem_take (i := i - 1)] at this
      exact trans this h3
  · rw [List.map_append, List.nodup_append]
    refine ⟨c, by simp, fun y hy z hz => ?_⟩
    obtain ⟨o, ho, rfl⟩ := List.mem_map.1 hy
    obtain ⟨j, hj, rfl⟩ := List.getElem_of_mem ho
    have hji : j < i := by rw [List.length_take] at hj; omega
    have e : z = L[i].id := by simpa using hz
    rw [e, List.getElem_take]
    exact h4 j (by omega) hji
theorem all_obj {k n x : Int} {L : List ObjD} {i : Nat} (hi : i < L.length) (h : ¬ ObjOk k n L[i]) : ¬ AllOk k n x L := fun q => h (q.1 _ (List.getElem_mem hi)).1
theorem all_id {k n x : Int} {L : List ObjD} {i : Nat} (hi : i < L.length) (h : x < L[i].id) : ¬ AllOk k n x L := fun q => by have := (q.1 _ (List.getElem_mem hi)).2; omega
theorem all_key {k n x : Int} {L : List ObjD} {i : Nat} (hi : i < L.length) (h0 : 0 < i) (hj : i - 1 < L.length) (h : lt (keyOf L[i - 1]) (keyOf L[i]) = false) : ¬ AllOk k n x L := fun q => by
  have := List.pairwise_iff_getElem.1 q.2.1 (i - 1) i hj hi (by omega)
  rw [h] at this
  cases this
theorem all_two {k n x : Int} {L : List ObjD} {i j : Nat} (hi : i < L.length) (hj : j < L.length) (hji : j < i) (h : L[j].id = L[i].id) : ¬ AllOk k n x L := fun q => by
  have := List.pairwise_iff_getElem.1 q.2.2 j i (by simpa using hj) (by simpa using hi) hji
  simp only [List.getElem_map] at this
  exact this h
end Tb
namespace Go.Proofs.Ytlgdchflegflkaa.Tbl
open Go.RowKit Go.Mem
/-- stores into another block leave a block's cells -/
theorem three_kept {w : World} {r B o i j k : Nat} {v x y z : Value} (hne : r ≠ B) (h : w.cell? ⟨B, i, none⟩ = some x ∧ w.cell? ⟨B, j, none⟩ = some y ∧ w.cell? ⟨B, k, none⟩ = some z) : (w.setCell ⟨r, o, none⟩ v).cell? ⟨B, i, none⟩ = some x ∧ (w.setCell ⟨r, o, none⟩ v).cell? ⟨B, j, none⟩ = some y ∧ (w.setCell ⟨r, o, none⟩ v).cell? ⟨B, k, none⟩ = some z :=
  ⟨(World.cell?_setCell_other w ⟨r, o, none⟩ ⟨B, i, none⟩ v (fun e => hne (congrArg Addr.block e))).trans h.1, two_kept hne h.2⟩
end Go.Proofs.Ytlgdchflegflkaa.Tbl
