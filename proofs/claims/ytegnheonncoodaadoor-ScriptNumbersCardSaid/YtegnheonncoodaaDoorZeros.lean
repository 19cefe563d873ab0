/- out = append(out, make([]byte, n)...): a slice of bytes that the call has built, with n zeros behind it; and a slice of no bytes, written out. No program is named here. -/
import Derived.Test.YtegnheonncoodaaDoorList
namespace Go.Mem
open Go.RowKit
theorem zero_cells (m : Nat) : Builtin.zeroCells #[Value.int .u8 0] m = (List.replicate m (Value.int .u8 0)).toArray := by
  apply Array.ext
  · simp [Builtin.zeroCells]
  · intro i h1 h2
    simp [Builtin.zeroCells, Nat.mod_one]
theorem run_append_zeros {P : Program} (w : World) (base : Nat) (t tn ty e : TypeId) (kn : IntKind) (bytes : Nat) (ht : P.underlying t = some (.slice e)) (htn : P.underlying tn = some (.int kn)) (hinfo : (P.info? e).map (fun i => (i.zero, i.size, i.bytes)) = some (some (.int .u8 0), 1, bytes))
    (v : Value) (L : List Nat) (hown : Built ByteR w base e v L) (m : Nat) (hm : 0 < m) (hbytes : (L.length + m) * (bytes + 1) ≤ 140737488355328) (hbase : base ≤ w.heap.size) :
    ∃ v' w', (Builtin.append_ #[t, tn] ty #[v, .int .i64 m]).run P w = .ok v' w' ∧ Built ByteR w' base e v' (L ++ List.replicate m 0) ∧ w.grownBy w' v.ownBlock ∧ Below base w w' := by
  obtain ⟨i, hi, hz, hz1, hz2⟩ := info_parts hinfo
  have hown0 := hown
  obtain ⟨xs, hrow, hel⟩ := hown
  have b1 : (L.length + m) * 1 ≤ (L.length + m) * (bytes + 1) := Nat.mul_le_mul_left _ (by omega)
  have b2 : (L.length + m) * bytes ≤ (L.length + m) * (bytes + 1) := Nat.mul_le_mul_left _ (by omega)
  have b3 : m * bytes ≤ (L.length + m) * bytes := Nat.mul_le_mul_right _ (by omega)
  have hw : IntKind.i64.wrap (m : Int) = m := by rw [IntKind.wrap_i64]; omega
  have hneg : ¬ ((m : Int) < 0) := by omega
  have h48i : ¬ (281474976710656 < (m : Int) * (i.bytes : Int)) := by rw [hz2, ← Int.natCast_mul]; omega
  have hm0 : m ≠ 0 := by omega
  have hxl : xs.length = L.length := by have := hrow.1; omega
  have built : ∀ v' w', w'.ownsRow base e 1 v' (L.length + m) (xs ++ List.replicate m (.int .u8 0)) → Built ByteR w' base e v' (L ++ List.replicate m 0) := by
    intro v' w' hr
    refine ⟨xs ++ List.replicate m (.int .u8 0), by rw [List.length_append, List.length_replicate]; exact hr, fun j hj => ?_⟩
    by_cases hlt : j < L.length
    · obtain ⟨c, e1, e2⟩ := hel j hlt
      refine ⟨c, by rw [List.getElem?_append_left (by omega)]; exact e1, fun w'' _ => ?_⟩
      rw [List.getElem_append_left hlt]
      exact e2 w (World.grownBy.refl _ _)
    · have hj' : j - L.length < m := by simp at hj; omega
      refine ⟨.int .u8 0, by rw [List.getElem?_append_right (by omega), hxl, List.getElem?_replicate, if_pos hj'], fun w'' _ => ?_⟩
      rw [List.getElem_append_right (by omega), List.getElem_replicate]
      exact ⟨rfl, by omega⟩
  have grown : ∀ (old : Nat) (row : Option Nat),
      (w.drew.alloc (.cells (xs.toArray ++ (List.replicate m (Value.int .u8 0)).toArray ++ Builtin.zeroCells #[Value.int .u8 0] (grownCap w (L.length + m) old e - (L.length + m))) e)).ownsRow base e 1
        (.slice (some ⟨w.heap.size, 0, none⟩) (L.length + m) (grownCap w (L.length + m) old e)) (L.length + m) (xs ++ List.replicate m (.int .u8 0)) ∧
      w.grownBy (w.drew.alloc (.cells (xs.toArray ++ (List.replicate m (Value.int .u8 0)).toArray ++ Builtin.zeroCells #[Value.int .u8 0] (grownCap w (L.length + m) old e - (L.length + m))) e)) row := by
    intro old row
    have hge := grownCap_ge w (L.length + m) old e
    have hcm : grownCap w (L.length + m) old e ≤ maxLen := grownCap_le_maxLen w (L.length + m) old e (by unfold maxLen; omega)
    refine ⟨⟨by simp [hxl], .inr ⟨w.heap.size, _, _, rfl, hbase, heap_alloc_new w.drew _, hge, hcm, ?_, ?_⟩⟩, ⟨rfl, rfl, rfl, by simp, fun k hk _ => Go.heap_alloc_old w.drew _ hk⟩⟩
    · simp only [Array.size_append, List.size_toArray, size_zeroCells, List.length_replicate, hxl]
      show L.length + m + (grownCap w (L.length + m) old e - (L.length + m)) * 1 = grownCap w (L.length + m) old e * 1
      omega
    · simp only [Array.toList_append, List.append_assoc]
      rw [← List.append_assoc]
      exact List.take_left' (by simp [hxl])
  rcases hrow.2 with ⟨rfl, h0⟩ | ⟨g, cap, cur, rfl, hbg, hg, hnc, hcm, hcs, htake⟩
  · have hL : L = [] := List.eq_nil_of_length_eq_zero (by omega)
    subst hL
    have hx : xs = [] := List.eq_nil_of_length_eq_zero (by simpa using hxl)
    subst hx
    have hr := Lib.run_append_nil_zeros (P := P) w t tn ty e i (.int .u8 0) .i64 kn ht htn hi hz m hm (by omega) (by omega) (by rw [hz2]; omega)
    have hgr := grown 0 (Value.ownBlock (.slice none 0 0))
    simp only [List.length_nil, Nat.zero_add, List.nil_append, Array.empty_append] at hgr built ⊢
    rw [← zero_cells] at hgr
    exact ⟨_, _, hr, built _ _ hgr.1, hgr.2, (Below.refl _ _).grown hgr.2 hbase (fun k hk => (hrow.lt k hk).1)⟩
  · by_cases hroom : L.length + m ≤ cap
    · have hfit : L.length * 1 + (List.replicate m (Value.int .u8 0)).length ≤ cur.size := by rw [List.length_replicate, hcs]; omega
      have hst := run_storeCells_at P g (L.length * 1) e (List.replicate m (Value.int .u8 0)) 0 cur w hg (by simpa using hfit) (fun u hu => by rw [List.eq_of_mem_replicate hu]; rfl)
      simp only [Nat.add_zero] at hst
      have hr : (Builtin.append_ #[t, tn] ty #[.slice (some ⟨g, 0, none⟩) L.length cap, .int .i64 m]).run P w = .ok (.slice (some ⟨g, 0, none⟩) (L.length + m) cap) (w.setRow g (cur.toList.take (L.length * 1) ++ List.replicate m (Value.int .u8 0) ++ cur.toList.drop (L.length * 1 + (List.replicate m (Value.int .u8 0)).length)).toArray) := by
        simp [Builtin.append_, run_underlying ht, run_underlying htn, sizeOf, typeInfo, zeroValue, hi, hz, hz1, asInt, asIntOf, hw, hneg, h48i, hm0, hroom, Value.cells, zero_cells, Addr.add_lit]
        rw [Nat.mul_one] at hst
        rw [hst]
        simp
      have hown' : (w.setRow g (cur.toList.take (L.length * 1) ++ List.replicate m (Value.int .u8 0) ++ cur.toList.drop (L.length * 1 + (List.replicate m (Value.int .u8 0)).length)).toArray).ownsRow base e 1 (.slice (some ⟨g, 0, none⟩) (L.length + m) cap) (L.length + m) (xs ++ List.replicate m (.int .u8 0)) := by
        refine ⟨by simp [hxl], .inr ⟨g, cap, _, rfl, hbg, setRow_heap w g cur _ e _ hg, hroom, hcm, ?_, ?_⟩⟩
        · simp only [List.size_toArray, List.length_append, List.length_take, List.length_drop, Array.length_toList, List.length_replicate]
          omega
        · rw [htake]
          exact List.take_left' (by simp [hxl])
      have hgr : w.grownBy (w.setRow g (cur.toList.take (L.length * 1) ++ List.replicate m (Value.int .u8 0) ++ cur.toList.drop (L.length * 1 + (List.replicate m (Value.int .u8 0)).length)).toArray) (Value.ownBlock (.slice (some ⟨g, 0, none⟩) L.length cap)) :=
        ⟨rfl, rfl, rfl, by simp, fun k _ hk => setRow_other w g k _ (fun e => hk (by simp [Value.ownBlock, e]))⟩
      exact ⟨_, _, hr, built _ _ hown', hgr, (Below.refl _ _).grown hgr hbase (fun k hk => (hrow.lt k hk).1)⟩
    · have holds : ∀ j u, xs[j]? = some u → w.cell? ((⟨g, 0, none⟩ : Addr).add j) = some u := hrow.cells (g := g) rfl
      have hfo := run_firstCells_some (P := P) w.drew i.size L.length ⟨g, 0, none⟩ L.length cap xs (by rw [hz1]; omega) (by simpa using holds)
      have h63' : ¬ (9223372036854775807 < ((L.length : Int) + (m : Int))) := by omega
      have h48' : ¬ (281474976710656 < Builtin.nextslicecap (L.length + m) cap * i.bytes) := by
        have := growslice_fits (need := L.length + m) (old := cap) (bytes := bytes) (by omega) (by omega)
        rw [hz2]; omega
      have hr : (Builtin.append_ #[t, tn] ty #[.slice (some ⟨g, 0, none⟩) L.length cap, .int .i64 m]).run P w = .ok (.slice (some ⟨w.heap.size, 0, none⟩) (L.length + m) (grownCap w (L.length + m) cap e)) (w.drew.alloc (.cells (xs.toArray ++ (List.replicate m (Value.int .u8 0)).toArray ++ Builtin.zeroCells #[Value.int .u8 0] (grownCap w (L.length + m) cap e - (L.length + m))) e)) := by
        simp [Builtin.append_, run_underlying ht, run_underlying htn, sizeOf, typeInfo, zeroValue, hi, hz, hz1, asInt, asIntOf, hw, hneg, h48i, hm0, hroom, h63', h48', Question.forced, newRow, grownCap, Value.cells, zero_cells]
        rw [hz1] at hfo
        rw [hfo]
        simp
      have hgr := grown cap (Value.ownBlock (.slice (some ⟨g, 0, none⟩) L.length cap))
      exact ⟨_, _, hr, built _ _ hgr.1, hgr.2, (Below.refl _ _).grown hgr.2 hbase (fun k hk => (hrow.lt k hk).1)⟩
/-- a slice of no elements, written out -/
theorem built_none {α : Type} {R : World → Value → α → Prop} (w : World) {base t : Nat} (hb : base ≤ w.heap.size) : Built R (w.alloc (.cells #[] t)) base t (.slice (some ⟨w.heap.size, 0, none⟩) 0 0) [] :=
  ⟨[], ⟨rfl, .inr ⟨w.heap.size, 0, #[], rfl, hb, heap_alloc_new w _, Nat.le_refl _, Nat.zero_le _, rfl, rfl⟩⟩, fun _ h => absurd h (by simp)⟩
end Go.Mem
