/- append of bytes, whatever they come from (a slice, a string), onto a slice of bytes that the call has built, up to growslice's own bound. No program is named here. -/
import Derived.Test.YtcljpniknpgmpaaZeros
import Derived.Deep.AppendSrc
import Derived.Deep.DeepAppendWide
namespace Go.Mem
open Go.RowKit
/-- what is appended reads as l -/
structure BSrc (P : Program) (tx : TypeId) (x : Value) (l : List Nat) (w : World) : Prop where
  ex : ∃ news, Src P 1 tx x l.length news w ∧ ∀ i (h : i < l.length), news[i]? = some (.int .u8 (l[i] : Nat)) ∧ l[i] < 256
theorem BSrc.ofBytes {P : Program} {tx e' : TypeId} {w : World} {A : Option Addr} {n C : Nat} {l : List Nat} (hk : P.underlying tx = some (.slice e')) (h : Bytes w (.slice A n C) l) : BSrc P tx (.slice A n C) l w := by
  rcases A with _ | ad
  · obtain ⟨A', n', C', q1, q2, q3, q4, q5, _⟩ := h
    cases q1
    have hC := q5 rfl
    have hl0 : l = [] := List.length_eq_zero_iff.1 (by omega)
    subst hl0
    have hm : n = 0 := by omega
    subst hm
    exact ⟨[], Src.ofNil w hk C, fun i hi => absurd hi (by simp)⟩
  · obtain ⟨hm, f, hf⟩ := h.values
    subst hm
    refine ⟨(List.range l.length).map f, Src.ofSlice w hk ad l.length C _ (by simp) (fun j u hu => ?_) (fun u hu => ?_), fun i hi => ?_⟩
    · have hj : j < l.length := by
        have := (List.getElem?_eq_some_iff.1 hu).1
        simpa using this
      rw [List.getElem?_map, List.getElem?_range hj] at hu
      have : u = f j := by simpa using hu.symm
      rw [this]; exact (hf j hj).1
    · obtain ⟨j, hj, rfl⟩ := List.mem_map.1 hu
      exact byteR_one w _ _ (hf j (List.mem_range.1 hj)).2
    · have := (hf i hi).2
      rw [List.getElem?_map, List.getElem?_range hi]
      exact ⟨by rw [← this.1]; rfl, this.2⟩
/-- a string's bytes -/
def strB (s : ByteArray) : List Nat := s.data.toList.map UInt8.toNat
theorem strB_len (s : ByteArray) : (strB s).length = s.size := by
  unfold strB
  rw [List.length_map, Array.length_toList]
  rfl
theorem strB_bd {s : ByteArray} : ∀ x ∈ strB s, x < 256 := by
  intro x hx
  obtain ⟨b, _, rfl⟩ := List.mem_map.1 hx
  exact b.toNat_lt
theorem BSrc.ofString {P : Program} {tx : TypeId} (w : World) (hk : P.underlying tx = some .string) (s : ByteArray) : BSrc P tx (.string s) (strB s) w := by
  refine ⟨byteCells s, by rw [strB_len]; exact Src.ofString w hk s, fun i hi => ?_⟩
  have hi' : i < s.data.toList.length := by simpa [strB] using hi
  have e : (strB s)[i] = (s.data.toList[i]).toNat := by simp [strB]
  rw [e]
  unfold byteCells
  rw [List.getElem?_map, List.getElem?_eq_getElem hi']
  exact ⟨rfl, UInt8.toNat_lt _⟩
theorem run_append_src {P : Program} (w : World) (base : Nat) (t tx ty e : TypeId) (ht : P.underlying t = some (.slice e)) (hinfo : (P.info? e).map (fun i => (i.zero, i.size, i.bytes)) = some (some (.int .u8 0), 1, 1))
    (v : Value) (L : List Nat) (hown : Built ByteR w base e v L) (x : Value) (l : List Nat) (hx : BSrc P tx x l w)
    (hbytes : L.length + l.length + (L.length + l.length) / 4 + 192 ≤ 281474976710656) (hbase : base ≤ w.heap.size) :
    ∃ v' w', (Builtin.append_ #[t, tx] ty #[v, x]).run P w = .ok v' w' ∧ Built ByteR w' base e v' (L ++ l) ∧ w.grownBy w' v.ownBlock ∧ Below base w w' ∧ (v'.ownBlock = v.ownBlock ∨ v'.ownBlock = some w.heap.size) := by
  obtain ⟨i, hi, hz, hz1, hz2⟩ := info_parts hinfo
  obtain ⟨news, hs, hnews⟩ := hx.ex
  have hown0 := hown
  obtain ⟨xs, hrow, hel⟩ := hown
  have hxl : xs.length = L.length := by have := hrow.1; omega
  have hnl : news.length = l.length := by have := hs.newsLen; omega
  have built : ∀ v' w', w'.ownsRow base e 1 v' (L.length + l.length) (xs ++ news) → Built ByteR w' base e v' (L ++ l) := by
    intro v' w' hr
    refine ⟨xs ++ news, by rw [List.length_append]; exact hr, fun j hj => ?_⟩
    by_cases hlt : j < L.length
    · obtain ⟨c, e1, e2⟩ := hel j hlt
      refine ⟨c, by rw [List.getElem?_append_left (by omega)]; exact e1, fun w'' _ => ?_⟩
      rw [List.getElem_append_left hlt]
      exact e2 w (World.grownBy.refl _ _)
    · have hj' : j - L.length < l.length := by simp at hj; omega
      obtain ⟨k1, k2⟩ := hnews _ hj'
      refine ⟨_, by rw [List.getElem?_append_right (by omega), hxl]; exact k1, fun w'' _ => ?_⟩
      rw [List.getElem_append_right (by omega)]
      exact ⟨rfl, k2⟩
  have hs' : Src P i.size tx x l.length news w := by rw [hz1]; exact hs
  have growing : ∀ (bs : Option Addr) (old : Nat), old < L.length + l.length → (Builtin.firstCells i.size L.length (.slice bs L.length old)).run P w.drew = .ok xs.toArray w.drew →
      ∃ v' w', (Builtin.append_ #[t, tx] ty #[.slice bs L.length old, x]).run P w = .ok v' w' ∧ Built ByteR w' base e v' (L ++ l) ∧ (∀ row, w.grownBy w' row) ∧ v'.ownBlock = some w.heap.size := by
    intro bs old ho hf
    have hge := grownCap_ge w (L.length + l.length) old e
    have hcm : grownCap w (L.length + l.length) old e ≤ maxLen := grownCap_le_maxLen w (L.length + l.length) old e (by unfold maxLen; omega)
    have hr := run_append_grow_src (P := P) w t tx ty e i (.int .u8 0) ht hi hz bs L.length old xs hf x l.length news hs' ho (by omega) (growslice_fits_wide ho (by rw [hz2]; omega))
    refine ⟨_, _, hr, built _ _ ⟨by simp [hxl, hnl], .inr ⟨w.heap.size, _, _, rfl, hbase, heap_alloc_new w.drew _, hge, hcm, ?_, ?_⟩⟩, fun row => ⟨rfl, rfl, rfl, by simp, fun k hk _ => Go.heap_alloc_old w.drew _ hk⟩, rfl⟩
    · simp only [Array.size_append, List.size_toArray, size_zeroCells, List.length_append, hxl, hnl]
      show L.length + l.length + (grownCap w (L.length + l.length) old e - (L.length + l.length)) * 1 = grownCap w (L.length + l.length) old e * 1
      omega
    · simp only [Array.toList_append]
      exact List.take_left' (by simp [hxl, hnl])
  rcases hrow.2 with ⟨rfl, h0⟩ | ⟨g, cap, cur, rfl, hbg, hg, hnc, hcm, hcs, htake⟩
  · have hL : L = [] := List.eq_nil_of_length_eq_zero (by omega)
    subst hL
    have hx0 : xs = [] := List.eq_nil_of_length_eq_zero (by simpa using hxl)
    subst hx0
    by_cases hl0 : l.length = 0
    · have hle : l = [] := List.eq_nil_of_length_eq_zero hl0
      subst hle
      have hn0 : news = [] := List.eq_nil_of_length_eq_zero (by simpa using hnl)
      subst hn0
      refine ⟨.slice none 0 0, w, ?_, by rw [List.append_nil]; exact hown0, World.grownBy.refl _ _, Below.refl _ _, .inl rfl⟩
      have q := hs.len
      have q2 := hs.cells
      simp only [List.length_nil] at q q2
      rcases hs.kind with ⟨e', hk⟩ | hk <;> simp [Builtin.append_, run_underlying ht, run_underlying hk, sizeOf, typeInfo, hi, hz1, q, q2]
    · obtain ⟨v', w', hr, hb, hgr, hat⟩ := growing none 0 (by simp; omega) (by simp [Builtin.firstCells])
      exact ⟨v', w', hr, hb, hgr _, (Below.refl _ _).grown (hgr none) hbase (fun k hk => by cases hk), .inr hat⟩
  · by_cases hroom : L.length + l.length ≤ cap
    · have hfit : L.length * 1 + news.length ≤ cur.size := by rw [hnl, hcs]; omega
      have hst := run_storeCells_at P g (L.length * 1) e news 0 cur w hg (by simpa using hfit) hs.one
      simp only [Nat.add_zero] at hst
      have hr : (Builtin.append_ #[t, tx] ty #[.slice (some ⟨g, 0, none⟩) L.length cap, x]).run P w = .ok (.slice (some ⟨g, 0, none⟩) (L.length + l.length) cap) (w.setRow g (cur.toList.take (L.length * 1) ++ news ++ cur.toList.drop (L.length * 1 + news.length)).toArray) := by
        have q := hs.len
        have q2 := hs.cells
        rw [Nat.mul_one] at hst
        rcases hs.kind with ⟨e', hk⟩ | hk <;>
        · simp [Builtin.append_, run_underlying ht, run_underlying hk, sizeOf, typeInfo, hi, hz1, hroom, q, q2, Addr.add_lit]
          rw [hst]
          simp
      have hown' : (w.setRow g (cur.toList.take (L.length * 1) ++ news ++ cur.toList.drop (L.length * 1 + news.length)).toArray).ownsRow base e 1 (.slice (some ⟨g, 0, none⟩) (L.length + l.length) cap) (L.length + l.length) (xs ++ news) := by
        refine ⟨by simp [hxl, hnl], .inr ⟨g, cap, _, rfl, hbg, setRow_heap w g cur _ e _ hg, hroom, hcm, ?_, ?_⟩⟩
        · simp only [List.size_toArray, List.length_append, List.length_take, List.length_drop, Array.length_toList]
          omega
        · rw [htake]
          exact List.take_left' (by simp [hxl, hnl])
      have hgr : w.grownBy (w.setRow g (cur.toList.take (L.length * 1) ++ news ++ cur.toList.drop (L.length * 1 + news.length)).toArray) (Value.ownBlock (.slice (some ⟨g, 0, none⟩) L.length cap)) :=
        ⟨rfl, rfl, rfl, by simp, fun k _ hk => setRow_other w g k _ (fun e => hk (by simp [Value.ownBlock, e]))⟩
      exact ⟨_, _, hr, built _ _ hown', hgr, (Below.refl _ _).grown hgr hbase (fun k hk => (hrow.lt k hk).1), .inl rfl⟩
    · have holds : ∀ j u, xs[j]? = some u → w.cell? ((⟨g, 0, none⟩ : Addr).add j) = some u := hrow.cells (g := g) rfl
      have hfo := run_firstCells_some (P := P) w.drew i.size L.length ⟨g, 0, none⟩ L.length cap xs (by rw [hz1]; omega) (by simpa using holds)
      obtain ⟨v', w', hr, hb, hgr, hat⟩ := growing (some ⟨g, 0, none⟩) cap (by omega) hfo
      exact ⟨v', w', hr, hb, hgr _, (Below.refl _ _).grown (hgr none) hbase (fun k hk => by cases hk), .inr hat⟩
theorem wpList_append_src {P : Program} (w : World) {ops : Array Oper} {rest : List Oper} {o : Oper} {a : Act} {Q : Exit → Act → World → Prop} (hgd : o.guard = none) (s x : Operand) (t tx : TypeId)
    (ho : o.op = .call { callee := .builtin .append, args := #[s, x], argTypes := #[t, tx] })
    (base : Nat) (e : TypeId) (ht : P.underlying t = some (.slice e)) (hinfo : (P.info? e).map (fun i => (i.zero, i.size, i.bytes)) = some (some (.int .u8 0), 1, 1))
    (v : Value) (L : List Nat) (hs : a.eval s = v) (hown : Built ByteR w base e v L) (xv : Value) (l : List Nat) (hxv : a.eval x = xv) (hx : BSrc P tx xv l w)
    (hbytes : L.length + l.length + (L.length + l.length) / 4 + 192 ≤ 281474976710656) (hbase : base ≤ w.heap.size)
    (h : ∀ v' w', Built ByteR w' base e v' (L ++ l) → w.grownBy w' v.ownBlock → Below base w w' → (v'.ownBlock = v.ownBlock ∨ v'.ownBlock = some w.heap.size) → wpList P ops Q rest (a.put o.dst v') w') : wpList P ops Q (o :: rest) a w := by
  obtain ⟨v', w', hrun, h2, h3, h4, h5⟩ := run_append_src (P := P) w base t tx o.type e ht hinfo v L hown xv l hx hbytes hbase
  exact Lib.wpList_append_run _ hgd s x t tx ho _ _ hs hxv v' w' hrun (h v' w' h2 h3 h4 h5)
theorem step_append_src {P : Program} (w : World) {ops : Array Oper} {o : Oper} {a : Act} {K : Act → World → Prop} {Q : Exit → Act → World → Prop} {E : Prop} (hgd : o.guard = none) (s x : Operand) (t tx : TypeId)
    (ho : o.op = .call { callee := .builtin .append, args := #[s, x], argTypes := #[t, tx] })
    (base : Nat) (e : TypeId) (ht : P.underlying t = some (.slice e)) (hinfo : (P.info? e).map (fun i => (i.zero, i.size, i.bytes)) = some (some (.int .u8 0), 1, 1))
    (v : Value) (L : List Nat) (hs : a.eval s = v) (hown : Built ByteR w base e v L) (xv : Value) (l : List Nat) (hxv : a.eval x = xv) (hx : BSrc P tx xv l w)
    (hbytes : L.length + l.length + (L.length + l.length) / 4 + 192 ≤ 281474976710656) (hbase : base ≤ w.heap.size)
    (h : ∀ v' w', Built ByteR w' base e v' (L ++ l) → w.grownBy w' v.ownBlock → Below base w w' → (v'.ownBlock = v.ownBlock ∨ v'.ownBlock = some w.heap.size) → K (a.put o.dst v') w') :
    if Region.wanted o (yielded ops a.tmps) = true then Oper.wp P o a w K Q else E := by
  rw [if_pos (show Region.wanted o (yielded ops a.tmps) = true by simp [Region.wanted, hgd])]
  obtain ⟨v', w', hrun, h2, h3, h4, h5⟩ := run_append_src (P := P) w base t tx o.type e ht hinfo v L hown xv l hx hbytes hbase
  exact Lib.wp_append_run _ s x t tx ho _ _ hs hxv v' w' hrun (h v' w' h2 h3 h4 h5)
/-- .. the same behind a guard -/
theorem step_append_srcG {P : Program} (w : World) {ops : Array Oper} {o : Oper} {a : Act} {K : Act → World → Prop} {Q : Exit → Act → World → Prop} {E : Prop} (hgd : Region.wanted o (yielded ops a.tmps) = true) (s x : Operand) (t tx : TypeId)
    (ho : o.op = .call { callee := .builtin .append, args := #[s, x], argTypes := #[t, tx] })
    (base : Nat) (e : TypeId) (ht : P.underlying t = some (.slice e)) (hinfo : (P.info? e).map (fun i => (i.zero, i.size, i.bytes)) = some (some (.int .u8 0), 1, 1))
    (v : Value) (L : List Nat) (hs : a.eval s = v) (hown : Built ByteR w base e v L) (xv : Value) (l : List Nat) (hxv : a.eval x = xv) (hx : BSrc P tx xv l w)
    (hbytes : L.length + l.length + (L.length + l.length) / 4 + 192 ≤ 281474976710656) (hbase : base ≤ w.heap.size)
    (h : ∀ v' w', Built ByteR w' base e v' (L ++ l) → w.grownBy w' v.ownBlock → Below base w w' → (v'.ownBlock = v.ownBlock ∨ v'.ownBlock = some w.heap.size) → K (a.put o.dst v') w') :
    if Region.wanted o (yielded ops a.tmps) = true then Oper.wp P o a w K Q else E := by
  rw [if_pos hgd]
  obtain ⟨v', w', hrun, h2, h3, h4, h5⟩ := run_append_src (P := P) w base t tx o.type e ht hinfo v L hown xv l hx hbytes hbase
  exact Lib.wp_append_run _ s x t tx ho _ _ hs hxv v' w' hrun (h v' w' h2 h3 h4 h5)
end Go.Mem
