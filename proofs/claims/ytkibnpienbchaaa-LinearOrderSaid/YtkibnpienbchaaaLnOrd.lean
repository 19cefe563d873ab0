/- LinearOrder, its plain part, and what holds while it makes its calls. -/
import Derived.Test.YtkibnpienbchaaaLnAns
import Derived.Test.YtkibnpienbchaaaLnNone
import Derived.Deep.LoopGhost
namespace Go.Proofs.Ytkibnpienbchaaa.Lnr
set_option linter.unusedVariables false
open Go.ChangeShapes Go.WideShapes Go.ChangeAt Go.RowKit
open Go.Mem Ln
def kOf (x : Nat) : ByteArray := strOf [97 + x % 3]
/-- v := string([]byte{x}) -/
theorem byte_string (w : World) (x : Nat) (hx : x < 256) : (convert 22 9 (.slice (some ⟨w.heap.size, 0, none⟩) 1 1)).run Try.prog (w.alloc (.cells #[.int .u8 x] 5)) = .ok (.string (strOf [x])) (w.alloc (.cells #[.int .u8 x] 5)) :=
  bytes_string (byte1 w x hx (0, 0))
def byteList (s : ByteArray) : List Nat := s.data.toList.map UInt8.toNat
theorem byteList_len (s : ByteArray) : (byteList s).length = s.size := by simp [byteList]
theorem byteList_lt (s : ByteArray) : ∀ x ∈ byteList s, x < 256 := by
  intro x hx
  obtain ⟨y, _, rfl⟩ := List.mem_map.1 hx
  exact y.toNat_lt
theorem byteList_of {l : List Nat} (h : ∀ x ∈ l, x < 256) : byteList (strOf l) = l := by
  unfold byteList strOf
  rw [strOfNums_data, List.map_map, List.map_map]
  conv => rhs; rw [← List.map_id l]
  refine List.map_congr_left fun x hx => ?_
  have := h x hx
  simp only [Function.comp, Int.toNat_natCast, id]
  rw [UInt8.toNat_ofNat']
  omega
/-- []byte(s) -/
theorem string_bytes (w : World) (s : ByteArray) (hs : s.size ≤ 1000) :
    ∃ C w', (convert 9 22 (.string s)).run Try.prog w = .ok (.slice (some ⟨w.heap.size, 0, none⟩) s.size C) w' ∧ Bytes w' (.slice (some ⟨w.heap.size, 0, none⟩) s.size C) (byteList s) ∧ Below w.heap.size w w' ∧ w'.heap.size = w.heap.size + 1 := by
  have h := run_bytes_of_string (P := Try.prog) w 9 22 5 s Try.underlying9 Try.underlying22 Try.underlying5
  have hge := grownCap_ge w s.size 0 5
  have hle := grownCap_le_maxLen w s.size 0 5 (by unfold maxLen; omega)
  generalize grownCap w s.size 0 5 = C at h hge hle
  refine ⟨C, _, h, ⟨_, s.size, C, rfl, (byteList_len s).symm, hge, hle, (fun e => by cases e), fun i hi => ⟨w.heap.size, 0, .int .u8 ((byteList s)[i] : Nat), rfl, ?_, rfl, byteList_lt _ _ (List.getElem_mem hi)⟩⟩, ?_, by simp⟩
  · have hb : (w.drew.alloc (.cells (bytesRow s C) 5 ((bytesRow s C).size, (bytesRow s C).size + 1))).heap[w.heap.size]? = some (.cells (bytesRow s C) 5 ((bytesRow s C).size, (bytesRow s C).size + 1)) := by
      show (w.heap.push _)[w.heap.size]? = _
      simp
    have hi2 : i < s.size := by rw [byteList_len] at hi; exact hi
    have hi3 : i < s.data.size := hi2
    unfold World.cell?
    dsimp only
    rw [hb]
    unfold bytesRow
    dsimp only
    rw [Array.getElem?_append_left (by simpa using hi3)]
    simp [byteList]
    exact ⟨s.data[i], Array.getElem?_eq_getElem hi3, rfl⟩
  · exact ((Below.refl w.heap.size w).drew).alloc (Nat.le_refl _) _
theorem inIt_of {c : Cl} (h1 : c.fr ≤ c.mo) (h2 : c.mo ≤ c.to) : inIt c = true := by unfold inIt; simp [h1, h2]
theorem bytes_keep {w w' : World} {g n C : Nat} {l : List Nat} (h : Bytes w (.slice (some ⟨g, 0, none⟩) n C) l) (e : w'.heap[g]? = w.heap[g]?) : Bytes w' (.slice (some ⟨g, 0, none⟩) n C) l := by
  obtain ⟨A', n', C', q1, q2, q3, q4, q5, q6⟩ := h
  cases q1
  refine ⟨_, _, _, rfl, q2, q3, q4, q5, fun i hi => ?_⟩
  obtain ⟨b, o, c, e1, e2, e3⟩ := q6 i hi
  cases e1
  exact ⟨_, _, c, rfl, (World.cell?_of_block (w := w) (a := ⟨g, 0 + i, none⟩) e).trans e2, e3⟩
/-- a box is written over, whole -/
theorem box_put {w : World} {g : Nat} {f : Nat → Value} (h : w.rowIs g TCall 10 f) (v0 v1 v2 v3 v4 v5 v6 v7 v8 v9 : Value) :
    ∃ w', ((((((((((w.setCell ⟨g, 0, none⟩ v0).setCell ⟨g, 1, none⟩ v1).setCell ⟨g, 2, none⟩ v2).setCell ⟨g, 3, none⟩ v3).setCell ⟨g, 4, none⟩ v4).setCell ⟨g, 5, none⟩ v5).setCell ⟨g, 6, none⟩ v6).setCell ⟨g, 7, none⟩ v7).setCell ⟨g, 8, none⟩ v8).setCell ⟨g, 9, none⟩ v9) = w' ∧ w'.rowIs g TCall 10 (fun j => #[v0, v1, v2, v3, v4, v5, v6, v7, v8, v9].getD j undef) ∧ Turned (fun y => y = g) w w' ∧ w'.heap.size = w.heap.size := by
  refine ⟨_, rfl, ?_, ?_, by simp [World.setCell]⟩
  · refine (((((((((((h.set 0 v0).set 1 v1).set 2 v2).set 3 v3).set 4 v4).set 5 v5).set 6 v6).set 7 v7).set 8 v8).set 9 v9)).congr fun i hi => ?_
    match i, hi with
    | 0, _ => rfl
    | 1, _ => rfl
    | 2, _ => rfl
    | 3, _ => rfl
    | 4, _ => rfl
    | 5, _ => rfl
    | 6, _ => rfl
    | 7, _ => rfl
    | 8, _ => rfl
    | 9, _ => rfl
  · have st : ∀ (w : World) (j : Nat) (v : Value), Turned (fun y => y = g) w (w.setCell ⟨g, j, none⟩ v) := fun w j v => Turned.set (F := fun y => y = g) v rfl
    exact ((((((((((st _ _ _).trans (st _ _ _) (Grown.refl _ _)).trans (st _ _ _) (Grown.refl _ _)).trans (st _ _ _) (Grown.refl _ _)).trans (st _ _ _) (Grown.refl _ _)).trans (st _ _ _) (Grown.refl _ _)).trans (st _ _ _) (Grown.refl _ _)).trans (st _ _ _) (Grown.refl _ _)).trans (st _ _ _) (Grown.refl _ _)).trans (st _ _ _) (Grown.refl _ _))
/-- what the law's own map has: of each key the data of its last Put -/
def lastOf (m : Mp) : ByteArray → Option Value := fun s => (m s).map (fun x => Value.string (strOf x.data))
/-- when call i is -/
def Tim (i : Nat) (x : Cl) : Prop := x.fr = 3 * (i : Int) + 1 ∧ x.mo = 3 * (i : Int) + 2 ∧ x.to = 3 * (i : Int) + 3
/-- in the midst of the law: its first calls -/
structure OrMid (W : World) (B b : Nat) (v : Value) (i : Nat) (L : List Cl) (m : Mp) (K : Nat → Prop) (w : World) : Prop where
  row : Row w B TCall v L
  len : L.length = i
  map : MapV w b i (lastOf m)
  eq : ∀ S, goes noMap (L ++ S) = goes m S
  tim : ∀ j (h : j < L.length), Tim j L[j]
  ok : On K w (fun w' => ∀ x ∈ L, ClP w' x)
  kk : ∀ y, K y → y < w.heap.size ∧ y ≠ b ∧ v.ownBlock ≠ some y
  vb : v.ownBlock ≠ some b
  bB : B ≤ b
  val : ∀ s x, m s = some x → ∃ j, j < 20 ∧ x.data = [48 + j]
  bel : Below B W w
theorem OrMid.below {W : World} {B b : Nat} {v : Value} {i : Nat} {L : List Cl} {m : Mp} {K : Nat → Prop} {w w' : World} (h : OrMid W B b v i L m K w) (hB : B ≤ w.heap.size) (hb : Below w.heap.size w w') : OrMid W B b v i L m K w' :=
  ⟨h.row.below hb, h.len, h.map.below hb, h.eq, h.tim, h.ok.turned (Turned.of_below (fun _ => False) hb) (fun _ q => q.elim), fun y q => ⟨Nat.lt_of_lt_of_le (h.kk y q).1 hb.size, (h.kk y q).2⟩, h.vb, h.bB, h.val, h.bel.trans (hb.mono hB)⟩
/-- one call more, that was right: the map is the next one's, the row has it, its parts lie in block g -/
theorem OrMid.more {W : World} {B b : Nat} {v v' : Value} {i : Nat} {L : List Cl} {m : Mp} {K : Nat → Prop} {w w1 w2 w' : World} {x : Cl} {g : Nat} (h : OrMid W B b v i L m K w) (hB : B ≤ w.heap.size) (h1 : Below w.heap.size w w1)
    (hm : MapV w2 b (i + 1) (lastOf (next m x))) (ht : Turned (fun y => y = b) w1 w2) (hrow : Row w' B TCall v' (L ++ [x])) (hg : Turned (fun y => v.ownBlock = some y) w2 w') (hat : v'.ownBlock = v.ownBlock ∨ ∃ z, v'.ownBlock = some z ∧ w2.heap.size ≤ z)
    (hin : inIt x = true) (hdo : does m x = true) (hti : Tim i x) (hx : On (fun y => y = g) w1 (fun w' => ClP w' x)) (hgn : w.heap.size ≤ g) (hgl : g < w1.heap.size) (hv : ∀ s y, next m x s = some y → ∃ j, j < 20 ∧ y.data = [48 + j]) :
    OrMid W B b v' (i + 1) (L ++ [x]) (next m x) (fun y => K y ∨ y = g) w' := by
  have hbl := h.map.lt
  have s1 := h1.size
  have hgb : g ≠ b := by omega
  have hvl := h.row.lt
  have hgv : v.ownBlock ≠ some g := fun q => by have := (hvl g q).2; omega
  have hmb := hm.lt
  refine ⟨hrow, by simp [h.len], hm.turned hg h.vb, fun S => ?_, fun j hj => ?_, ?_, fun y q => ?_, ?_, h.bB, hv, ?_⟩
  · rw [List.append_assoc, h.eq]
    show (inIt x && does m x && goes (next m x) S) = _
    rw [hin, hdo]; rfl
  · by_cases e : j < L.length
    · rw [List.getElem_append_left e]; exact h.tim j e
    · have hj' : j = L.length := by simp at hj; omega
      subst hj'
      rw [List.getElem_append_right (Nat.le_refl _)]
      simp only [Nat.sub_self, List.getElem_cons_zero]
      rw [h.len]
      exact hti
  · intro w3 t y hy
    have t0 : Turned (fun y => ¬ (K y ∨ y = g)) w1 w3 := ((ht.mono (F' := fun y => ¬ (K y ∨ y = g)) fun y q z => by
      subst q
      rcases z with z | z
      · exact (h.kk _ z).2.1 rfl
      · exact hgb z.symm).trans (hg.mono (F' := fun y => ¬ (K y ∨ y = g)) fun y q z => by
      rcases z with z | z
      · exact (h.kk _ z).2.2 q
      · subst z; exact hgv q) (Grown.refl _ _)).trans t (Grown.refl _ _)
    rcases List.mem_append.1 hy with q | q
    · exact (h.ok.turned (Turned.of_below (fun _ => False) h1) (fun _ q => q.elim)) w3 (t0.mono fun y z k => z (.inl k)) y q
    · rw [List.mem_singleton.1 q]
      exact hx w3 (t0.mono fun y z k => z (.inr k))
  · have hs : w1.heap.size ≤ w'.heap.size := Nat.le_trans ht.size hg.size
    rcases q with q | q
    · refine ⟨by have := (h.kk y q).1; omega, (h.kk y q).2.1, fun z => ?_⟩
      rcases hat with e | ⟨u, e, hu⟩
      · exact (h.kk y q).2.2 (e ▸ z)
      · rw [e] at z
        cases z
        have := (h.kk _ q).1
        have := ht.size
        omega
    · subst q
      refine ⟨by omega, hgb, fun z => ?_⟩
      rcases hat with e | ⟨u, e, hu⟩
      · exact hgv (e ▸ z)
      · rw [e] at z
        cases z
        have := ht.size
        omega
  · intro z
    rcases hat with e | ⟨u, e, hu⟩
    · exact h.vb (e ▸ z)
    · rw [e] at z
      cases z
      omega
  · refine (h.bel.trans (h1.mono hB)).trans ((ht.below (B := B) (fun y q => by rw [q]; exact h.bB) (by omega)).trans (hg.below (fun y q => (hvl y q).1) (by have := ht.size; omega)))
end Go.Proofs.Ytkibnpienbchaaa.Lnr
