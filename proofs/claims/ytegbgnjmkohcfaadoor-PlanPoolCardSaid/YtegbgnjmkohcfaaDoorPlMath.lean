/- What the tables of layer 17's laws have, plain. No program is named here. -/
import Derived.Test.YtegbgnjmkohcfaaDoorTbStp
import Derived.Test.YtegbgnjmkohcfaaDoorQRkM
namespace Go.Proofs.YtegbgnjmkohcfaaDoor.Pl
set_option linter.unusedVariables false
open Go Go.Mem Kl Tb Rk
def key (i : Nat) : ByteArray := ⟨#[UInt8.ofNat (97 + i)]⟩
theorem key_list (i : Nat) : (key i).toList = [UInt8.ofNat (97 + i)] := by rw [ByteArray.toList_eq]; rfl
theorem key_lt {i j : Nat} (h : i < j) (hj : j < 100) : lt (key i).toList (key j).toList = true := by
  rw [key_list, key_list, lt_iff]
  left
  rw [UInt8.toNat_ofNat', UInt8.toNat_ofNat']
  omega
def sid (i : Nat) : Int := 16 * ((i : Int) + 1)
/-- where the law has the i-th stripe -/
def atFirst (t : Nat) : List Int := [(t : Int) % 12, ((t : Int) + 1) % 12, ((t : Int) + 2) % 12]
def locs (st : List Int) (i t : Nat) : List Int := if tgtOk st 3 = true ∧ 128 ≤ t then tgt (sid i) st 3 else atFirst t
def stp (st : List Int) (i t : Nat) : StpD := ⟨sid i, 1, locs st i t⟩
def obj (st : List Int) (i t : Nat) : ObjD := ⟨key i, (i : Int) + 1, 16, [stp st i t]⟩
def objs (st : List Int) (ts : List Nat) (k : Nat) : List ObjD := (List.range k).map fun i => obj st i (ts.getD i 0)
def stps (st : List Int) (ts : List Nat) (k : Nat) : List StpD := (List.range k).map fun i => stp st i (ts.getD i 0)
def ids (k : Nat) : List Int := (List.range k).map sid
/-- the table behind k objects; x the drives' states, of epoch ep -/
def tabOf (st : List Int) (ts : List Nat) (k : Nat) (x : List Int) (ep : Int) : TabD := ⟨2, 3, objs st ts k, x, ep, (k : Int)⟩
def recP (ep : Int) (x : List Int) : RecD := ⟨4, ep, 0, ⟨#[]⟩, [], [], x⟩
def recO (st : List Int) (i t : Nat) : RecD := ⟨1, (i : Int) + 1, 16, key i, [stp st i t], [], []⟩
theorem objs_succ (st : List Int) (ts : List Nat) (k : Nat) : objs st ts (k + 1) = objs st ts k ++ [obj st k (ts.getD k 0)] := by unfold objs; rw [List.range_succ, List.map_append]; rfl
theorem stps_succ (st : List Int) (ts : List Nat) (k : Nat) : stps st ts (k + 1) = stps st ts k ++ [stp st k (ts.getD k 0)] := by unfold stps; rw [List.range_succ, List.map_append]; rfl
theorem ids_succ (k : Nat) : ids (k + 1) = ids k ++ [sid k] := by unfold ids; rw [List.range_succ, List.map_append]; rfl
theorem ids_len (k : Nat) : (ids k).length = k := by simp [ids]
theorem objs_len (st : List Int) (ts : List Nat) (k : Nat) : (objs st ts k).length = k := by simp [objs]
theorem stps_len (st : List Int) (ts : List Nat) (k : Nat) : (stps st ts k).length = k := by simp [stps]
theorem ids_get {k i : Nat} (h : i < (ids k).length) : (ids k)[i] = sid i := by
  have : (ids k)[i]? = some (sid i) := by
    rw [ids_len] at h
    show ((List.range k).map sid)[i]? = _
    rw [List.getElem?_map, List.getElem?_range h]
    rfl
  rw [List.getElem?_eq_getElem h] at this
  exact Option.some.inj this
theorem stps_get {st : List Int} {ts : List Nat} {k i : Nat} (h : i < (stps st ts k).length) : (stps st ts k)[i] = stp st i (ts.getD i 0) := by
  have : (stps st ts k)[i]? = some (stp st i (ts.getD i 0)) := by
    rw [stps_len] at h
    show ((List.range k).map fun i => stp st i (ts.getD i 0))[i]? = _
    rw [List.getElem?_map, List.getElem?_range h]
    rfl
  rw [List.getElem?_eq_getElem h] at this
  exact Option.some.inj this
theorem stps_take (st : List Int) (ts : List Nat) {k i : Nat} (h : i ≤ k) : (stps st ts k).take i = stps st ts i := by
  unfold stps
  rw [← List.map_take, List.take_range, Nat.min_eq_left h]
theorem sid_i64 {i : Nat} (h : i ≤ 1000) : I64 (sid i) := by unfold I64 sid; omega
theorem sid_inj {i j : Nat} (h : sid i = sid j) : i = j := by unfold sid at h; omega
theorem insOf_nodup (l : List Int) : (insOf l).Nodup := insFrom_nodup l 0
theorem ord_nodup (s : Int) (l : List Int) : (ord s (insOf l)).Nodup := (ord_is s (insOf l)).1.nodup_iff.2 (insOf_nodup l)
theorem tgt_mem {s : Int} {l : List Int} {n x : Int} (h : x ∈ tgt s l n) : 0 ≤ x ∧ x < (l.length : Int) := by
  unfold tgt at h
  split at h
  · have h1 := List.mem_of_mem_take h
    rw [ord_mem, insOf_mem] at h1
    obtain ⟨j, hj, _, e⟩ := h1
    omega
  · cases h
theorem tgt_nodup (s : Int) (l : List Int) (n : Int) : (tgt s l n).Nodup := by
  unfold tgt
  split
  · exact (ord_nodup s l).sublist (List.take_sublist _ _)
  · exact List.nodup_nil
theorem first_ok (t : Nat) : (∀ x ∈ atFirst t, 0 ≤ x ∧ x ≤ 11) ∧ (atFirst t).Nodup := by
  unfold atFirst
  refine ⟨fun x hx => ?_, ?_⟩
  · simp only [List.mem_cons, List.not_mem_nil, or_false] at hx
    omega
  · simp only [List.nodup_cons, List.mem_cons, List.not_mem_nil, or_false, not_or, not_false_iff, List.nodup_nil, and_true]
    omega
theorem locs_ok {st : List Int} (h : st.length ≤ 12) (i t : Nat) : (locs st i t).length = 3 ∧ (∀ x ∈ locs st i t, 0 ≤ x ∧ x ≤ 11) ∧ (locs st i t).Nodup := by
  unfold locs
  split
  · rename_i hc
    refine ⟨by rw [tgt_len hc.1]; rfl, fun x hx => ?_, tgt_nodup _ _ _⟩
    have := tgt_mem hx
    omega
  · exact ⟨rfl, first_ok t⟩
theorem stp_ok {st : List Int} (h : st.length ≤ 12) (i t : Nat) : StpOk 3 (stp st i t) := by
  obtain ⟨h1, h2, h3⟩ := locs_ok h i t
  exact ⟨(by decide : (0 : Int) ≤ 1), (by decide : (1 : Int) ≤ 1073741824), by rw [show (stp st i t).locs = locs st i t from rfl, h1]; rfl, h2, h3⟩
theorem obj_ok {st : List Int} (h : st.length ≤ 12) {i : Nat} (hi : i < 1000) (t : Nat) : ObjOk 2 3 (obj st i t) := by
  refine ⟨Nat.le_refl 1, (by decide : 1 ≤ 16), by show (1 : Int) ≤ (i : Int) + 1; omega, by show (i : Int) + 1 ≤ 33554432; omega, (by decide : (0 : Int) ≤ 16), (by decide : (16 : Int) ≤ 96), by show ((1 : Nat) : Int) = nStp 2 16; decide, ⟨rfl, trivial⟩, fun s hs => ?_⟩
  rw [List.mem_singleton.1 hs]
  exact stp_ok h i t
theorem objs_mem {st : List Int} {ts : List Nat} {k : Nat} {o : ObjD} (h : o ∈ objs st ts k) : ∃ i, i < k ∧ o = obj st i (ts.getD i 0) := by
  obtain ⟨i, hi, rfl⟩ := List.mem_map.1 h
  exact ⟨i, List.mem_range.1 hi, rfl⟩
theorem stps_mem {st : List Int} {ts : List Nat} {k : Nat} {s : StpD} : s ∈ stps st ts k ↔ ∃ i, i < k ∧ s = stp st i (ts.getD i 0) := by
  unfold stps
  rw [List.mem_map]
  constructor
  · rintro ⟨i, hi, rfl⟩; exact ⟨i, List.mem_range.1 hi, rfl⟩
  · rintro ⟨i, hi, rfl⟩; exact ⟨i, List.mem_range.2 hi, rfl⟩
theorem put_last {x : ObjD} : ∀ {L : List ObjD}, (∀ y ∈ L, lt (Tb.keyOf y) (Tb.keyOf x) = true) → put Tb.keyOf x L = L ++ [x]
  | [], _ => rfl
  | a :: L, h => by
    unfold put
    rw [if_pos (h a (by simp)), put_last fun y hy => h y (by simp [hy])]
    rfl
theorem put_step {st : List Int} (h : st.length ≤ 12) (ts : List Nat) {k : Nat} (hk : k < 99) (x : List Int) (ep : Int) : apply (tabOf st ts k x ep) (recO st k (ts.getD k 0)) = some (tabOf st ts (k + 1) x ep) := by
  have h1 : ObjOk 2 3 (putObj (recO st k (ts.getD k 0))) := obj_ok h (by omega) _
  have h2 : ∀ y ∈ (tabOf st ts k x ep).objs, y.id ≠ (recO st k (ts.getD k 0)).id := fun y hy => by
    obtain ⟨i, hi, rfl⟩ := objs_mem hy
    show (i : Int) + 1 ≠ (k : Int) + 1
    omega
  have h3 : put Tb.keyOf (putObj (recO st k (ts.getD k 0))) (objs st ts k) = objs st ts (k + 1) := by
    rw [objs_succ]
    refine put_last fun y hy => ?_
    obtain ⟨i, hi, rfl⟩ := objs_mem hy
    exact key_lt hi (by omega)
  unfold apply
  rw [if_pos (show (recO st k (ts.getD k 0)).kind = 1 from rfl), if_pos ⟨h1, h2⟩]
  show some (⟨2, 3, put Tb.keyOf (putObj (recO st k (ts.getD k 0))) (objs st ts k), x, ep, maxZ (k : Int) ((k : Int) + 1)⟩ : TabD) = _
  rw [h3, show maxZ (k : Int) ((k : Int) + 1) = ((k + 1 : Nat) : Int) by unfold maxZ; split <;> omega]
  rfl
theorem tab_ok {st : List Int} (h : st.length ≤ 12) (ts : List Nat) {k : Nat} (hk : k ≤ 99) {x : List Int} (hx : DrvOk x) {ep : Int} (e0 : 0 ≤ ep) (e1 : ep ≤ 1073741824) : (tabOf st ts k x ep).Ok := by
  refine ⟨(by decide : (1 : Int) ≤ 2), ⟨fun o ho => ?_, ?_, ?_⟩, by show (0 : Int) ≤ (k : Int); omega, by show (k : Int) ≤ 33554432; omega, e0, e1, hx⟩
  · obtain ⟨i, hi, rfl⟩ := objs_mem ho
    exact ⟨obj_ok h (by omega) _, by show (i : Int) + 1 ≤ (k : Int); omega⟩
  · show ((List.range k).map fun i => obj st i (ts.getD i 0)).Pairwise _
    rw [List.pairwise_map]
    refine List.Pairwise.imp_of_mem (R := fun a b => a < b) (fun {a b} _ hb hab => ?_) (List.pairwise_lt_range)
    exact key_lt hab (by have := List.mem_range.1 hb; omega)
  · show (((List.range k).map fun i => obj st i (ts.getD i 0)).map ObjD.id).Nodup
    rw [List.map_map]
    unfold List.Nodup
    rw [List.pairwise_map]
    refine List.Pairwise.imp (R := fun a b => a < b) (fun {a b} hab => ?_) (List.pairwise_lt_range)
    show (a : Int) + 1 ≠ (b : Int) + 1
    omega
theorem empty_is (st : List Int) (ts : List Nat) : Tb.empty 2 3 = tabOf st ts 0 [] 0 := rfl
theorem pool_step (st : List Int) (ts : List Nat) (k : Nat) (x : List Int) (ep : Int) (y : List Int) (n : Int) :
    apply (tabOf st ts k x ep) (recP n y) = if n = ep + 1 ∧ n ≤ 1073741824 ∧ DrvOk y ∧ x.length ≤ y.length then some (tabOf st ts k y n) else none := by
  unfold apply
  rw [if_neg (show ¬ (recP n y).kind = 1 from (by decide : ¬ (4 : Int) = 1)), if_neg (show ¬ (recP n y).kind = 2 from (by decide : ¬ (4 : Int) = 2)), if_neg (show ¬ (recP n y).kind = 3 from (by decide : ¬ (4 : Int) = 3)), if_pos (show (recP n y).kind = 4 from rfl)]
  rfl
theorem stripes_of (st : List Int) (ts : List Nat) (x : List Int) (ep : Int) : ∀ k, stripes (tabOf st ts k x ep) = stps st ts k
  | 0 => rfl
  | k + 1 => by
    have ih := stripes_of st ts x ep k
    show (objs st ts (k + 1)).flatMap ObjD.stripes = _
    rw [objs_succ, List.flatMap_append, stps_succ]
    rw [show (objs st ts k).flatMap ObjD.stripes = stps st ts k from ih]
    rfl
theorem stripe_at {st : List Int} {ts : List Nat} {k : Nat} {x : List Int} {ep : Int} (hok : (tabOf st ts k x ep).Ok) {i : Nat} (hi : i < k) : stripe (tabOf st ts k x ep) (sid i) = some (stp st i (ts.getD i 0)) := by
  have := stripe_self hok (s := stp st i (ts.getD i 0)) (by rw [stripes_of]; exact stps_mem.2 ⟨i, hi, rfl⟩)
  exact this
theorem stripe_five (st : List Int) (ts : List Nat) (k : Nat) (x : List Int) (ep : Int) : stripe (tabOf st ts k x ep) 5 = none := by
  cases h : stripe (tabOf st ts k x ep) 5 with
  | none => rfl
  | some s =>
    obtain ⟨h1, h2⟩ := stripe_some h
    rw [stripes_of] at h1
    obtain ⟨i, _, rfl⟩ := stps_mem.1 h1
    exfalso
    have h3 : sid i = 5 := h2
    unfold sid at h3
    omega
theorem rowS_of {st : List Int} {ts : List Nat} {k : Nat} {x : List Int} {ep : Int} (hok : (tabOf st ts k x ep).Ok) : rowS (tabOf st ts k x ep) = stps st ts k := by
  refine (rowS_is hok ?_ (by rw [stripes_of])).symm
  show ((List.range k).map fun i => stp st i (ts.getD i 0)).Pairwise _
  rw [List.pairwise_map]
  refine List.Pairwise.imp (R := fun a b => a < b) (fun {a b} hab => ?_) (List.pairwise_lt_range)
  show sid a < sid b
  unfold sid
  omega
/-- a stripe has a target that is not where it is -/
def off (x : List Int) (n : Int) (s : StpD) : Bool := tgtOk x n && !decide (tgt s.id x n = s.locs)
def wrong (x : List Int) (n : Int) (l : List StpD) : List Int := (l.filter (off x n)).map StpD.id
theorem wrong_snoc (x : List Int) (n : Int) (l : List StpD) (s : StpD) : wrong x n (l ++ [s]) = wrong x n l ++ (if off x n s = true then [s.id] else []) := by
  unfold wrong
  rw [List.filter_append, List.map_append]
  congr 1
  cases h : off x n s <;> simp [List.filter, h]
theorem wrong_take {x : List Int} {n : Int} {l : List StpD} {i : Nat} (h : i < l.length) : wrong x n (l.take (i + 1)) = wrong x n (l.take i) ++ (if off x n l[i] = true then [l[i].id] else []) := by
  rw [List.take_succ_eq_append_getElem h, wrong_snoc]
theorem wrong_len (x : List Int) (n : Int) (l : List StpD) : (wrong x n l).length ≤ l.length := by
  unfold wrong
  rw [List.length_map]
  exact List.length_filter_le _ _
theorem wrong_mem {st : List Int} {ts : List Nat} {k : Nat} {x : List Int} {n : Int} {i : Nat} (hi : i < k) : sid i ∈ wrong x n (stps st ts k) ↔ off x n (stp st i (ts.getD i 0)) = true := by
  unfold wrong
  rw [List.mem_map]
  constructor
  · rintro ⟨s, hs, e⟩
    obtain ⟨h1, h2⟩ := List.mem_filter.1 hs
    obtain ⟨j, hj, rfl⟩ := stps_mem.1 h1
    have : j = i := sid_inj e
    rw [this] at h2
    exact h2
  · intro h
    exact ⟨_, List.mem_filter.2 ⟨stps_mem.2 ⟨i, hi, rfl⟩, h⟩, rfl⟩
end Go.Proofs.YtegbgnjmkohcfaaDoor.Pl
