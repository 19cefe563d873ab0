/- Records as bytes, plain: what is written, step by step, and what it comes to. No program is named here. -/
import Derived.Test.YtegbgnjmkohcfaaDoorSha
import Derived.Test.YtegbgnjmkohcfaaDoorRecD
import Derived.Test.YtegbgnjmkohcfaaDoorAppSrc
namespace RecM
open Go Go.Mem
structure Out where
  l : List Nat
  bad : Bool
def num (v : Int) (n : Nat) (most : Int) (o : Out) : Out := if v < 0 ∨ most < v then ⟨o.l, true⟩ else ⟨o.l ++ Sha.numB v.toNat n, o.bad⟩
def key (s : ByteArray) (o : Out) : Out := ⟨(num s.size 1 16 o).l ++ strB s, (num s.size 1 16 o).bad⟩
def stepO {α : Type} (f : α → Out → Out) (o : Out) (x : α) : Out := if o.bad = true then o else f x o
def each {α : Type} (f : α → Out → Out) (l : List α) (o : Out) : Out := l.foldl (stepO f) o
def int1 (z : Int) (o : Out) : Out := num z 4 1073741824 o
def ints (l : List Int) (o : Out) : Out := each int1 l (num l.length 1 255 o)
def stp (s : StpD) (o : Out) : Out := ints s.locs (int1 s.ep (int1 s.id o))
def stps (L : List StpD) (o : Out) : Out := each stp L (num L.length 1 255 o)
def obj (x : ObjD) (o : Out) : Out := stps x.stripes (int1 x.size (int1 x.id (key x.key o)))
def objs (L : List ObjD) (o : Out) : Out := each obj L (num L.length 2 65535 o)
def head (r : RecD) (o : Out) : Out := stps r.stripes (key r.key (int1 r.size (int1 r.id (num r.kind 1 5 o))))
def rec (r : RecD) (o : Out) : Out := ints r.drives (objs r.objects (head r o))
def out (r : RecD) : Out := rec r ⟨[], false⟩
def encE (r : RecD) : Int := if r.kind < 1 then 2 else if (out r).bad = true then 2 else if 8192 < (out r).l.length then 4 else 0
def encB (r : RecD) : List Nat := if encE r = 0 then (out r).l else []
/-- what a record has, counted -/
def locsSum (L : List StpD) : Nat := (L.map fun s => s.locs.length).sum
def objSum (L : List ObjD) : Nat := (L.map fun x => x.stripes.length + locsSum x.stripes).sum
def base (r : RecD) : Nat := r.stripes.length + r.objects.length + r.drives.length
def items (r : RecD) : Nat := base r + locsSum r.stripes + objSum r.objects
def small (r : RecD) : Bool := decide (base r ≤ 400) && decide (items r < 4000)
section
variable {α : Type} {f : α → Out → Out}
theorem each_nil (o : Out) : each f [] o = o := rfl
theorem each_cons (x : α) (l : List α) (o : Out) : each f (x :: l) o = each f l (stepO f o x) := rfl
theorem each_snoc (l : List α) (x : α) (o : Out) : each f (l ++ [x]) o = stepO f (each f l o) x := by unfold each; rw [List.foldl_append]; rfl
theorem each_take (l : List α) (o : Out) {k : Nat} (hk : k < l.length) : each f (l.take (k + 1)) o = stepO f (each f (l.take k) o) l[k] := by
  rw [List.take_succ_eq_append_getElem hk, each_snoc]
theorem each_bad {o : Out} (h : o.bad = true) : ∀ l : List α, each f l o = o
  | [] => rfl
  | x :: l => by rw [each_cons, stepO, if_pos h]; exact each_bad h l
theorem each_rest (l : List α) (o : Out) {k : Nat} (h : (each f (l.take k) o).bad = true) : each f l o = each f (l.take k) o := by
  conv => lhs; rw [← List.take_append_drop k l]
  unfold each at h ⊢
  rw [List.foldl_append]
  exact each_bad h _
theorem each_step (l : List α) (o : Out) {k : Nat} (hk : k < l.length) (h : (each f (l.take k) o).bad = false) : each f (l.take (k + 1)) o = f l[k] (each f (l.take k) o) := by
  rw [each_take l o hk, stepO, if_neg (by rw [h]; simp)]
theorem each_all (l : List α) (o : Out) {k : Nat} (hk : l.length ≤ k) : each f (l.take k) o = each f l o := by rw [List.take_of_length_le hk]
end
/-- f writes E, where ok holds; else it says so -/
def Writes (f : Out → Out) (ok : Prop) (E : List Nat) : Prop := ∀ o, ((f o).bad = true ↔ o.bad = true ∨ ¬ ok) ∧ (o.bad = false → ok → f o = ⟨o.l ++ E, false⟩)
theorem Writes.comp {f g : Out → Out} {p q : Prop} {E F : List Nat} (hf : Writes f p E) (hg : Writes g q F) : Writes (fun o => g (f o)) (p ∧ q) (E ++ F) := by
  intro o
  obtain ⟨h1, h2⟩ := hf o
  obtain ⟨k1, k2⟩ := hg (f o)
  refine ⟨?_, fun hb ⟨hp, hq⟩ => ?_⟩
  · rw [k1, h1]
    by_cases hp : p <;> by_cases hq : q <;> simp [hp, hq]
  · have e := h2 hb hp
    show g (f o) = _
    rw [k2 (by rw [e]) hq, e]
    simp [List.append_assoc]
theorem writes_num {v most : Int} {n : Nat} : Writes (num v n most) (0 ≤ v ∧ v ≤ most) (Sha.numB v.toNat n) := by
  intro o
  unfold num
  by_cases h : v < 0 ∨ most < v
  · rw [if_pos h]
    exact ⟨⟨fun _ => .inr (by omega), fun _ => rfl⟩, fun _ q => by omega⟩
  · rw [if_neg h]
    refine ⟨⟨fun q => .inl q, fun q => ?_⟩, fun hb _ => by rw [hb]⟩
    rcases q with q | q
    · exact q
    · omega
def keyE (s : ByteArray) : List Nat := Sha.numB s.size 1 ++ strB s
theorem writes_key {s : ByteArray} : Writes (key s) (s.size ≤ 16) (keyE s) := by
  intro o
  obtain ⟨h1, h2⟩ := writes_num (v := (s.size : Nat)) (most := 16) (n := 1) o
  unfold key
  refine ⟨?_, fun hb hp => ?_⟩
  · show (num s.size 1 16 o).bad = true ↔ _
    rw [h1]
    constructor
    · rintro (q | q)
      · exact .inl q
      · exact .inr (by omega)
    · rintro (q | q)
      · exact .inl q
      · exact .inr (by omega)
  · have e := h2 hb ⟨by omega, by omega⟩
    rw [e, keyE]
    simp [List.append_assoc]
theorem writes_each {α : Type} {f : α → Out → Out} {ok : α → Prop} {E : α → List Nat} (h : ∀ x, Writes (f x) (ok x) (E x)) : ∀ l : List α, Writes (each f l) (∀ x ∈ l, ok x) (l.flatMap E)
  | [] => fun o => ⟨by simp [each_nil], fun hb _ => by simp only [each_nil, List.flatMap_nil, List.append_nil]; rw [← hb]⟩
  | x :: l => by
    have ih := writes_each h l
    intro o
    rw [each_cons]
    obtain ⟨k1, k2⟩ := ih (stepO f o x)
    obtain ⟨h1, h2⟩ := h x o
    unfold stepO at k1 k2 ⊢
    by_cases hb : o.bad = true
    · rw [if_pos hb] at k1 k2 ⊢
      exact ⟨⟨fun _ => .inl hb, fun _ => k1.2 (.inl hb)⟩, fun q => by rw [hb] at q; cases q⟩
    · rw [if_neg hb] at k1 k2 ⊢
      have hb' : o.bad = false := by simpa using hb
      refine ⟨?_, fun _ hall => ?_⟩
      · rw [k1, h1]
        simp only [hb', List.mem_cons, Bool.false_eq_true, false_or, forall_eq_or_imp, Classical.not_and_iff_not_or_not]
      · have hx := hall x (by simp)
        have e := h2 hb' hx
        rw [k2 (by rw [e]) (fun y hy => hall y (by simp [hy])), e]
        simp [List.append_assoc]
def okNum (z : Int) : Prop := 0 ≤ z ∧ z ≤ 1073741824
def numE (z : Int) : List Nat := Sha.numB z.toNat 4
theorem writes_int1 {z : Int} : Writes (int1 z) (okNum z) (numE z) := writes_num
def okInts (l : List Int) : Prop := (0 ≤ ((l.length : Nat) : Int) ∧ ((l.length : Nat) : Int) ≤ 255) ∧ ∀ z ∈ l, okNum z
def intsE (l : List Int) : List Nat := Sha.numB ((l.length : Nat) : Int).toNat 1 ++ l.flatMap numE
theorem writes_ints {l : List Int} : Writes (ints l) (okInts l) (intsE l) := writes_num.comp (writes_each (fun _ => writes_int1) l)
def okStp (s : StpD) : Prop := (okNum s.id ∧ okNum s.ep) ∧ okInts s.locs
def stpE (s : StpD) : List Nat := numE s.id ++ numE s.ep ++ intsE s.locs
theorem writes_stp {s : StpD} : Writes (stp s) (okStp s) (stpE s) := (writes_int1.comp writes_int1).comp writes_ints
def okStps (L : List StpD) : Prop := (0 ≤ ((L.length : Nat) : Int) ∧ ((L.length : Nat) : Int) ≤ 255) ∧ ∀ s ∈ L, okStp s
def stpsE (L : List StpD) : List Nat := Sha.numB ((L.length : Nat) : Int).toNat 1 ++ L.flatMap stpE
theorem writes_stps {L : List StpD} : Writes (stps L) (okStps L) (stpsE L) := writes_num.comp (writes_each (fun _ => writes_stp) L)
def okObj (x : ObjD) : Prop := ((x.key.size ≤ 16 ∧ okNum x.id) ∧ okNum x.size) ∧ okStps x.stripes
def objE (x : ObjD) : List Nat := keyE x.key ++ numE x.id ++ numE x.size ++ stpsE x.stripes
theorem writes_obj {x : ObjD} : Writes (obj x) (okObj x) (objE x) := ((writes_key.comp writes_int1).comp writes_int1).comp writes_stps
def okObjs (L : List ObjD) : Prop := (0 ≤ ((L.length : Nat) : Int) ∧ ((L.length : Nat) : Int) ≤ 65535) ∧ ∀ x ∈ L, okObj x
def objsE (L : List ObjD) : List Nat := Sha.numB ((L.length : Nat) : Int).toNat 2 ++ L.flatMap objE
theorem writes_objs {L : List ObjD} : Writes (objs L) (okObjs L) (objsE L) := writes_num.comp (writes_each (fun _ => writes_obj) L)
def okHead (r : RecD) : Prop := ((((0 ≤ r.kind ∧ r.kind ≤ 5) ∧ okNum r.id) ∧ okNum r.size) ∧ r.key.size ≤ 16) ∧ okStps r.stripes
def headE (r : RecD) : List Nat := Sha.numB r.kind.toNat 1 ++ numE r.id ++ numE r.size ++ keyE r.key ++ stpsE r.stripes
theorem writes_head {r : RecD} : Writes (head r) (okHead r) (headE r) := (((writes_num.comp writes_int1).comp writes_int1).comp writes_key).comp writes_stps
def okRec (r : RecD) : Prop := (okHead r ∧ okObjs r.objects) ∧ okInts r.drives
def recE (r : RecD) : List Nat := headE r ++ objsE r.objects ++ intsE r.drives
theorem writes_rec {r : RecD} : Writes (rec r) (okRec r) (recE r) := (writes_head.comp writes_objs).comp writes_ints
/-- a record fits -/
def Fits (r : RecD) : Prop := 1 ≤ r.kind ∧ okRec r
theorem out_bad {r : RecD} : (out r).bad = true ↔ ¬ okRec r := by
  have := (writes_rec (r := r) ⟨[], false⟩).1
  unfold out
  rw [this]; simp
theorem out_ok {r : RecD} (h : okRec r) : out r = ⟨recE r, false⟩ := by
  have := (writes_rec (r := r) ⟨[], false⟩).2 rfl h
  unfold out
  rw [this]; rfl
theorem encE_zero {r : RecD} : encE r = 0 ↔ Fits r ∧ (recE r).length ≤ 8192 := by
  unfold encE Fits
  by_cases h1 : r.kind < 1
  · rw [if_pos h1]; constructor
    · intro q; omega
    · intro q; omega
  · rw [if_neg h1]
    by_cases h2 : (out r).bad = true
    · rw [if_pos h2]
      rw [out_bad] at h2
      exact ⟨fun q => by omega, fun q => absurd q.1.2 h2⟩
    · rw [if_neg h2]
      have h3 : okRec r := Classical.byContradiction fun q => h2 (out_bad.2 q)
      rw [out_ok h3]
      by_cases h4 : 8192 < (recE r).length
      · rw [if_pos h4]; exact ⟨fun q => by omega, fun q => by omega⟩
      · rw [if_neg h4]; exact ⟨fun _ => ⟨⟨by omega, h3⟩, by omega⟩, fun _ => rfl⟩
theorem encB_ok {r : RecD} (h : encE r = 0) : encB r = recE r := by
  unfold encB
  rw [if_pos h, out_ok (encE_zero.1 h).1.2]
/-! ### how long it gets -/
theorem num_len (v : Int) (n : Nat) (most : Int) (o : Out) : (num v n most o).l.length ≤ o.l.length + n := by
  unfold num
  split
  · show o.l.length ≤ _; omega
  · simp [Sha.numB_len]
theorem key_len (s : ByteArray) (o : Out) : (key s o).l.length ≤ o.l.length + 1 + s.size := by
  have := num_len s.size 1 16 o
  unfold key
  simp only [List.length_append, strB_len]
  omega
theorem each_len {α : Type} {f : α → Out → Out} {c : α → Nat} (h : ∀ x o, (f x o).l.length ≤ o.l.length + c x) : ∀ (l : List α) (o : Out), (each f l o).l.length ≤ o.l.length + (l.map c).sum
  | [], o => by simp [each_nil]
  | x :: l, o => by
    have ih := each_len h l (stepO f o x)
    rw [each_cons]
    have : (stepO f o x).l.length ≤ o.l.length + c x := by
      unfold stepO
      split
      · omega
      · exact h x o
    simp only [List.map_cons, List.sum_cons]
    omega
theorem sum_const {α : Type} (c : Nat) : ∀ l : List α, (l.map fun _ => c).sum = c * l.length
  | [] => rfl
  | _ :: l => by simp only [List.map_cons, List.sum_cons, sum_const c l, List.length_cons, Nat.mul_add]; omega
theorem ints_len (l : List Int) (o : Out) : (ints l o).l.length ≤ o.l.length + 1 + 4 * l.length := by
  have h1 := each_len (f := int1) (c := fun _ => 4) (fun x o => num_len x 4 _ o) l (num l.length 1 255 o)
  have h2 := num_len l.length 1 255 o
  rw [sum_const] at h1
  unfold ints
  omega
theorem stp_len (s : StpD) (o : Out) : (stp s o).l.length ≤ o.l.length + (9 + 4 * s.locs.length) := by
  have h1 := num_len s.id 4 1073741824 o
  have h2 := num_len s.ep 4 1073741824 (int1 s.id o)
  have h3 := ints_len s.locs (int1 s.ep (int1 s.id o))
  unfold stp
  unfold int1 at h2 h3 ⊢
  omega
theorem stp_sum : ∀ L : List StpD, (L.map fun s => 9 + 4 * s.locs.length).sum = 9 * L.length + 4 * locsSum L
  | [] => rfl
  | s :: L => by
    have := stp_sum L
    simp only [locsSum, List.map_cons, List.sum_cons, List.length_cons] at this ⊢
    omega
theorem stps_len (L : List StpD) (o : Out) : (stps L o).l.length ≤ o.l.length + 1 + 9 * L.length + 4 * locsSum L := by
  have h1 := each_len (f := stp) (c := fun s => 9 + 4 * s.locs.length) stp_len L (num L.length 1 255 o)
  have h2 := num_len L.length 1 255 o
  rw [stp_sum] at h1
  unfold stps
  omega
theorem locsSum_mem {L : List StpD} {s : StpD} (h : s ∈ L) : s.locs.length ≤ locsSum L := by
  unfold locsSum
  induction L with
  | nil => cases h
  | cons x L ih =>
    simp only [List.map_cons, List.sum_cons]
    rcases List.mem_cons.1 h with rfl | h
    · omega
    · have := ih h; omega
theorem objSum_mem {L : List ObjD} {x : ObjD} (h : x ∈ L) : x.stripes.length + locsSum x.stripes ≤ objSum L := by
  unfold objSum
  induction L with
  | nil => cases h
  | cons y L ih =>
    simp only [List.map_cons, List.sum_cons]
    rcases List.mem_cons.1 h with rfl | h
    · omega
    · have := ih h; omega
theorem flat_len {α : Type} {E : α → List Nat} {c : α → Nat} : ∀ {l : List α}, (∀ x ∈ l, (E x).length ≤ c x) → (l.flatMap E).length ≤ (l.map c).sum
  | [], _ => by simp
  | x :: l, h => by
    have ih := flat_len (l := l) (fun y hy => h y (by simp [hy]))
    have := h x (by simp)
    simp only [List.flatMap_cons, List.length_append, List.map_cons, List.sum_cons]
    omega
theorem intsE_len (l : List Int) : (intsE l).length = 1 + 4 * l.length := by
  unfold intsE
  have : ∀ l : List Int, (l.flatMap numE).length = 4 * l.length := by
    intro l
    induction l with
    | nil => rfl
    | cons x l ih => simp only [List.flatMap_cons, List.length_append, List.length_cons, ih, numE, Sha.numB_len]; omega
  rw [List.length_append, this, Sha.numB_len]
theorem stpsE_len (L : List StpD) : (stpsE L).length = 1 + 9 * L.length + 4 * locsSum L := by
  unfold stpsE
  have : ∀ L : List StpD, (L.flatMap stpE).length = 9 * L.length + 4 * locsSum L := by
    intro L
    induction L with
    | nil => rfl
    | cons s L ih =>
      simp only [List.flatMap_cons, List.length_append, List.length_cons, ih, stpE, numE, Sha.numB_len, intsE_len, locsSum, List.map_cons, List.sum_cons]
      omega
  rw [List.length_append, this, Sha.numB_len]
  omega
theorem objE_len (x : ObjD) : (objE x).length = 10 + x.key.size + 9 * x.stripes.length + 4 * locsSum x.stripes := by
  unfold objE keyE
  simp only [List.length_append, Sha.numB_len, numE, strB_len, stpsE_len]
  omega
theorem objs_sum (L : List ObjD) : (L.map fun x => 26 + 9 * x.stripes.length + 4 * locsSum x.stripes).sum ≤ 26 * L.length + 9 * objSum L := by
  induction L with
  | nil => simp [objSum]
  | cons x L ih =>
    simp only [objSum, List.map_cons, List.sum_cons, List.length_cons] at ih ⊢
    omega
/-- as long as nothing is bad, it is short -/
theorem objs_good {L : List ObjD} {o : Out} {k : Nat} (h : (each obj (L.take k) o).bad = false) : (each obj (L.take k) o).l.length ≤ o.l.length + 26 * L.length + 9 * objSum L := by
  obtain ⟨h1, h2⟩ := writes_each (f := obj) (fun _ => writes_obj) (L.take k) o
  have hb : o.bad = false := by
    cases hb : o.bad with
    | false => rfl
    | true => rw [h1.2 (.inl hb)] at h; cases h
  have hok : ∀ x ∈ L.take k, okObj x := Classical.byContradiction fun q => by
    rw [h1.2 (.inr q)] at h; cases h
  rw [h2 hb hok]
  have h3 := flat_len (E := objE) (c := fun x => 26 + 9 * x.stripes.length + 4 * locsSum x.stripes) (l := L.take k) (fun x hx => by
    have := objE_len x
    have := (hok x hx).1.1.1
    omega)
  have h4 := objs_sum (L.take k)
  have h5 : (L.take k).length ≤ L.length := by simp; omega
  have h6 : objSum (L.take k) ≤ objSum L := by
    conv => rhs; rw [← List.take_append_drop k L]
    unfold objSum
    rw [List.map_append, List.sum_append]
    omega
  simp only [List.length_append]
  omega
theorem obj_len (x : ObjD) (o : Out) : (obj x o).l.length ≤ o.l.length + 10 + x.key.size + 9 * x.stripes.length + 4 * locsSum x.stripes := by
  have h1 := key_len x.key o
  have h2 := num_len x.id 4 1073741824 (key x.key o)
  have h3 := num_len x.size 4 1073741824 (int1 x.id (key x.key o))
  have h4 := stps_len x.stripes (int1 x.size (int1 x.id (key x.key o)))
  unfold obj
  unfold int1 at h3 h4 ⊢
  omega
theorem objs_any {L : List ObjD} {o : Out} (hk : ∀ x ∈ L, KeyOk x.key) : ∀ k, k ≤ L.length → (each obj (L.take k) o).l.length ≤ o.l.length + 26 * L.length + 18 * objSum L + 10 + 140737488351232
  | 0, _ => by rw [List.take_zero, each_nil]; omega
  | k + 1, h => by
    have ih := objs_any (L := L) (o := o) hk k (by omega)
    rw [each_take L o h]
    unfold stepO
    cases hb : (each obj (L.take k) o).bad with
    | true => rw [if_pos rfl]; exact ih
    | false =>
      rw [if_neg (by simp)]
      have h1 := objs_good hb
      have h2 := obj_len L[k] (each obj (L.take k) o)
      have h3 := hk L[k] (List.getElem_mem h)
      have h4 := objSum_mem (List.getElem_mem h)
      unfold KeyOk at h3
      omega
end RecM
