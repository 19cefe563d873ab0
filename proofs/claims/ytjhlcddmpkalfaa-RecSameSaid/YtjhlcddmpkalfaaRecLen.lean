/- How long a record's bytes get while they are written, plain. No program is named here. -/
import Derived.Test.YtjhlcddmpkalfaaRecUniq
namespace RecM
open Go Go.Mem
def o0 : Out := ⟨[], false⟩
def upKey (r : RecD) : Out := int1 r.size (int1 r.id (num r.kind 1 5 o0))
theorem upKey_len (r : RecD) : (num r.kind 1 5 o0).l.length ≤ 1 ∧ (int1 r.id (num r.kind 1 5 o0)).l.length ≤ 5 ∧ (upKey r).l.length ≤ 9 := by
  have h1 := num_len r.kind 1 5 o0
  have h2 := num_len r.id 4 1073741824 (num r.kind 1 5 o0)
  have h3 := num_len r.size 4 1073741824 (int1 r.id (num r.kind 1 5 o0))
  have h4 : o0.l.length = 0 := rfl
  unfold upKey
  unfold int1 at *
  omega
theorem head_eq (r : RecD) : head r o0 = stps r.stripes (key r.key (upKey r)) := rfl
theorem head_len (r : RecD) : (key r.key (upKey r)).l.length ≤ 10 + r.key.size ∧ (head r o0).l.length ≤ 11 + r.key.size + 9 * r.stripes.length + 4 * locsSum r.stripes := by
  have h1 := (upKey_len r).2.2
  have h2 := key_len r.key (upKey r)
  have h3 := stps_len r.stripes (key r.key (upKey r))
  rw [head_eq]
  omega
theorem head_good {r : RecD} (h : (head r o0).bad = false) : (head r o0).l.length ≤ 27 + 9 * r.stripes.length + 4 * locsSum r.stripes := by
  obtain ⟨h1, h2⟩ := writes_head (r := r) o0
  have hok : okHead r := Classical.byContradiction fun q => by
    rw [h1.2 (.inr q)] at h; cases h
  rw [h2 rfl hok]
  have hk := hok.1.2
  unfold headE keyE
  simp only [List.length_append, Sha.numB_len, numE, strB_len, stpsE_len]
  show o0.l.length + _ ≤ _
  have : o0.l.length = 0 := rfl
  omega
def upObjs (r : RecD) : Out := num r.objects.length 2 65535 (head r o0)
theorem num_bad {v most : Int} {n : Nat} {o : Out} (h : (num v n most o).bad = false) : o.bad = false := by
  unfold num at h
  split at h
  · cases h
  · exact h
theorem each_first {α : Type} {f : α → Out → Out} {l : List α} {o : Out} (h : (each f l o).bad = false) : o.bad = false := by
  cases hb : o.bad with
  | false => rfl
  | true => rw [each_bad hb] at h; rw [hb] at h; cases h
/-- in the midst of the objects, as long as nothing is bad -/
theorem mid_good {r : RecD} (hi : items r ≤ 10000) {k : Nat} (h : (each obj (r.objects.take k) (upObjs r)).bad = false) : (each obj (r.objects.take k) (upObjs r)).l.length ≤ 700000 := by
  have h1 : (upObjs r).bad = false := each_first h
  have h2 := head_good (num_bad h1)
  have h3 := num_len r.objects.length 2 65535 (head r o0)
  have h4 := objs_good h
  unfold items base at hi
  unfold upObjs at h4 ⊢
  omega
theorem objs_eq (r : RecD) : objs r.objects (head r o0) = each obj r.objects (upObjs r) := rfl
theorem upObjs_len {r : RecD} (hi : items r ≤ 10000) (hk : KeyOk r.key) : (head r o0).l.length ≤ 140737488500000 ∧ (upObjs r).l.length ≤ 140737488500000 := by
  have h1 := (head_len r).2
  have h3 := num_len r.objects.length 2 65535 (head r o0)
  unfold items base at hi
  unfold KeyOk at hk
  unfold upObjs
  omega
theorem mid_any {r : RecD} (hi : items r ≤ 10000) (hk : KeyOk r.key) (ho : ∀ x ∈ r.objects, KeyOk x.key) (k : Nat) (hkl : k ≤ r.objects.length) : (each obj (r.objects.take k) (upObjs r)).l.length ≤ 140737489000000 := by
  have h1 := (upObjs_len hi hk).2
  cases hb : (upObjs r).bad with
  | true => rw [each_bad hb]; omega
  | false =>
    have h2 := head_good (num_bad hb)
    have h3 := num_len r.objects.length 2 65535 (head r o0)
    have h4 := objs_any (L := r.objects) (o := upObjs r) ho k hkl
    unfold items base at hi
    unfold upObjs at h4 ⊢
    omega
theorem out_eq (r : RecD) : out r = ints r.drives (each obj r.objects (upObjs r)) := rfl
/-- an object, step by step, where it is short yet -/
theorem obj_steps {r : RecD} (hi : items r ≤ 10000) {x : ObjD} (hx : x ∈ r.objects) (hk : KeyOk x.key) {o : Out} (ho : o.l.length ≤ 700000) :
    (key x.key o).l.length ≤ 140737488351232 + 700001 ∧ (int1 x.id (key x.key o)).l.length ≤ 140737488351232 + 700005 ∧ (int1 x.size (int1 x.id (key x.key o))).l.length + 20 + 9 * x.stripes.length + 8 * locsSum x.stripes ≤ 140737489400000 := by
  have h1 := key_len x.key o
  have h2 := num_len x.id 4 1073741824 (key x.key o)
  have h3 := num_len x.size 4 1073741824 (int1 x.id (key x.key o))
  have h4 := objSum_mem hx
  unfold items at hi
  unfold KeyOk at hk
  unfold int1 at *
  omega
end RecM
