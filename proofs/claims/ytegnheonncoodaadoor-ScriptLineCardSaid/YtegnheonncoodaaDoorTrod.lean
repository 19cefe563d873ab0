/- Arguments as the statements read them, in this place's words; the last step of a law that turns nothing and returns true. No program is named here. -/
import Derived.Test.YtegnheonncoodaaDoorMem
import Derived.Deep.Matrix
import Derived.ChangeSame
namespace Go.Mem
open Go.RowKit Go.WideShapes Go.ChangeShapes
variable {H : Type} {enc : TypeId × Value → H} {P : Program} {w : World} {held : Bool}
theorem spot_none {w : World} {a : Addr} {x : Value} (h : w.cell? (a.add 0) = some x) : ∃ b o, a = ⟨b, o, none⟩ := by
  obtain ⟨b, o, s⟩ := a
  refine ⟨b, o, ?_⟩
  cases s with
  | none => rfl
  | some k =>
    exfalso
    simp only [Addr.add, if_pos, World.cell?] at h
    revert h
    split <;> simp
theorem addr_add (b o i : Nat) : (⟨b, o, none⟩ : Addr).add i = ⟨b, o + i, none⟩ := by
  unfold Addr.add
  split
  · rename_i h; subst h; rfl
  · rfl
theorem slice_make {α : Type} {R : World → Value → α → Prop} {a : Addr} {n C : Nat} {l : List α} (hn : n = l.length) (hC : n ≤ C) (hm : C ≤ maxLen) (h : ∀ i (hi : i < l.length), ∃ c, w.cell? (a.add i) = some c ∧ R w c l[i]) : SliceOf R w (.slice (some a) n C) l := by
  refine ⟨some a, n, C, rfl, hn, hC, hm, (fun e => by cases e), fun i hi => ?_⟩
  obtain ⟨c0, h0, _⟩ := h 0 (by omega)
  obtain ⟨b, o, rfl⟩ := spot_none h0
  obtain ⟨c, hc, hR⟩ := h i hi
  exact ⟨b, o, c, rfl, by rw [← addr_add]; exact hc, hR⟩
theorem byte_of_wf {z : Int} (h : (Lit.int .u8 z).wf = true) : z = ((z.toNat : Nat) : Int) ∧ z.toNat < 256 := by
  obtain ⟨h1, h2⟩ := bounds_u8 h
  omega
theorem bytes_of {t e : TypeId} {v : Value} {d : DataW H} {ps : List MemPlace} (ht : P.underlying t = some (.slice e)) (he : P.underlying e = some (.int .u8)) (hc : P.cellsOf e = 1)
    (hv : ∃ A n C, v = .slice A n C) (h : DataW.Trod enc P w 0 (fun _ => true) held t v d ps) : ∃ l, Bytes w v l := by
  obtain ⟨A0, n0, C0, rfl⟩ := hv
  obtain ⟨fuel, hf⟩ := h
  rcases open_ints ht he hc hf with ⟨h1, _⟩ | ⟨a, len, cap, zs, h1, _, hl, hm, hz, _, hcell, hwf⟩
  · have h1' : [Value.slice A0 n0 C0] = [.slice none 0 0] := h1
    cases h1'
    exact ⟨[], none, 0, 0, rfl, rfl, Nat.le_refl _, Nat.zero_le _, fun _ => rfl, fun i hi => absurd hi (by simp)⟩
  · have h1' : [Value.slice A0 n0 C0] = [.slice (some a) len cap] := h1
    cases h1'
    simp only [if_true] at hz
    refine ⟨(zs.take n0).map Int.toNat, slice_make (by simp; omega) hl hm fun i hi => ?_⟩
    have hi' : i < n0 := by simp at hi; omega
    have hiz : i < zs.length := by omega
    have hw := byte_of_wf (hwf _ (List.getElem_mem hiz))
    refine ⟨_, hcell i hiz, ?_⟩
    rw [List.getElem_map, List.getElem_take]
    refine ⟨?_, hw.2⟩
    rw [← hw.1]; simp [hiz]
theorem tab_of {t e q : TypeId} {v : Value} {d : DataW H} {ps : List MemPlace} (ht : P.underlying t = some (.slice e)) (he : P.underlying e = some (.slice q)) (hq : P.underlying q = some (.int .u8)) (ce : P.cellsOf e = 1) (cq : P.cellsOf q = 1)
    (hv : ∃ A n C, v = .slice A n C) (h : DataW.Trod enc P w 0 (fun _ => true) held t v d ps) : ∃ M, Tab w v M := by
  obtain ⟨A0, n0, C0, rfl⟩ := hv
  obtain ⟨fuel, hf⟩ := h
  rcases Deep.open_int_rows ht he hq ce cq hf with ⟨h1, _⟩ | ⟨a, len, cap, A, L, C, Z, h1, _, hl, hm, _, hrow⟩
  · have h1' : [Value.slice A0 n0 C0] = [.slice none 0 0] := h1
    cases h1'
    exact ⟨[], none, 0, 0, rfl, rfl, Nat.le_refl _, Nat.zero_le _, fun _ => rfl, fun i hi => absurd hi (by simp)⟩
  · have h1' : [Value.slice A0 n0 C0] = [.slice (some a) len cap] := h1
    cases h1'
    refine ⟨(List.range n0).map fun r => ((Z r).take (L r)).map Int.toNat, slice_make (by simp) hl hm fun i hi => ?_⟩
    have hi' : i < n0 := by simpa using hi
    obtain ⟨r1, r2, r3, r4, r5, r6, r7⟩ := hrow i (by omega)
    refine ⟨_, r1, ?_⟩
    rw [List.getElem_map, List.getElem_range]
    cases hA : A i with
    | none =>
      have := r6 hA
      have hL : L i = 0 := by omega
      rw [hL, this]
      exact ⟨none, 0, 0, rfl, by simp, Nat.le_refl _, Nat.zero_le _, fun _ => rfl, fun j hj => absurd hj (by simp)⟩
    | some a' =>
      obtain ⟨_, hcell⟩ := r7 a' hA
      refine slice_make (by simp; omega) r2 r3 fun j hj => ?_
      have hj' : j < L i := by simp at hj; omega
      have hjz : j < (Z i).length := by omega
      have hw := byte_of_wf (r5 _ (List.getElem_mem hjz))
      refine ⟨_, hcell j (by omega), ?_⟩
      rw [List.getElem_map, List.getElem_take]
      refine ⟨?_, hw.2⟩
      rw [← hw.1]; simp [hjz]
/-- a law without variables, behind which nothing that was there has turned -/
theorem post_law {f : Func} {s : ChangeSpec} {apart fresh handsOn again : Bool} {W W' : World} {args : Array Value} {v : Value} {ds : List (DataW H)} {before : List MemPlace}
    (hW : DataW.Whole enc P f.params.toList s.vars apart W args.toList ds [] before) (hv : s.vars = [])
    (hres : ∀ (b : Nat) (sp : Nat → Bool) (hd : Bool), DataW.TrodAll enc P W' b sp hd f.resultTypes.toList (v.resultList f.resultTypes.size) (s.fn H (ds ++ [])).results [])
    (hargs : ∀ sp : Nat → Bool, (∀ p ∈ before, sp p.block = true) → DataW.TrodAll enc P W' 0 sp true f.params.toList args.toList (s.fn H (ds ++ [])).args before) (hvs : (s.fn H (ds ++ [])).vars = [])
    (hb : Below W.heap.size W W')
    (hok : ∀ (j : Nat) (t : TypeId) (r : Value), f.resultTypes[j]? = some t → (v.resultList f.resultTypes.size)[j]? = some r → Value.okWide P W' .any 0 t r) :
    s.post enc P f apart fresh handsOn again W args v W' := by
  have hlt : ∀ p ∈ before, p.block < W.heap.size := fun p hp => hW.lt p hp
  have hold : ∀ p ∈ before, (fun b => decide (b < W.heap.size)) p.block = true := fun p hp => by simpa using hlt p hp
  have hvar : ∀ sp : Nat → Bool, DataW.TrodVars enc P W' sp s.vars (s.fn H (ds ++ [])).vars [] := fun sp => by rw [hv, hvs]; exact rfl
  refine ⟨ds, [], before, [], before, [], hW, hres _ _ _, hargs _ hold, hvar _, World.keptBut_mono (fun p hp => ⟨hp, by simpa using hp⟩) (hb.frame (· ∈ before)), fun _ => ?_⟩
  obtain ⟨_, _, _, _, _, hz, hn⟩ := hW
  refine ⟨hok, _, _, ([] ++ before) ++ [], ⟨[] ++ before, [], trodAll_append (hargs _ (fun _ _ => rfl)) (hres _ _ _), hvar _, rfl, fun b off hp => ?_, fun ha => by simpa using hn ha⟩, fun p hp _ => by simpa using hp⟩
  have hin : MemPlace.cell b off ∈ before := by simpa using hp
  rw [hb.frozen (hlt _ hin)]
  exact hz b off hin
end Go.Mem
