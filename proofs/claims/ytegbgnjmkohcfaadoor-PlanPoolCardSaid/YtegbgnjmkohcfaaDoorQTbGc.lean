/- The program's table: rows that are sorted; stripes put behind one another. The program's table: stripes put behind one another, and sorted; Keys, Stripes. The program's table: Keys. The program's table: Stripes. The program's table: All. -/
import Derived.Test.YtegbgnjmkohcfaaDoorQTbGb
import Derived.Test.YtegbgnjmkohcfaaDoorShelf
import Derived.Test.YtegbgnjmkohcfaaDoorShelf2
import Derived.Sort.KeysCollected
import Derived.Test.YtegbgnjmkohcfaaDoorQTbL
import Derived.Deep.RegionLaw
namespace Go.Proofs.YtegbgnjmkohcfaaDoor.Tbl
set_option linter.unusedVariables false
open Go.ChangeShapes Go.WideShapes Go.ChangeAt Go.RowKit
open Go.Mem RecM
open Go.Sort (grow grow_grow alloc_eq_grow HoldsK PermIn SortedIn SWO Holds)
def bl (s : ByteArray) : List UInt8 := s.data.toList
theorem bl_str (s : ByteArray) : encStr (bl s) = .string s := by simp [encStr, bl]
theorem less_eq : ∀ (x y : List UInt8), Op.bytesLess x y = decide (x < y)
  | [], [] => by simp [Op.bytesLess]
  | _ :: _, [] => by simp [Op.bytesLess]
  | [], _ :: _ => by simp [Op.bytesLess]
  | a :: x, b :: y => by
    rw [Op.bytesLess, less_eq x y]
    simp only [List.cons_lt_cons_iff]
    by_cases h1 : a < b <;> by_cases h2 : a = b <;> by_cases h3 : x < y <;> simp [h1, h2, h3]
theorem lt_bl {a b : ByteArray} : Kl.lt a.toList b.toList = true ↔ bl a < bl b := by
  rw [ByteArray.toList_eq, ByteArray.toList_eq]
  unfold Kl.lt bl
  rw [less_eq]
  simp
/-- keys that rise are what their row is sorted to -/
theorem sorted_bl {L K : List ByteArray} (hp : L.Perm K) (hr : K.Pairwise fun a b => Kl.lt a.toList b.toList = true) : (L.map bl).mergeSort (fun x y => decide (x ≤ y)) = K.map bl := by
  have tr : ∀ a b c : List UInt8, decide (a ≤ b) = true → decide (b ≤ c) = true → decide (a ≤ c) = true := fun a b c h1 h2 => by simp only [decide_eq_true_eq] at *; exact List.le_trans h1 h2
  have to : ∀ a b : List UInt8, (decide (a ≤ b) || decide (b ≤ a)) = true := fun a b => by simp only [Bool.or_eq_true, decide_eq_true_eq]; exact List.le_total a b
  refine List.Perm.eq_of_pairwise (le := fun a b => decide (a ≤ b) = true) (fun a b _ _ h1 h2 => ?_) (List.pairwise_mergeSort tr to _) ?_ ((List.mergeSort_perm _ _).trans (hp.map bl))
  · simp only [decide_eq_true_eq] at h1 h2
    exact List.le_antisymm h1 h2
  · rw [List.pairwise_map]
    refine hr.imp fun h => ?_
    simp only [decide_eq_true_eq]
    exact List.le_of_lt (lt_bl.1 h)
theorem putRow_turned {α : Type} [Inhabited α] (enc : α → Value) {b n : Nat} {w : World} (d : Array α) (os : Array Obj) (hb : b < w.heap.size) : Turned (fun x => x = b) w (grow (Go.Sort.putRow enc (Go.Sort.ahead w n) b 0 d) os) where
  os := rfl
  tape := rfl
  output := rfl
  size := by simp [grow, Go.Sort.putRow, Go.Sort.mapBlock]
  block k hk hne := by
    rw [Go.Sort.heap_grow_old _ _ (by rw [Go.Sort.size_putRow]; exact hk)]
    show ((Go.Sort.ahead w n).heap.modify b _)[k]? = _
    rw [Array.getElem?_modify, if_neg (fun q => hne q.symm)]
    rfl
theorem strs_nil {w : World} {A : Option Addr} {C : Nat} (g2 : C ≤ 9223372036854775807) (g3 : A = none → C = 0) : Strs w (.slice A 0 C) [] :=
  ⟨A, 0, C, rfl, rfl, Nat.zero_le _, by unfold maxLen; exact g2, g3, fun i hi => absurd hi (by simp)⟩
def SortedK (w : World) (V : Value) (K : List ByteArray) (e : Ending) (w' : World) : Prop := e = .returned (.tuple #[]) ∧ On (fun b => V.ownBlock = some b) w' (fun w'' => Strs w'' V K) ∧ Turned (fun b => V.ownBlock = some b) w w'
def cmpI (x y : Int) : Int := if x < y then -1 else if y < x then 1 else 0
theorem cmpI_lt {x y : Int} (h : x < y) : cmpI x y = -1 := by unfold cmpI; rw [if_pos h]
theorem cmpI_gt {x y : Int} (h : y < x) : cmpI x y = 1 := by unfold cmpI; rw [if_neg (by omega), if_pos h]
theorem cmpI_eq {x y : Int} (h : x = y) : cmpI x y = 0 := by unfold cmpI; rw [if_neg (by omega), if_neg (by omega)]
set_option maxHeartbeats 1000000 in
theorem cmpIC (x y : Int) (w : World) : Calls Tryd.prog 31 #[.int .i64 x, .int .i64 y] w fun e w' => e = .returned (.int .i64 (cmpI x y)) ∧ w' = w := by
  rcases Int.lt_trichotomy x y with h | h | h
  · have d1 : decide (x < y) = true := by simpa using h
    rw [cmpI_lt h]
    clear h
    go_enter Tryd.func31, Tryd.ntmps31
    go_wp2
    go_ret
    exact ⟨rfl, rfl⟩
  · rw [cmpI_eq h]
    subst h
    have d1 : decide (x < x) = false := by simp
    go_enter Tryd.func31, Tryd.ntmps31
    go_wp2
    go_ret
    exact ⟨rfl, rfl⟩
  · have d1 : decide (x < y) = false := by simp; omega
    have d2 : decide (y < x) = true := by simpa using h
    rw [cmpI_gt h]
    clear h
    go_enter Tryd.func31, Tryd.ntmps31
    go_wp2
    go_ret
    exact ⟨rfl, rfl⟩
/-- a stripe as it stands in a row: what it is, and the slice of its places -/
structure El where
  s : StpD
  A : Option Addr
  n : Nat
  C : Nat
instance : Inhabited El := ⟨⟨noStp, none, 0, 0⟩⟩
def encS (x : El) : List Value := [.int .i64 x.s.id, .int .i64 x.s.ep, .slice x.A x.n x.C]
def cfS (x y : El) : Int := cmpI x.s.id y.s.id
theorem cfS_lt (x y : El) : Go.Proofs.ltOf cfS x y = decide (x.s.id < y.s.id) := by
  unfold Go.Proofs.ltOf cfS
  rcases Int.lt_trichotomy x.s.id y.s.id with h | h | h
  · rw [cmpI_lt h]; simp [h]
  · rw [cmpI_eq h]; simp [h]
  · rw [cmpI_gt h]
    have : ¬ x.s.id < y.s.id := by omega
    simp [this]
theorem cfS_swo : SWO (Go.Proofs.ltOf cfS) where
  irrefl x := by rw [cfS_lt]; simp
  trans x y z h1 h2 := by rw [cfS_lt] at *; simp at *; omega
  ntrans x y z h1 h2 := by rw [cfS_lt] at *; simp at *; omega
set_option maxHeartbeats 2000000 in
theorem compC (x y : El) (W : World) : Calls Tryd.prog 30 #[.agg #[.int .i64 x.s.id, .int .i64 x.s.ep, .slice x.A x.n x.C], .agg #[.int .i64 y.s.id, .int .i64 y.s.ep, .slice y.A y.n y.C]] W fun e w' => e = .returned (.int .i64 (cfS x y)) ∧ ∃ q os', w' = grow (W.drewN q) os' := by
  obtain ⟨r, hr⟩ : ∃ r, cfS x y = r := ⟨_, rfl⟩
  have HC := Lib.hid (fun w => (hr ▸ cmpIC x.s.id y.s.id w : Calls Tryd.prog 31 #[.int .i64 x.s.id, .int .i64 y.s.id] w fun e w' => e = .returned (.int .i64 r) ∧ w' = w))
  rw [hr]
  clear hr
  have HG := Lib.hid (show ((W.alloc (Obj.cells #[Value.int IntKind.i64 x.s.id, Value.int IntKind.i64 x.s.ep, .slice x.A x.n x.C] TStp)).alloc (Obj.cells #[Value.int IntKind.i64 y.s.id, Value.int IntKind.i64 y.s.ep, .slice y.A y.n y.C] TStp)) = grow (W.drewN 0) #[.cells #[Value.int IntKind.i64 x.s.id, Value.int IntKind.i64 x.s.ep, .slice x.A x.n x.C] TStp, .cells #[Value.int IntKind.i64 y.s.id, Value.int IntKind.i64 y.s.ep, .slice y.A y.n y.C] TStp] by rw [alloc_eq_grow, alloc_eq_grow, grow_grow]; rfl)
  go_enter Tryd.func30, Tryd.ntmps30
  go_wp2_with fail
  refine (HC.out _).mono ?_
  rintro _ w1 ⟨rfl, rfl⟩
  go_wp2
  go_ret
  exact ⟨rfl, 0, _, HG.out⟩
end Go.Proofs.YtegbgnjmkohcfaaDoor.Tbl
namespace Go.Proofs.YtegbgnjmkohcfaaDoor.Tbl
set_option linter.unusedVariables false
open Go.ChangeShapes Go.WideShapes Go.ChangeAt Go.RowKit
open Go.Mem RecM
open Go.Sort (grow grow_grow alloc_eq_grow HoldsK PermIn SortedIn SWO Holds)
theorem stpW_one {w : World} {f : Nat → Value} {s : StpD} (h : StpW w f s) : ∀ j, j < 3 → (f j).oneCell' = true := by
  obtain ⟨⟨r0, r1, r2, -⟩, -⟩ := h
  obtain ⟨A9, C9, e9, -⟩ := r2.shape
  intro j hj
  rcases (by omega : j = 0 ∨ j = 1 ∨ j = 2) with rfl | rfl | rfl
  · rw [r0]; rfl
  · rw [r1]; rfl
  · rw [e9]; rfl
/-- append(list, l...), l a copy of stripes -/
theorem run_append_copy {P : Program} (w0 w : World) (t ty e : TypeId) (ht : P.underlying t = some (.slice e))
    (hinfo : (P.info? e).map (fun i => (i.zero, i.size, i.bytes)) = some (some (.agg #[.int .i64 0, .int .i64 0, .slice none 0 0]), 3, 40)) (v : Value) (L : List StpD) (K : Nat → Prop) (hown : BuiltX 3 StpW K w e v L) (hKw : ∀ b, K b → b < w.heap.size)
    (A : Option Addr) (C : Nat) (l : List StpD) (h : CopyS w0 l (.returned (.slice A l.length C)) w) (hv : ∀ b, v.ownBlock = some b → b < w0.heap.size) (hlen : (L.length + l.length) ≤ 100000000) :
    ∃ v' w', (Builtin.append_ #[t, t] ty #[v, .slice A l.length C]).run P w = .ok v' w' ∧ BuiltX 3 StpW (fun b => K b ∨ (w0.heap.size ≤ b ∧ b < w.heap.size)) w' e v' (L ++ l) ∧ Turned (fun b => v.ownBlock = some b) w w' ∧ (v'.ownBlock = v.ownBlock ∨ v'.ownBlock = some w.heap.size) := by
  obtain ⟨ii, hi0, hz0, hz1, hz2⟩ := info_parts hinfo
  obtain ⟨A9, C9, e9, hb, g1, g2, g3, hq⟩ := h
  have hAC : A9 = A ∧ C9 = C := by
    injection e9 with e9
    injection e9 with q1 q2 q3
    exact ⟨q1.symm, q3.symm⟩
  obtain ⟨rfl, rfl⟩ := hAC
  have hown0 := hown
  obtain ⟨xs, hrow, hno, hel⟩ := hown
  have hxl : xs.length = L.length * 3 := hrow.1
  have hs := hb.size
  by_cases h0 : 0 < l.length
  · obtain ⟨g, f, rfl, hg, hsr, hon⟩ := hq h0
    obtain ⟨ys, hys⟩ : ∃ ys : List Value, ys = (List.range (l.length * 3)).map (fun j => f (j / 3) (j % 3)) := ⟨_, rfl⟩
    have hyl : ys.length = l.length * 3 := by rw [hys]; simp
    have hget : ∀ i, i < l.length → ∀ j, j < 3 → ys[i * 3 + j]? = some (f i j) := fun i hi j hj => by
      rw [hys, List.getElem?_map, List.getElem?_range (by omega)]
      simp [show (i * 3 + j) / 3 = i by omega, show (i * 3 + j) % 3 = j by omega]
    have hsplit : ∀ m, m < l.length * 3 → ∃ i j, i < l.length ∧ j < 3 ∧ m = i * 3 + j := fun m hm => ⟨m / 3, m % 3, by omega, by omega, by omega⟩
    obtain ⟨v', w', hrun, hown', hgr, _, hat⟩ := run_append_own_at (P := P) w 0 t ty e ii _ 3 40 ht hi0 hz0 hz1 hz2 rfl (by omega) v L.length xs hrow ⟨g, 0, none⟩ l.length C9 ys hyl
      (fun m u hm => by
        have hlt : m < l.length * 3 := by
          have := (List.getElem?_eq_some_iff.1 hm).1
          omega
        obtain ⟨i, j, hi, hj, rfl⟩ := hsplit m hlt
        rw [hget i hi j hj] at hm
        cases hm
        rw [add_from]
        exact hsr.cell i hi j hj)
      (fun u hu => by
        obtain ⟨m, hm, rfl⟩ := List.getElem_of_mem hu
        obtain ⟨i, j, hi, hj, rfl⟩ := hsplit m (by omega)
        have q := hget i hi j hj
        rw [List.getElem?_eq_getElem hm] at q
        rw [Option.some.inj q]
        exact stpW_one (hon i hi).here j hj)
      (by unfold maxLen; omega) (by omega) (Nat.zero_le _)
    have ht0 : Turned (fun b => v.ownBlock = some b) w w' := Turned.grown hgr (fun b hb => hb)
    refine ⟨v', w', hrun, ⟨xs ++ ys, by rw [List.length_append]; exact hown', fun b q hb' => ?_, fun i hi => ?_⟩, ht0, hat⟩
    · rcases hat with e1 | e1
      · rw [e1] at q
        rcases hb' with z | z
        · exact hno b q z
        · have := hv b q; omega
      · rw [e1] at q
        have : w.heap.size = b := Option.some.inj q
        rcases hb' with z | z
        · have := hKw b z; omega
        · omega
    · by_cases hlt : i < L.length
      · obtain ⟨f', e1, e2⟩ := hel i hlt
        refine ⟨f', fun j hj => by rw [List.getElem?_append_left (by omega)]; exact e1 j hj, ?_⟩
        rw [List.getElem_append_left hlt]
        exact On.more (e2.turned ht0 hno) fun b q => .inl q
      · have hi' : i - L.length < l.length := by simp at hi; omega
        refine ⟨f (i - L.length), fun j hj => ?_, ?_⟩
        · rw [List.getElem?_append_right (by omega), hxl, show i * 3 + j - L.length * 3 = (i - L.length) * 3 + j by omega]
          exact hget _ hi' j hj
        · rw [List.getElem_append_right (by omega)]
          exact On.more ((hon _ hi').turned ht0 (fun b q z => by have := hv b q; omega)) fun b q => .inr ⟨q.1, q.2.1⟩
  · have hl0 : l = [] := List.length_eq_zero_iff.1 (by omega)
    subst hl0
    have hmore : ∀ w' , Turned (fun b => v.ownBlock = some b) w w' → ∀ v', v'.ownBlock = v.ownBlock ∨ v'.ownBlock = some w.heap.size → w'.ownsRow 0 e 3 v' L.length xs → BuiltX 3 StpW (fun b => K b ∨ (w0.heap.size ≤ b ∧ b < w.heap.size)) w' e v' (L ++ []) := fun w' ht0 v' hat hr => by
      rw [List.append_nil]
      refine ⟨xs, hr, fun b q hb' => ?_, fun i hi => ?_⟩
      · rcases hat with e1 | e1
        · rw [e1] at q
          rcases hb' with z | z
          · exact hno b q z
          · have := hv b q; omega
        · rw [e1] at q
          have : w.heap.size = b := Option.some.inj q
          rcases hb' with z | z
          · have := hKw b z; omega
          · omega
      · obtain ⟨f', e1, e2⟩ := hel i hi
        exact ⟨f', e1, On.more (e2.turned ht0 hno) fun b q => .inl q⟩
    rcases A9 with _ | ad
    · have hC := g3 rfl
      subst hC
      exact ⟨v, w, run_append_owned_none (P := P) (w := w) 0 t ty e ii 3 ht hi0 v L.length xs (hz1 ▸ hrow), hmore w (Turned.refl _ _) v (.inl rfl) hrow, Turned.refl _ _, .inl rfl⟩
    · obtain ⟨v', w', hrun, hown', hgr, _, hat⟩ := run_append_own_at (P := P) w 0 t ty e ii _ 3 40 ht hi0 hz0 hz1 hz2 rfl (by omega) v L.length xs hrow ad 0 C9 [] rfl (fun m u hm => by simp at hm) (fun u hu => by simp at hu) (by unfold maxLen; simp at hlen; omega) (by simp at hlen; omega) (Nat.zero_le _)
      have ht0 : Turned (fun b => v.ownBlock = some b) w w' := Turned.grown hgr (fun b hb => hb)
      rw [List.append_nil, Nat.add_zero] at hown'
      exact ⟨v', w', hrun, hmore w' ht0 v' hat hown', ht0, hat⟩
/-- a stripe whose places lie in blocks K, and may be written -/
def StpO (K : Nat → Prop) (w : World) (f : Nat → Value) (s : StpD) : Prop := On K w (fun w' => StpW w' f s)
/-- what a sorted row of stripes is told as -/
def SortedS (w : World) (K : Nat → Prop) (V : Value) (L : List StpD) (e : Ending) (w' : World) : Prop := e = .returned (.tuple #[]) ∧ ∃ L' : List StpD, L'.Perm L ∧ L'.Pairwise (fun a b => a.id ≤ b.id) ∧
  On (fun b => K b ∨ V.ownBlock = some b) w' (fun w'' => Cells 3 (StpO K) w'' V L') ∧ Turned (fun b => V.ownBlock = some b) w w'
theorem enc_get (d : Array El) (j : Nat) (hj : j < d.size * 3) : (Go.Sort.flatK encS 3 d)[j]! = (encS d[j / 3]!)[j % 3]! := Go.Sort.get_flatK _ _ _ _ hj
theorem sortStpsC (w : World) (K : Nat → Prop) (V : Value) (L : List StpD) (h : BuiltX 3 StpW K w TStp V L) (hl : L.length ≤ 100000000) :
    Calls Tryd.prog 29 #[V, .func (.func 30) #[] #[]] w (SortedS w K V L) := by
  have hsh := h.len
  obtain ⟨xs, hrow, hno, hel⟩ := h
  by_cases h0 : L.length = 0
  · obtain ⟨A, C, e, g1, g2, g3⟩ := hsh
    have hL : L = [] := List.length_eq_zero_iff.1 h0
    subst e
    subst hL
    refine (Go.Proofs.AnyF.slices_SortFunc_none Tryd.sortS A C _ w).mono ?_
    rintro _ w' ⟨rfl, rfl⟩
    exact ⟨rfl, [], .refl _, List.Pairwise.nil, fun w'' _ => ⟨A, 0, C, rfl, rfl, Nat.zero_le _, by unfold maxLen; exact g2, g3, fun i hi => absurd hi (by simp)⟩, Turned.refl _ _⟩
  · rcases hrow.2 with ⟨_, e⟩ | ⟨g, cap, cur, e, hb, hg, h3, h4, h5, h6⟩
    · omega
    · subst e
      have hglt : g < w.heap.size := (Array.getElem?_eq_some_iff.1 hg).1
      have hxs : ∀ m, m < L.length * 3 → w.cell? ⟨g, m, none⟩ = xs[m]? := fun m hm => by
        have hm' : m < xs.length := by rw [hrow.1]; exact hm
        have := hrow.cells (g := g) rfl m xs[m] (List.getElem?_eq_getElem hm')
        rw [add_from] at this
        rw [this, List.getElem?_eq_getElem hm']
      obtain ⟨d, hd⟩ : ∃ d : Array El, d.size = L.length ∧ ∀ i (hi : i < L.length), d[i]!.s = L[i] ∧ (∀ j, j < 3 → xs[i * 3 + j]? = some (encS d[i]!)[j]!) ∧ On K w (fun w' => StpW w' (fun j => (encS d[i]!)[j]!) L[i]) := by
        have hone : ∀ i (hi : i < L.length), ∃ x : El, x.s = L[i] ∧ (∀ j, j < 3 → xs[i * 3 + j]? = some (encS x)[j]!) ∧ On K w (fun w' => StpW w' (fun j => (encS x)[j]!) L[i]) := fun i hi => by
          obtain ⟨f, q1, q2⟩ := hel i hi
          obtain ⟨⟨r0, r1, r2, r3⟩, r4⟩ := q2.here
          obtain ⟨A9, C9, e9, -⟩ := r2.shape
          have hf : ∀ j, j < 3 → f j = (encS ⟨L[i], A9, L[i].locs.length, C9⟩)[j]! := fun j hj => by
            rcases (by omega : j = 0 ∨ j = 1 ∨ j = 2) with rfl | rfl | rfl
            · exact r0
            · exact r1
            · exact e9
          refine ⟨⟨L[i], A9, L[i].locs.length, C9⟩, rfl, fun j hj => by rw [q1 j hj, hf j hj], q2.map fun w' q => ?_⟩
          obtain ⟨⟨s0, s1, s2, s3⟩, s4⟩ := q
          rw [e9] at s2 s4
          exact ⟨⟨rfl, rfl, s2, s3⟩, s4⟩
        have : ∀ n, n ≤ L.length → ∃ d : Array El, d.size = n ∧ ∀ i (hi : i < n) (hi' : i < L.length), d[i]!.s = L[i] ∧ (∀ j, j < 3 → xs[i * 3 + j]? = some (encS d[i]!)[j]!) ∧ On K w (fun w' => StpW w' (fun j => (encS d[i]!)[j]!) L[i]) := by
          intro n
          induction n with
          | zero => exact fun _ => ⟨#[], rfl, fun i hi => absurd hi (by omega)⟩
          | succ n ih =>
            intro hn
            obtain ⟨d, hd1, hd2⟩ := ih (by omega)
            obtain ⟨x, hx⟩ := hone n (by omega)
            refine ⟨d.push x, by simp [hd1], fun i hi hi' => ?_⟩
            by_cases e : i = n
            · subst e
              rw [getElem!_pos (d.push x) i (by simp [hd1]), show (d.push x)[i]'(by simp [hd1]) = x by simp [← hd1]]
              exact hx
            · have h9 := hd2 i (by omega) hi'
              rw [getElem!_pos d i (by omega)] at h9
              rw [getElem!_pos (d.push x) i (by simp [hd1]; omega), Array.getElem_push_lt (by omega)]
              exact h9
        obtain ⟨d, hd1, hd2⟩ := this L.length (Nat.le_refl _)
        exact ⟨d, hd1, fun i hi => hd2 i hi hi⟩
      obtain ⟨hds, hd⟩ := hd
      have hH : HoldsK encS 3 w g 0 d := by
        intro m hm
        have hm' : m < L.length * 3 := by rw [← hds]; simpa [Go.Sort.size_flatK] using hm
        refine ⟨?_, by simp [World.frozen?, hg]⟩
        rw [enc_get d m (by omega), Nat.zero_add, hxs m hm']
        have := (hd (m / 3) (by omega)).2.1 (m % 3) (by omega)
        rw [show m / 3 * 3 + m % 3 = m by omega] at this
        exact this
      have eg : ∀ args w, (callFunc 30 args).run Tryd.prog w = .ok (.enter 30 args) w := enters_of Tryd.func30 (by kernel_rfl) rfl
      have hcmp : Go.Proofs.CmpLays Tryd.prog 30 #[] encS 3 cfS g 0 d.size w := fun _ _ _ _ x y => compC x y _
      have hcon := Go.Proofs.AnyQ.slices_SortFunc Tryd.sortS 3 Tryd.isAgg29 Tryd.sizeOf29 encS (fun _ => rfl) (fun x v hv => by simp [encS] at hv; rcases hv with rfl | rfl | rfl <;> rfl) cfS cfS_swo 30 #[] g 0 cap d w eg hcmp hH hglt (by omega)
      rw [hds] at hcon
      change Calls Tryd.prog 29 _ _ _ at hcon
      refine hcon.mono ?_
      rintro _ w' ⟨rfl, d', n, os, hperm, hsort, rfl⟩
      obtain ⟨p1, -, p3⟩ := hperm
      have e1 : d'.extract 0 L.length = d' := by rw [← hds, ← p1]; exact Array.extract_size
      have e2 : d.extract 0 L.length = d := by rw [← hds]; exact Array.extract_size
      rw [e1, e2] at p3
      have hdL : d.toList.map El.s = L := by
        refine List.ext_getElem (by simp [hds]) fun i h1 h2 => ?_
        have := (hd i h2).1
        rw [getElem!_pos d i (by omega)] at this
        simpa using this
      have hall : ∀ x ∈ d.toList, On K w (fun w' => StpW w' (fun j => (encS x)[j]!) x.s) := fun x hx => by
        obtain ⟨i, hi, rfl⟩ := List.getElem_of_mem hx
        have hi' : i < L.length := by rw [← hds]; simpa using hi
        have h9 := hd i hi'
        rw [getElem!_pos d i (by omega)] at h9
        rw [show d.toList[i] = d[i]'(by omega) by simp, h9.1]
        exact h9.2.2
      have hT := putRow_turned id (n := n) (w := w) (Go.Sort.flatK encS 3 d') os hglt
      have hH2 : HoldsK encS 3 (Go.Proofs.sortWorldK encS 3 w g 0 n d' os) g 0 d' := by
        refine Go.Sort.holdsK_grow encS 3 _ _ _ _ _ (by rw [Go.Sort.putRowK, Go.Sort.size_putRow]; exact hglt) ?_
        exact Go.Sort.holdsK_putRowK encS 3 _ _ _ d _ (Go.Sort.holdsK_ahead encS 3 _ _ _ _ _ hH) p1
      have hT2 : Turned (fun x => x = g) w (Go.Proofs.sortWorldK encS 3 w g 0 n d' os) := hT
      clear hT hH hcmp hcon
      obtain ⟨w2, hw2⟩ : ∃ w2, Go.Proofs.sortWorldK encS 3 w g 0 n d' os = w2 := ⟨_, rfl⟩
      rw [hw2] at hT2 hH2 ⊢
      have hnK : ¬ K g := hno g rfl
      have hdl : d'.size = L.length := by rw [p1, hds]
      refine ⟨rfl, d'.toList.map El.s, by rw [← hdL]; exact p3.map El.s, ?_, fun w'' ht => ?_, hT2.mono fun b q => by rw [q]; rfl⟩
      · rw [List.pairwise_map, List.pairwise_iff_getElem]
        intro i j hi hj hij
        have hi' : i < d'.size := by simpa using hi
        have hj' : j < d'.size := by simpa using hj
        have h9 := hsort i j (Nat.zero_le _) hij (by omega)
        rw [getElem!_pos d' j hj', getElem!_pos d' i hi', cfS_lt] at h9
        simp at h9
        simpa using h9
      · have hg2 : w''.heap[g]? = w2.heap[g]? := ht.block g (Nat.lt_of_lt_of_le hglt hT2.size) (fun q => q (.inr rfl))
        refine ⟨some ⟨g, 0, none⟩, L.length, cap, rfl, by simp [hdl], h3, h4, (fun e => by cases e), fun i hi => ?_⟩
        have hi' : i < d'.size := by simpa using hi
        refine ⟨g, 0, fun j => (encS d'[i])[j]!, rfl, fun j hj => ?_, ?_⟩
        · have h9 := (hH2 (i * 3 + j) (by simp [Go.Sort.size_flatK]; omega)).1
          rw [enc_get d' _ (by omega), show (i * 3 + j) / 3 = i by omega, show (i * 3 + j) % 3 = j by omega, getElem!_pos d' i hi', Nat.zero_add] at h9
          rw [Nat.zero_add, World.cell?_of_block (w := w2) (a := ⟨g, i * 3 + j, none⟩) hg2]
          exact h9
        · have hm : d'[i] ∈ d.toList := p3.mem_iff.1 (by rw [Array.mem_toList_iff]; exact Array.getElem_mem hi')
          have h9 := ((hall _ hm).turned hT2 (fun b q z => by subst q; exact hnK z))
          have h8 := On.turned h9 ht (fun b q z => q (.inl z))
          simpa [StpO] using h8
end Go.Proofs.YtegbgnjmkohcfaaDoor.Tbl
namespace Go.Proofs.YtegbgnjmkohcfaaDoor.Tbl
set_option linter.unusedVariables false
open Go.ChangeShapes Go.WideShapes Go.ChangeAt Go.RowKit
open Go.Mem RecM
theorem infoStr : (Tryd.prog.info? TStr).map (fun i => (i.zero, i.size, i.bytes)) = some (some (.string ⟨#[]⟩), 1, 16) := by kernel_rfl
theorem nodup_len {α : Type} : ∀ {l m : List α}, l.Nodup → (∀ x ∈ l, x ∈ m) → l.length ≤ m.length
  | [], _, _, _ => Nat.zero_le _
  | x :: l, m, h, k => by
    obtain ⟨h1, h2⟩ := List.nodup_cons.1 h
    obtain ⟨s, t, rfl⟩ := List.append_of_mem (k x (by simp))
    have := nodup_len (m := s ++ t) h2 fun y hy => by
      have hyx : y ≠ x := fun e => h1 (e ▸ hy)
      have := k y (by simp [hy])
      simp only [List.mem_append, List.mem_cons] at this ⊢
      rcases this with q | q | q
      · exact .inl q
      · exact absurd q hyx
      · exact .inr q
    simp only [List.length_append, List.length_cons] at this ⊢
    omega
theorem str_turned {w w' : World} {base t : Nat} {v : Value} {l : List ByteArray} {F : Nat → Prop} (h : Built StrR w base t v l) (ht : Turned F w w') (hF : ∀ b, F b → v.ownBlock ≠ some b) : Built StrR w' base t v l := by
  obtain ⟨xs, h1, h2⟩ := h
  have hlt := h1.lt
  refine ⟨xs, ⟨h1.1, ?_⟩, fun i hi => ?_⟩
  · rcases h1.2 with h0 | ⟨g, cap, cur, e, q1, q2, q3⟩
    · exact .inl h0
    · obtain ⟨l1, l2⟩ := hlt g (by rw [e]; rfl)
      exact .inr ⟨g, cap, cur, e, q1, (ht.block g l2 (fun q => hF g q (by rw [e]; rfl))).trans q2, q3⟩
  · obtain ⟨c, e, hR⟩ := h2 i hi
    exact ⟨c, e, fun w'' _ => hR w (World.grownBy.refl _ _)⟩
def ToldK (w : World) (K : List ByteArray) (e : Ending) (w' : World) : Prop := ∃ V, e = .returned V ∧ Own w w' (fun w'' => Strs w'' V K)
theorem toldK_of {w w1 w2 : World} {base : Nat} {V : Value} {L K : List ByteArray} {e : Ending} (hb : Below w.heap.size w w1) (hbase : w.heap.size ≤ base) (h : Built StrR w1 base TStr V L) (hs : SortedK w1 V K e w2) : Own w w2 (fun w'' => Strs w'' V K) := by
  obtain ⟨-, h1, h2⟩ := hs
  have hown := h.own_lt
  exact ⟨fun w'' ht => h1 w'' (ht.mono fun b q z => by have := (hown b z).1; omega), hb.trans (h2.below (fun b q => by have := (hown b q).1; omega) hb.size)⟩
/-- in the midst of Keys -/
def KeyMid (E : Nat → Prop) (w : World) (b r : Nat) (D : DataW Value) (objs : List ObjD) (v : Value) (wr : World) : Prop := ∃ done, Rng E wr b r D objs done ∧ Built StrR wr (r + 1) TStr v (done.map ObjD.key) ∧ Below w.heap.size w wr
section
variable {w : World} {E : Nat → Prop} {p : Nat} {A : Option Addr} {C : Nat} {t : Tb.TabD}
end
end Go.Proofs.YtegbgnjmkohcfaaDoor.Tbl
namespace Go.Proofs.YtegbgnjmkohcfaaDoor.Tbl
set_option linter.unusedVariables false
open Go.ChangeShapes Go.WideShapes Go.ChangeAt Go.RowKit
open Go.Mem RecM
theorem flat_len {objs : List ObjD} (h : ∀ o ∈ objs, o.stripes.length ≤ 12) : ∀ {l : List ObjD}, (∀ o ∈ l, o ∈ objs) → (l.flatMap ObjD.stripes).length ≤ 12 * l.length
  | [], _ => by simp
  | o :: l, k => by
    have := flat_len h (l := l) fun x hx => k x (by simp [hx])
    have := h o (k o (by simp))
    rw [List.flatMap_cons, List.length_append, List.length_cons]
    omega
theorem up_of {L : List StpD} (h : L.Pairwise fun a b => a.id ≤ b.id) (k : (L.map StpD.id).Nodup) : Tb.Up L := by
  unfold List.Nodup at k
  rw [List.pairwise_map] at k
  exact (h.and k).imp fun q => by omega
/-- what Stripes tells -/
def ToldR (w : World) (L : List StpD) (e : Ending) (w' : World) : Prop := ∃ (V : Value) (K : Nat → Prop), e = .returned V ∧ Below w.heap.size w w' ∧ On (fun b => K b ∨ V.ownBlock = some b) w' (fun w'' => Cells 3 (StpO K) w'' V L) ∧ (∀ b, K b → w.heap.size ≤ b ∧ b < w'.heap.size) ∧ (∀ b, V.ownBlock = some b → w.heap.size ≤ b ∧ b < w'.heap.size ∧ ¬ K b)
theorem toldR_of {w w1 w2 : World} {K : Nat → Prop} {V : Value} {L L0 : List StpD} {e : Ending} (hb : Below w.heap.size w w1) (h : BuiltX 3 StpW K w1 TStp V L) (hK : ∀ b, K b → w.heap.size ≤ b ∧ b < w1.heap.size) (hv : ∀ b, V.ownBlock = some b → w.heap.size ≤ b) (hs : SortedS w1 K V L e w2) (hL : ∀ L' : List StpD, L'.Perm L → L'.Pairwise (fun a b => a.id ≤ b.id) → L' = L0) : ToldR w L0 (.returned V) w2 := by
  obtain ⟨-, L', h1, h2, h3, h4⟩ := hs
  have := hL L' h1 h2
  subst this
  have hlt := h.own_lt
  obtain ⟨xs, _, hno, _⟩ := h
  exact ⟨V, K, rfl, hb.trans (h4.below (fun b q => hv b q) hb.size), h3, fun b q => ⟨(hK b q).1, Nat.lt_of_lt_of_le (hK b q).2 h4.size⟩, fun b q => ⟨hv b q, Nat.lt_of_lt_of_le (hlt b q) h4.size, hno b q⟩⟩
/-- in the midst of Stripes -/
def StMid (E : Nat → Prop) (w : World) (b r : Nat) (D : DataW Value) (objs : List ObjD) (v : Value) (wr : World) : Prop := ∃ done K, Rng E wr b r D objs done ∧ BuiltX 3 StpW K wr TStp v (done.flatMap ObjD.stripes) ∧ (∀ y, K y → r < y ∧ y < wr.heap.size) ∧ (∀ y, v.ownBlock = some y → r < y) ∧ Below w.heap.size w wr
set_option maxRecDepth 100000 in
set_option maxHeartbeats 4000000 in
theorem stripesNo (w : World) : Calls Tryd.prog 21 #[.pointer none] w (ToldR w []) := by
  go_enter Tryd.func21, Tryd.ntmps21
  go_wp2_with fail
  refine (nowNo _).mono ?_
  rintro _ w2 ⟨rfl, hb2⟩
  have hrg := run_range_nilMap (P := Tryd.prog) w2 TMap TStr TObj Tryd.underlying54
  have hnx : ∀ ty, (Instr.next (.pointer (some ⟨w2.heap.size, 0, none⟩)) false ty).run Tryd.prog (w2.alloc (.mapIter none 0 #[] 0)) = _ := fun ty => run_next_nilMap w2 ty 0 0 #[]
  obtain ⟨w3, hw3⟩ : ∃ w3, w2.alloc (.mapIter none 0 #[] 0) = w3 := ⟨_, rfl⟩
  have hb3 : Below w2.heap.size w2 w3 := by rw [← hw3]; exact (Below.refl _ _).alloc (Nat.le_refl _) _
  rw [hw3] at hrg hnx
  have HB3 := Lib.hid (hb2.trans (hb3.mono hb2.size))
  clear hb2 hb3 hw3
  have hfd := field2
  go_wp2
  refine wp_loop_rounds 1 ?_
  rw [rounds_succ]
  go_wp2_with fail
  refine (sortStpsC w3 (fun _ => False) (.slice none 0 0) [] (BuiltX.start _ _ _ _ _) (Nat.zero_le _)).mono ?_
  rintro _ w4 hs
  have HS := Lib.hid (toldR_of (L0 := []) HB3.out (BuiltX.start _ _ _ _ _) (fun b q => q.elim) (fun b q => (by cases q)) hs (fun L' hp _ => List.perm_nil.1 hp))
  obtain ⟨rfl, -⟩ := hs
  go_wp2
  go_ret
  exact HS.out
section
variable {w : World} {E : Nat → Prop} {p : Nat} {A : Option Addr} {C : Nat} {t : Tb.TabD}
set_option maxRecDepth 100000 in
set_option maxHeartbeats 4000000 in
theorem stripesC0 (h : TAt w E p none (.slice A t.states.length C) t) : Calls Tryd.prog 21 #[.pointer (some ⟨p, 0, none⟩)] w (ToldR w (Tb.rowS t)) := by
  have HT := Lib.hid h
  have hrow : Tb.rowS t = [] := by
    unfold Tb.rowS Tb.stripes
    rw [h.noMap]
    rfl
  rw [hrow]
  clear h hrow
  go_enter Tryd.func21, Tryd.ntmps21
  go_wp2_with fail
  refine (nowC HT.out).mono ?_
  rintro _ w2 ⟨rfl, hb2⟩
  have hrg := run_range_nilMap (P := Tryd.prog) w2 TMap TStr TObj Tryd.underlying54
  have hnx : ∀ ty, (Instr.next (.pointer (some ⟨w2.heap.size, 0, none⟩)) false ty).run Tryd.prog (w2.alloc (.mapIter none 0 #[] 0)) = _ := fun ty => run_next_nilMap w2 ty 0 0 #[]
  obtain ⟨w3, hw3⟩ : ∃ w3, w2.alloc (.mapIter none 0 #[] 0) = w3 := ⟨_, rfl⟩
  have hb3 : Below w2.heap.size w2 w3 := by rw [← hw3]; exact (Below.refl _ _).alloc (Nat.le_refl _) _
  rw [hw3] at hrg hnx
  have HB3 := Lib.hid (hb2.trans (hb3.mono hb2.size))
  clear hb2 hb3 hw3
  have hfd := field2
  go_wp2
  refine wp_loop_rounds 1 ?_
  rw [rounds_succ]
  go_wp2_with fail
  refine (sortStpsC w3 (fun _ => False) (.slice none 0 0) [] (BuiltX.start _ _ _ _ _) (Nat.zero_le _)).mono ?_
  rintro _ w4 hs
  have HS := Lib.hid (toldR_of (L0 := []) HB3.out (BuiltX.start _ _ _ _ _) (fun b q => q.elim) (fun b q => (by cases q)) hs (fun L' hp _ => List.perm_nil.1 hp))
  obtain ⟨rfl, -⟩ := hs
  go_wp2
  go_ret
  exact HS.out
set_option maxRecDepth 100000 in
set_option maxHeartbeats 4000000 in
theorem stripesC1 {b : Nat} (h : TAt w E p (some b) (.slice A t.states.length C) t) (hok : t.Ok) (hlen : t.objs.length ≤ 1000) : Calls Tryd.prog 21 #[.pointer (some ⟨p, 0, none⟩)] w (ToldR w (Tb.rowS t)) := by
  obtain ⟨hbp, D, hmap⟩ := h.someMap
  have HT := Lib.hid h
  have HLT := Lib.hid h.lt
  have HMAP := Lib.hid hmap
  have HLEN := Lib.hid hlen
  have HOK := Lib.hid hok
  have hbw : b < w.heap.size := hmap.own.lt
  have HBW := Lib.hid hbw
  have HN5 := Lib.hid (show t.n ≤ 5 by have := h.km; omega)
  clear h hmap hlen hbw hok
  go_enter Tryd.func21, Tryd.ntmps21
  go_wp2_with fail
  refine (nowC HT.out).mono ?_
  rintro _ w2 ⟨rfl, hb2⟩
  have HB2 := Lib.hid hb2
  have HM2 := Lib.hid (HMAP.out.below hb2)
  clear hb2
  have hfd := field2
  go_wp2_with (at_range; refine wpList_range_obj _ rfl _ rfl b D t.objs rfl HM2.out (fun x q => Nat.lt_of_lt_of_le (HLT.out x q) HB2.out.size) ?_; intro w3 hrg3 hb3 hs3)
  go_frame
  have HM0 := Lib.hid (show StMid E w b w2.heap.size D t.objs (.slice none 0 0) w3 from ⟨[], fun _ => False, hrg3, BuiltX.start _ _ _ _ _, fun y q => q.elim, fun y q => (by cases q), HB2.out.trans (hb3.mono HB2.out.size)⟩)
  obtain ⟨r, hr⟩ : ∃ r, w2.heap.size = r := ⟨_, rfl⟩
  have hwr : w.heap.size ≤ r := hr ▸ HB2.out.size
  rw [hr] at HM0 ⊢
  clear hrg3 hb3 hs3 hr
  go_loopw [3] (fun v wr => StMid E w b r D t.objs v wr) (fun _ wr => wr.rangeLeft b r)
  case atStart => exact HM0.out
  case round =>
    obtain ⟨done, K, hrg, hbu, hK, hv, hbel⟩ := hrel
    have HRG := Lib.hid hrg
    have HBU := Lib.hid hbu
    have HK := Lib.hid hK
    have HV := Lib.hid hv
    have HBEL := Lib.hid hbel
    have HDL := Lib.hid (show (done.flatMap ObjD.stripes).length ≤ 12000 by
      have h1 := nodup_len hrg.nod hrg.sub
      have h2 := flat_len (objs := t.objs) (fun o ho => (idOk HOK.out ho).2.2) hrg.sub
      have h3 := HLEN.out
      omega)
    obtain ⟨A1, C1, rfl, -⟩ := hbu.len
    obtain ⟨N, hN⟩ : ∃ N, (done.flatMap ObjD.stripes).length = N := ⟨_, rfl⟩
    have HN := Lib.hid hN
    rw [hN] at HBU HV ⊢
    clear hrg hbu hbel hN hK hv
    go_wp2_with (at_next; refine wpList_next_obj _ rfl _ rfl b r D t.objs done rfl HRG.out ?_ ?_)
    · intro hperm
      have HP := Lib.hid hperm
      clear hperm
      go_wp2_with fail
      refine (sortStpsC wr K (.slice A1 N C1) (done.flatMap ObjD.stripes) HBU.out (by have := HDL.out; omega)).mono ?_
      rintro _ w4 hs
      have HS := Lib.hid (toldR_of (L0 := Tb.rowS t) HBEL.out HBU.out (fun y q => ⟨by have := (HK.out y q).1; omega, (HK.out y q).2⟩) (fun y q => by have := HV.out y q; omega) hs (fun L' hp hs' => by
        have hp2 : L'.Perm (Tb.stripes t) := hp.trans (HP.out.flatMap_right ObjD.stripes)
        exact Tb.rowS_is HOK.out (up_of hs' ((hp2.map StpD.id).nodup_iff.2 (Tb.stripes_nodup HOK.out))) hp2))
      obtain ⟨rfl, -⟩ := hs
      go_wp2
      go_ret
      exact HS.out
    · intro x A2 C2 w4 hx4 hn4 hrg4 hlt4 ht4 hs4 hon4 hen4
      have hbu4 := HBU.out.turned ht4 (fun y q => ⟨fun z => by have := (HK.out y z).1; omega, fun z => by have := HV.out y z; omega⟩)
      have hb4 : Below w.heap.size w w4 := HBEL.out.trans (ht4.below (fun y q => by rw [q]; exact hwr) HBEL.out.size)
      have hal : Below w4.heap.size w4 (w4.alloc (.cells #[.string x.key, .int .i64 x.id, .int .i64 x.size, .slice A2 x.stripes.length C2] TObj)) := (Below.refl _ _).alloc (Nat.le_refl _) _
      obtain ⟨hrg5, hl5⟩ := hrg4.below hal
      have hbox := boxed4 w4 (.string x.key) (.int .i64 x.id) (.int .i64 x.size) (.slice A2 x.stripes.length C2)
      have hbu5 := hbu4.below hal
      have hb5 := hb4.trans (hal.mono hb4.size)
      have hst : Stps (w4.alloc (.cells #[.string x.key, .int .i64 x.id, .int .i64 x.size, .slice A2 x.stripes.length C2] TObj)) (.slice A2 x.stripes.length C2) x.stripes := by
        obtain ⟨A9, C9, e9, g⟩ := hon4.here
        cases e9
        exact g.1.below hal
      have hbig := bigsOk HOK.out HN5.out hx4
      have hfew := (idOk HOK.out hx4).2.2
      have hr5 := hrg5.lt
      have HX4 := Lib.hid hx4
      obtain ⟨N2, hN2⟩ : ∃ N2, x.stripes.length = N2 := ⟨_, rfl⟩
      have HN2 := Lib.hid hN2
      rw [hN2] at hal hrg5 hl5 hbox hbu5 hb5 hst hen4 hr5 ⊢
      obtain ⟨w5, hw5⟩ : ∃ w5, w4.alloc (.cells #[.string x.key, .int .i64 x.id, .int .i64 x.size, .slice A2 N2 C2] TObj) = w5 := ⟨_, rfl⟩
      rw [hw5] at hal hrg5 hl5 hbox hbu5 hb5 hst hr5
      have HW5 := Lib.hid hw5
      have HRG5 := Lib.hid hrg5
      have HL5 := Lib.hid (show w5.rangeLeft b r < wr.rangeLeft b r by rw [hl5]; exact hlt4)
      have HBU5 := Lib.hid hbu5
      have HB5 := Lib.hid hb5
      have HST := Lib.hid hst
      have HBIG := Lib.hid hbig
      have HFEW := Lib.hid hfew
      have HR5 := Lib.hid hr5
      have HK5 := Lib.hid (show ∀ y, K y → r < y ∧ y < w5.heap.size from fun y q => ⟨(HK.out y q).1, Nat.lt_of_lt_of_le (HK.out y q).2 (Nat.le_trans ht4.size hal.size)⟩)
      obtain ⟨g, hg⟩ : ∃ g, w4.heap.size = g := ⟨_, rfl⟩
      have HG := Lib.hid hg
      rw [hg] at hbox
      have b3 := hbox.cell (i := 3) (by omega)
      have B3 := Lib.hid b3
      clear hx4 hn4 hrg4 hlt4 ht4 hs4 hon4 hbu4 hb4 hal hrg5 hl5 hbox hbu5 hb5 hst hbig hfew hr5 hN2 hw5 hg b3
      go_upto_region 5 with fail
      rw [HW5.out, HG.out]
      have b3 := B3.out
      go_wp2_with fail
      refine (cloneStripesC x.stripes _ _ HST.out HBIG.out.1 HBIG.out.2).mono ?_
      rintro _ w6 hcp
      have hcp' := hcp
      obtain ⟨A6, C6, rfl, hb6, -⟩ := hcp'
      have hbu6 := HBU5.out.below hb6
      obtain ⟨v7, w7, hr7, hbu7, ht7, hat7⟩ := run_append_copy (P := Tryd.prog) w5 w6 41 41 TStp Tryd.underlying41 infoStp (.slice A1 N C1) (done.flatMap ObjD.stripes) K hbu6 (fun y q => Nat.lt_of_lt_of_le (HK5.out y q).2 hb6.size) A6 C6 x.stripes hcp (fun y q => HBU5.out.own_lt y q) (by have := HDL.out; have := HFEW.out; omega)
      obtain ⟨hrg6, hl6⟩ := HRG5.out.below hb6
      obtain ⟨hrg7, hl7⟩ := hrg6.turned ht7 (fun y q => ⟨fun z => by have := HV.out y q; have := HLT.out y z; omega, by have := HV.out y q; have := HBW.out; omega, by have := HV.out y q; omega⟩)
      have HM7 := Lib.hid (show StMid E w b r D t.objs v7 w7 from ⟨done ++ [x], _, hrg7, by rw [List.flatMap_append, List.flatMap_cons, List.flatMap_nil, List.append_nil]; exact hbu7, fun y q => by
          rcases q with q | q
          · exact ⟨(HK5.out y q).1, Nat.lt_of_lt_of_le (HK5.out y q).2 (Nat.le_trans hb6.size ht7.size)⟩
          · exact ⟨by have := HR5.out; omega, Nat.lt_of_lt_of_le q.2 ht7.size⟩, fun y q => by
          rcases hat7 with e | e
          · exact HV.out y (e ▸ q)
          · rw [e] at q
            have : w6.heap.size = y := Option.some.inj q
            have := HR5.out
            have := hb6.size
            omega, (HB5.out.trans (hb6.mono HB5.out.size)).trans (ht7.below (fun y q => by have := HV.out y q; omega) (Nat.le_trans HB5.out.size hb6.size))⟩)
      have HL7 := Lib.hid (show w7.rangeLeft b r < wr.rangeLeft b r by rw [hl7, hl6]; exact HL5.out)
      rw [HN2.out] at hr7 ⊢
      have HR7 := Lib.hid hr7
      clear hcp hb6 hbu6 hr7 hbu7 ht7 hat7 hrg6 hl6 hrg7 hl7 b3
      go_wp2_with (at_builtin; refine Lib.wpList_append_run _ rfl (.tmp 14) (.tmp 17) 41 41 rfl _ _ rfl rfl _ _ HR7.out ?_)
      go_roundw
      case rel => exact HM7.out
      case measure => exact HL7.out
theorem stripesC {M : Option Nat} (h : TAt w E p M (.slice A t.states.length C) t) (hok : t.Ok) (hlen : t.objs.length ≤ 1000) : Calls Tryd.prog 21 #[.pointer (some ⟨p, 0, none⟩)] w (ToldR w (Tb.rowS t)) := by
  cases M with
  | none => exact stripesC0 h
  | some b => exact stripesC1 h hok hlen
end
end Go.Proofs.YtegbgnjmkohcfaaDoor.Tbl
namespace Go.Proofs.YtegbgnjmkohcfaaDoor.Tbl
set_option linter.unusedVariables false
open Go.ChangeShapes Go.WideShapes Go.ChangeAt Go.RowKit
open Go.Mem RecM
abbrev TRec : Nat := 44
/-- the record under way -/
def aRow (last epoch : Int) (v S : Value) : Nat → Value := fun j => #[Value.int .i64 5, .int .i64 last, .int .i64 epoch, .string ⟨#[]⟩, .slice none 0 0, v, S].getD j undef
theorem aRow_set (last epoch : Int) (v S u : Value) (j : Nat) (hj : j < 7) : (if j = 5 then u else aRow last epoch v S j) = aRow last epoch u S j := by
  rcases (by omega : j = 0 ∨ j = 1 ∨ j = 2 ∨ j = 3 ∨ j = 4 ∨ j = 5 ∨ j = 6) with rfl | rfl | rfl | rfl | rfl | rfl | rfl <;> rfl
theorem objR_of {w : World} {o : ObjD} {A : Option Addr} {n C : Nat} (h : ObjIs w (.agg #[.string o.key, .int .i64 o.id, .int .i64 o.size, .slice A n C]) o) : ObjR w (fun j => #[Value.string o.key, .int .i64 o.id, .int .i64 o.size, .slice A n C].getD j undef) o := by
  obtain ⟨A9, C9, e9, g⟩ := h
  cases e9
  exact ⟨rfl, rfl, rfl, g⟩
/-- in the midst of All: i objects stand in the record in block g -/
def AllMid (wl : World) (g : Nat) (last epoch : Int) (S : Value) (objs : List ObjD) (i : Nat) (v : Value) (wr : World) : Prop := ∃ K : Nat → Prop, BuiltX 4 ObjR K wr TObj v (objs.take i) ∧ (∀ y, K y → wl.heap.size ≤ y ∧ y < wr.heap.size) ∧ (∀ y, v.ownBlock = some y → wl.heap.size ≤ y) ∧ wr.rowIs g TRec 7 (aRow last epoch v S) ∧ Turned (fun y => y = g) wl wr
theorem AllMid.len {wl : World} {g : Nat} {last epoch : Int} {S : Value} {objs : List ObjD} {i : Nat} {v : Value} {wr : World} (h : AllMid wl g last epoch S objs i v wr) (hi : i ≤ objs.length) : ∃ A C, v = .slice A i C := by
  obtain ⟨K, q, _⟩ := h
  obtain ⟨A', C', e, -⟩ := q.len
  rw [List.length_take, Nat.min_eq_left hi] at e
  exact ⟨A', C', e⟩
/-- one object more: it is copied, and put behind the others -/
theorem all_next {wl wr w5 : World} {g : Nat} {last epoch : Int} {S : Value} {objs : List ObjD} {i : Nat} {A1 : Option Addr} {C1 : Nat} (h : AllMid wl g last epoch S objs i (.slice A1 i C1) wr) (hg : g < wl.heap.size) (hi : i < objs.length) (hlen : objs.length ≤ 1000) {A5 : Option Addr} {C5 n5 : Nat} (hb : Below wr.heap.size wr w5)
    (hon : On (fun b => wr.heap.size ≤ b ∧ b < w5.heap.size) w5 (fun w'' => ObjIs w'' (.agg #[.string objs[i].key, .int .i64 objs[i].id, .int .i64 objs[i].size, .slice A5 n5 C5]) objs[i])) :
    ∃ A7 C7 w7, (Builtin.append_ #[42, 42] 42 #[.slice A1 i C1, .slice (some ⟨w5.heap.size, 0, none⟩) 1 1]).run Tryd.prog (w5.alloc (.cells #[.string objs[i].key, .int .i64 objs[i].id, .int .i64 objs[i].size, .slice A5 n5 C5] TObj)) = .ok (.slice A7 (i + 1) C7) w7 ∧
      AllMid wl g last epoch S objs (i + 1) (.slice A7 (i + 1) C7) (w7.setCell ⟨g, 5, none⟩ (.slice A7 (i + 1) C7)) ∧ w5.rowIs g TRec 7 (aRow last epoch (.slice A1 i C1) S) ∧ w7.rowIs g TRec 7 (aRow last epoch (.slice A1 i C1) S) := by
  obtain ⟨K, k1, k2, k3, k4, k5⟩ := h
  have hs := k5.size
  have hsb := hb.size
  have hTL : (objs.take i).length = i := by rw [List.length_take]; omega
  have hTK : objs.take (i + 1) = objs.take i ++ [objs[i]] := List.take_succ_eq_append_getElem hi
  have hown := k1.own_lt
  have r5 := k4.of_block (hb.block g k4.lt)
  have hb5 := (k1.below hb).more (K' := fun b => K b ∨ (wr.heap.size ≤ b ∧ b < w5.heap.size)) (fun b q => .inl q) (fun b q z => by
    obtain ⟨xs, _, hno, _⟩ := k1
    rcases z with z | z
    · exact hno b q z
    · have := hown b q; omega)
  obtain ⟨v7, w7, hr7, hbu7, ht7, hat7⟩ := run_append_builtX (P := Tryd.prog) w5 42 42 TObj _ 56 Tryd.underlying42 infoObj rfl (by omega) (.slice A1 i C1) (objs.take i) hb5 (fun b q => by
      rcases q with q | q
      · have := (k2 b q).2; omega
      · exact q.2) #[.string objs[i].key, .int .i64 objs[i].id, .int .i64 objs[i].size, .slice A5 n5 C5] objs[i] rfl (fun u hu => by simp at hu; rcases hu with rfl | rfl | rfl | rfl <;> rfl)
      ((On.more hon fun b q => .inr q).map fun w' q => objR_of q) (by rw [hTL]; omega)
  rw [← hTK] at hbu7
  obtain ⟨A7, C7, e7, -⟩ := hbu7.len
  rw [List.length_take, Nat.min_eq_left (by omega)] at e7
  subst e7
  have hgo : ∀ y, (Value.slice A1 i C1).ownBlock = some y → y ≠ g := fun y q e => by have := k3 y q; omega
  have r7 := r5.of_block (ht7.block g r5.lt (fun q => hgo g q rfl))
  have hv7 : ∀ y, (Value.slice A7 (i + 1) C7).ownBlock = some y → wl.heap.size ≤ y := fun y q => by
    rcases hat7 with e | e
    · exact k3 y (e ▸ q)
    · rw [e] at q
      have : w5.heap.size + 1 = y := Option.some.inj q
      omega
  have hset : Turned (fun y => y = g) w7 (w7.setCell ⟨g, 5, none⟩ (.slice A7 (i + 1) C7)) := Turned.set _ rfl
  refine ⟨A7, C7, w7, hr7, ⟨_, hbu7.turned hset (fun y q => ⟨fun z => ?_, fun z => ?_⟩), fun y q => ?_, hv7, (r7.set 5 _).congr (fun j hj => aRow_set _ _ _ _ _ j hj), ?_⟩, r5, r7⟩
  · subst q
    rcases z with z | z
    · have := (k2 y z).1; omega
    · omega
  · subst q
    have := hv7 y z; omega
  · have h7 := ht7.size
    have h8 := hset.size
    rcases q with q | q
    · exact ⟨(k2 y q).1, by have := (k2 y q).2; omega⟩
    · exact ⟨by omega, by omega⟩
  · exact ((k5.trans (Turned.of_below (fun y => y = g) hb) (Grown.refl _ _)).trans ht7 (fun y q => .inr (k3 y q))).trans hset (fun y q => .inl q)
def ToldA (w : World) (r : RecD) (e : Ending) (w' : World) : Prop := ∃ V, e = .returned V ∧ Own w w' (fun w'' => RecV w'' V r)
end Go.Proofs.YtegbgnjmkohcfaaDoor.Tbl
