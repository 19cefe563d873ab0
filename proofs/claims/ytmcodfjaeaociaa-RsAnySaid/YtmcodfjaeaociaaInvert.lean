/- What mat.Invert does with a table that may have an inverse. -/
import Derived.Test.YtmcodfjaeaociaaSolve2
import Derived.Test.YtmcodfjaeaociaaRws
import Derived.Deep.RegionLaw
namespace Go.Proofs.Ytmcodfjaeaociaa.Mat
open Go.ChangeShapes Go.WideShapes Go.ChangeAt Go.RowKit
open Go.Mem
open GfPlain Gf
/-- beside a, a unit -/
def besides (a : List (List Nat)) (j : Nat) : List Nat := catTo [a.getD j [], (List.range a.length).map (unitF j)] 2
def F0 (a : List (List Nat)) : Nat → Nat → Nat := fun j i => (besides a j).getD i 0
/-- the rows behind q columns -/
inductive Reach (n : Nat) (F : Nat → Nat → Nat) : Nat → (Nat → Nat → Nat) → Prop
  | none : Reach n F 0 F
  | step {q f : Nat} {F' : Nat → Nat → Nat} : Reach n F q F' → q + f < n → F' (q + f) q ≠ 0 → Reach n F (q + 1) (solveF F' n q f)
def InvPost (a : List (List Nat)) (e : Ending) (w' : World) : Prop :=
  (e = .returned (.tuple #[.slice none 0 0, .int .i64 7]) ∧ ∃ q F, q < a.length ∧ Reach a.length (F0 a) q F ∧ ∀ i, q ≤ i → i < a.length → F i q = 0) ∨
  ∃ v F, e = .returned (.tuple #[v, .int .i64 0]) ∧ Reach a.length (F0 a) a.length F ∧ Tab w' v (tabOf a.length a.length (fun j i => F j (a.length + i)))
theorem Tab_two {w : World} {v1 v2 : Value} {l1 l2 : List Nat} (t : Nat) (h1 : Bytes w v1 l1) (h2 : Bytes w v2 l2) : Tab (w.alloc (.cells #[v1, v2] t)) (.slice (some ⟨w.heap.size, 0, none⟩) 2 2) [l1, l2] := by
  have hal : Below w.heap.size w (w.alloc (.cells #[v1, v2] t)) := (Below.refl _ _).alloc (Nat.le_refl _) _
  refine ⟨some ⟨w.heap.size, 0, none⟩, 2, 2, rfl, rfl, Nat.le_refl _, by unfold maxLen; omega, (fun e => by cases e), fun i hi => ?_⟩
  match i, hi with
  | 0, _ => exact ⟨w.heap.size, 0, v1, rfl, by simp, h1.below hal⟩
  | 1, _ => exact ⟨w.heap.size, 0, v2, rfl, by simp, h2.below hal⟩
theorem besides_at {a : List (List Nat)} {k : Nat} (hk : k < a.length) : catTo [a[k], (List.range a.length).map (unitF k)] 2 = besides a k := by
  unfold besides; rw [show a.getD k [] = a[k] by simp [hk]]
theorem besides_len {a : List (List Nat)} {k : Nat} (hk : k < a.length) (hl : a[k].length = a.length) : (besides a k).length = 2 * a.length := by
  rw [← besides_at hk, catTo_len]
  simp [lensTo, hl]; omega
theorem cloneAt (l : List Nat) (b o m C base : Nat) (w : World) (hm : m = l.length) (h : Bytes w (.slice (some ⟨b, o, none⟩) m C) l) (hl : m ≤ 4294967296) (hbase : base ≤ w.heap.size) :
    Calls Try.prog 37 #[.slice (some ⟨b, o, none⟩) m C] w fun e w' => ∃ u, e = .returned u ∧ Built ByteR w' base 5 u l ∧ Below base w w' := by
  subst hm; exact cloneC l b o C base w h hl hbase
theorem Row_tail {w : World} {b n m C : Nat} {g : Nat → Nat} (h : Row w b 0 m g) (hn : n ≤ m) (hC : m ≤ C) (hC' : C ≤ 9223372036854775807) : Bytes w (.slice (some ⟨b, n, none⟩) (m - n) (C - n)) ((List.range (m - n)).map fun i => g (n + i)) := by
  refine ⟨some ⟨b, n, none⟩, m - n, C - n, rfl, by simp, by omega, by unfold maxLen; omega, (fun e => by cases e), fun i hi => ?_⟩
  have hi' : i < m - n := by simpa using hi
  have hc := h.cell (n + i) (by omega)
  rw [Nat.zero_add] at hc
  exact ⟨b, n, _, rfl, hc, by simp, by simpa using h.bd (n + i) (by omega)⟩
set_option maxHeartbeats 2000000 in
theorem invertGo (a : List (List Nat)) (va : Value) (w : World) (ha : Tab w va a) (hf : fitB a = true) (hw : width a = a.length) (h7 : a.length ≤ 7) :
    Calls Try.prog 24 #[va] w fun e w' => Below w.heap.size w w' ∧ InvPost a e w' := by
  obtain ⟨pa, wa⟩ := fitB_iff.1 hf
  obtain ⟨A, C, rfl, h1, h2, _⟩ := ha.shape
  have hq : ((width a : Int) != (a.length : Int)) = false := by rw [hw]; simp
  have HW := Lib.hid hw; clear hw
  have hpa : (0 : Int) < a.length := by omega
  obtain ⟨ba, oa, Aa, Ca, rfl, hcaw, hma, _⟩ := ha.at pa
  rw [← width_get pa, Nat.add_zero] at hcaw
  rw [← width_get pa] at hma
  go_enter Try.func24, Try.ntmps24
  go_wp2_with fail
  refine (filledC a _ _ ha).mono ?_; rintro e w1 ⟨rfl, hb1⟩
  have hca := below_cell hb1 _ _ hcaw
  go_wp2_with fail
  refine (unitC a.length _ (by omega)).mono ?_; rintro e w2 ⟨rfl, hf2, hb2⟩
  obtain ⟨g2, hr2⟩ := hf2.rws (Nat.le_refl _) (by omega)
  have hb12 := hb1.trans (hb2.mono hb1.size)
  have hP := hb1.size
  go_wp2_with fail
  go_loopw [30] (fun c wr => ∃ k : Nat, k ≤ a.length ∧ c = .int .i64 k ∧ Below w.heap.size w wr ∧ ∃ g C, Rws wr w1.heap.size a.length g (fun j => if j < k then 2 * a.length else a.length) C (fun j => if j < k then F0 a j else unitF j) ∧
    (∀ j, j < k → w.heap.size ≤ g j) ∧ ∀ i j, i < k → j < k → i ≠ j → g i ≠ g j) (fun c _ => a.length - (intOf c).toNat)
  case atStart => exact ⟨0, Nat.zero_le _, rfl, hb12, g2, _, hr2.congr (fun j _ => if_neg (by omega)) (fun j _ i _ => by rw [if_neg (by omega)]), fun j hj => absurd hj (by omega), fun i j hi => absurd hi (by omega)⟩
  case round =>
    clear hr2 hf2
    obtain ⟨k, hk, rfl, hbr, g, C1, hR, hlo, hinj⟩ := hrel
    obtain ⟨wo, rfl⟩ : ∃ wo : World, wo = wr := ⟨_, rfl⟩
    by_cases hlt : k < a.length
    · obtain ⟨Ak, Ck, hck0, hmk, hbk⟩ := ha.here hlt
      have hck := below_cell hbr _ _ hck0
      have hru := hR.cell k hlt
      rw [if_neg (by omega)] at hru
      have hfu := hR.free k hlt
      have hbu : Bytes wo (.slice (some ⟨g k, 0, none⟩) a.length (C1 k)) ((List.range a.length).map (unitF k)) := by
        have h1 := hR.row k hlt
        have h2 := hR.cap k hlt
        rw [if_neg (by omega)] at h1 h2
        rw [if_neg (by omega)] at h1
        exact h1.bytes h2.1 h2.2
      have hal : Below wo.heap.size wo (wo.alloc (.cells #[.slice Ak a[k].length Ck, .slice (some ⟨g k, 0, none⟩) a.length (C1 k)] 22)).drew := ((Below.refl _ _).alloc (Nat.le_refl _) _).drew
      have HT := Lib.hid ((Tab_two 22 (hbk.below hbr) hbu).drewN 1)
      have HCK := Lib.hid (below_cell hal _ _ hck)
      have HRU := Lib.hid (below_cell hal _ _ hru)
      have HFU := Lib.hid ((hal.frozen (p := ⟨w1.heap.size, k, none⟩) hR.hi.1).trans hfu)
      have HPS := Lib.hid (Nat.lt_of_lt_of_le hR.hi.1 hal.size)
      have HRA := Lib.hid (hR.below hal)
      have hlk : a[k].length = a.length := (wa k hlt hlt).trans HW.out
      have HLK := Lib.hid hlk
      have HLEN := Lib.hid (show lensTo [a[k], (List.range a.length).map (unitF k)] 2 ≤ 4294967296 by simp [lensTo, hlk]; omega)
      have HBL := Lib.hid (besides_len hlt hlk)
      clear hlk
      go_wp2_with fail
      go_region_law
        (first | (go_simp; go_at_call 25; refine (concatC [a[k], (List.range a.length).map (unitF k)] _ _ HT.out HLEN.out).mono ?_; rintro e w4 ⟨u4, rfl, hbu4, hb4⟩; have hru4 := below_cell hb4 _ _ HRU.out; obtain ⟨b4, cap4, rfl, hca4, hcb4, hlo4, hhi4, hro4⟩ := Built.row (L := besides a k) (by rw [← besides_at hlt]; exact hbu4) (by rw [HBL.out]; omega); have hfr4 := (hb4.frozen (p := ⟨w1.heap.size, k, none⟩) HPS.out).trans HFU.out; clear hbu4))
      all_goals
        have hlo5 : wo.heap.size + 1 ≤ b4 := by simpa using hlo4
        have hR4 := HRA.out.below hb4
        have hRN := (hR4.put hlt hro4 (by have := hR.hi.1; omega) hhi4 ⟨hca4, hcb4⟩).congr (m' := fun j => if j < k + 1 then 2 * a.length else a.length) (F' := fun j => if j < k + 1 then F0 a j else unitF j)
          (fun j _ => by
            by_cases e : j = k
            · subst e; rw [if_pos (by omega), if_pos rfl, HBL.out]
            · rw [if_neg e]
              by_cases hj : j < k
              · rw [if_pos (by omega), if_pos hj]
              · rw [if_neg (by omega), if_neg hj])
          (fun j _ i _ => by
            by_cases e : j = k
            · subst e; rw [if_pos (by omega), if_pos rfl]; rfl
            · rw [if_neg e]
              by_cases hj : j < k
              · rw [if_pos (by omega), if_pos hj]
              · rw [if_neg (by omega), if_neg hj])
        have HRN := Lib.hid hRN
        have HBB := Lib.hid (((hbr.trans (hal.mono hbr.size)).trans (hb4.mono (Nat.le_trans hbr.size hal.size))).setCell (p := ⟨w1.heap.size, k, none⟩) hP (.slice (some ⟨b4, 0, none⟩) (besides a k).length cap4))
        have HLO := Lib.hid (show ∀ j, j < k + 1 → w.heap.size ≤ (fun j => if j = k then b4 else g j) j from fun j hj => by
          show w.heap.size ≤ if j = k then b4 else g j
          by_cases e : j = k
          · rw [if_pos e]; have := hbr.size; omega
          · rw [if_neg e]; exact hlo j (by omega))
        have HIN := Lib.hid (show ∀ i j, i < k + 1 → j < k + 1 → i ≠ j → (fun j => if j = k then b4 else g j) i ≠ (fun j => if j = k then b4 else g j) j from fun i j hi hj hne => by
          show (if i = k then b4 else g i) ≠ if j = k then b4 else g j
          by_cases e : i = k
          · rw [if_pos e, if_neg (by omega)]; have := hR.hi.2 j (by omega); omega
          · rw [if_neg e]
            by_cases e' : j = k
            · rw [if_pos e']; have := hR.hi.2 i (by omega); omega
            · rw [if_neg e']; exact hinj i j (by omega) (by omega) hne)
        clear hR4 hRN hru4 hfr4 hro4 hlo hinj hR hbr hal
        go_wp2
        go_roundw
        case rel => exact ⟨k + 1, by omega, by go_num, HBB.out, _, _, HRN.out, HLO.out, HIN.out⟩
        case measure => simp [intOf]; omega
    · obtain rfl : k = a.length := by omega
      have hSq : Sq wo w.heap.size w1.heap.size a.length (2 * a.length) g C1 (F0 a) :=
        (hR.congr (F' := F0 a) (m' := fun _ => 2 * a.length) (fun j hj => by rw [if_pos hj]) (fun j hj i _ => by rw [if_pos hj])).sq (fun _ _ => rfl) (fun i j hi hj hne => hinj i j hi hj hne) ⟨hP, fun j hj => hlo j hj⟩
      clear hR hlo hinj
      go_wp2_with fail
      go_loopw [48] (fun c wr => ∃ q : Nat, q ≤ a.length ∧ c = .int .i64 q ∧ Below w.heap.size w wr ∧ ∃ g C F, Sq wr w.heap.size w1.heap.size a.length (2 * a.length) g C F ∧ Reach a.length (F0 a) q F) (fun c _ => a.length - (intOf c).toNat)
      case atStart => exact ⟨0, Nat.zero_le _, rfl, hbr, g, C1, _, hSq, .none⟩
      case round =>
        clear hSq hbr
        obtain ⟨q, hq', rfl, hbr, g, C2, F, hS, hRe⟩ := hrel
        by_cases hlt : q < a.length
        · have HZ0 := Lib.hid hRe
          clear hRe
          go_wp2_with fail
          refine (solveYes a.length (2 * a.length) q w.heap.size w1.heap.size g C2 F _ hlt (by omega) (by omega) (by omega) hS).mono ?_
          rintro e w5 ⟨hb5, h5⟩
          rcases h5 with ⟨rfl, hz⟩ | ⟨f, G', C', hf, hfz, rfl, hS'⟩
          · have HP := Lib.hid (show InvPost a (.returned (.tuple #[.slice none 0 0, .int .i64 7])) w5 from .inl ⟨rfl, q, F, hlt, HZ0.out, hz⟩)
            clear hz
            go_wp2
            go_ret2
            exact ⟨hbr.trans hb5, HP.out⟩
          · have HRE := Lib.hid (Reach.step HZ0.out hf hfz)
            have HF := Lib.hid hfz
            clear hfz hS
            go_wp2
            go_roundw
            case rel => exact ⟨q + 1, by omega, by go_num, hbr.trans hb5, G', C', _, hS', HRE.out⟩
            case measure => simp [intOf]; omega
        · obtain rfl : q = a.length := by omega
          have hRw := hS.rws
          have HRE := Lib.hid hRe
          clear hRe hS
          go_wp2_with fail
          go_loopw [58] (fun c wr => ∃ k : Nat, k ≤ a.length ∧ c = .int .i64 k ∧ Below w.heap.size w wr ∧ ∃ g C, Rws wr w1.heap.size a.length g (fun j => if j < k then a.length else 2 * a.length) C (fun j => if j < k then fun i => F j (a.length + i) else F j)) (fun c _ => a.length - (intOf c).toNat)
          case atStart => exact ⟨0, Nat.zero_le _, rfl, hbr, g, C2, hRw.congr (fun j _ => if_neg (by omega)) (fun j _ i _ => by rw [if_neg (by omega)])⟩
          case round =>
            clear hRw hbr
            obtain ⟨k, hk', rfl, hbr, g3, C3, hR⟩ := hrel
            by_cases hlt : k < a.length
            · have hru := hR.cell k hlt
              have hfu := hR.free k hlt
              have hca3 := hR.cap k hlt
              have hro := hR.row k hlt
              rw [if_neg (by omega)] at hru hca3 hro
              rw [if_neg (by omega)] at hro
              have hne3 : ¬ C3 k = a.length := by omega
              have HT := Lib.hid (Row_tail hro (show a.length ≤ 2 * a.length by omega) hca3.1 hca3.2)
              go_wp2_with fail
              refine (cloneAt ((List.range (2 * a.length - a.length)).map fun i => F k (a.length + i)) (g3 k) a.length _ _ wr.heap.size _ (by simp) HT.out (by omega) (Nat.le_refl _)).mono ?_
              rintro e w6 ⟨u6, rfl, hbu6, hb6⟩
              obtain ⟨b6, cap6, rfl, hca6, hcb6, hlo6, hhi6, hro6⟩ := hbu6.row (by simp; omega)
              have hl6 : ((List.range (2 * a.length - a.length)).map fun i => F k (a.length + i)).length = a.length := by simp; omega
              rw [hl6] at hca6 hro6 ⊢
              have hR6 := hR.below hb6
              have HRN := Lib.hid ((hR6.put hlt hro6 (by have := hR.hi.1; omega) hhi6 ⟨hca6, hcb6⟩).congr (m' := fun j => if j < k + 1 then a.length else 2 * a.length) (F' := fun j => if j < k + 1 then fun i => F j (a.length + i) else F j)
                (fun j _ => by
                  by_cases e : j = k
                  · subst e; rw [if_pos (by omega), if_pos rfl]
                  · rw [if_neg e]
                    by_cases hj : j < k
                    · rw [if_pos (by omega), if_pos hj]
                    · rw [if_neg (by omega), if_neg hj])
                (fun j _ i hi => by
                  by_cases e : j = k
                  · subst e
                    rw [if_pos rfl] at hi
                    rw [if_pos (by omega), if_pos rfl]
                    simp [show i < 2 * a.length - a.length by omega]
                  · rw [if_neg e]
                    by_cases hj : j < k
                    · rw [if_pos (by omega), if_pos hj]
                    · rw [if_neg (by omega), if_neg hj]))
              have HBB := Lib.hid ((hbr.trans (hb6.mono hbr.size)).setCell (p := ⟨w1.heap.size, k, none⟩) hP (.slice (some ⟨b6, 0, none⟩) a.length cap6))
              have hru6 := below_cell hb6 _ _ hru
              have hfu6 := (hb6.frozen (p := ⟨w1.heap.size, k, none⟩) hR.hi.1).trans hfu
              clear hl6 hR6 hbu6 hro6 hro hR hbr
              go_wp2
              go_roundw
              case rel => exact ⟨k + 1, by omega, by go_num, HBB.out, _, _, HRN.out⟩
              case measure => simp [intOf]; omega
            · obtain rfl : k = a.length := by omega
              have HT := Lib.hid ((hR.congr (F' := fun j i => F j (a.length + i)) (m' := fun _ => a.length) (fun j hj => by rw [if_pos hj]) (fun j hj i _ => by rw [if_pos hj])).tab (by omega) (fun _ _ => rfl))
              go_wp2
              go_ret2
              exact ⟨hbr, .inr ⟨_, F, rfl, HRE.out, HT.out⟩⟩
end Go.Proofs.Ytmcodfjaeaociaa.Mat
