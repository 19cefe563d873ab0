/- The document's drive, as walks. -/
import Derived.Test.YthlonnbafekjbaaRows
import Derived.Test.YthlonnbafekjbaaDr
import Derived.Test.YthlonnbafekjbaaZeros
import Derived.Deep.Cut
import Derived.Deep.RegionLaw
import Derived.StillTailTactics
import Derived.Laws.CopyOwn
namespace Go.Proofs.Ythlonnbafekjbaa.Drive
set_option linter.unusedVariables false
open Go.ChangeShapes Go.WideShapes Go.ChangeAt Go.RowKit
open Go.Mem Drv
abbrev RDr := Dr 39 28 62
abbrev RAt := DrAt 39 28 62
theorem infoRow : (Try.prog.info? 28).map (fun i => (i.zero, i.size, i.bytes)) = some (some (.slice none 0 0), 1, 24) := by kernel_rfl
theorem infoByte : (Try.prog.info? 5).map (fun i => (i.zero, i.size, i.bytes)) = some (some (.int .u8 0), 1, 1) := by kernel_rfl
theorem fresh_at (T tS tW : Nat) (w : World) (n : Nat) (s : St) (hs : s = ⟨List.replicate n [], [], false⟩) (hn : n ≤ 128) :
    Dr T tS tW ((w.alloc (.cells (madeCells #[.slice none 0 0] n) tS)).alloc (.cells #[.slice (some ⟨w.heap.size, 0, none⟩) n n, .slice none 0 0, .bool false] T)) (fun b => b = w.heap.size ∨ b = w.heap.size + 1) (w.heap.size + 1) s := by
  subst hs
  have s1 : (w.alloc (.cells (madeCells #[.slice none 0 0] n) tS)).heap.size = w.heap.size + 1 := by simp
  refine ⟨fun _ => False, .slice (some ⟨w.heap.size, 0, none⟩) n n, .slice none 0 0, fun _ => .slice none 0 0, fun _ => .slice none 0 0, ?_⟩
  refine ⟨?_, .inr ⟨w.heap.size, by simp, ?_, .inl rfl, by omega, fun q => q, (fun q => by cases q)⟩, fun i hi => ?_, World.ownsRow_nil _ _ _ _, fun j hj => absurd hj (by simp), (fun b hb => by cases hb), .inr rfl, fun q => q, fun _ q => q.elim, ?_, ⟨fun j hj => absurd hj (by simp), by simpa using hn, (fun q => by cases q), fun l hl => by
    have := List.eq_of_mem_replicate hl; subst this; simp, fun x hx => absurd hx (by simp)⟩⟩
  · have h := World.rowIs_alloc (w.alloc (.cells (madeCells #[.slice none 0 0] n) tS)) #[.slice (some ⟨w.heap.size, 0, none⟩) n n, .slice none 0 0, .bool false] T (fld (.slice (some ⟨w.heap.size, 0, none⟩) n n) (.slice none 0 0) false) (fun i hi => by
      have : i < 3 := hi
      rcases (by omega : i = 0 ∨ i = 1 ∨ i = 2) with rfl | rfl | rfl <;> rfl)
    rw [s1] at h
    exact h
  · have h := World.rowIs_made w (.slice none 0 0) n tS
    simp only [List.length_replicate]
    exact h.of_block (heap_alloc_old _ _ (by rw [s1]; omega))
  · simp only [List.getElem_replicate]
    exact RowIn.nil _ _
  · intro b hb
    rcases hb with h | h <;> (subst h; simp [World.size_alloc]; try omega)
set_option maxHeartbeats 1000000 in
theorem refNewC (n : Int) (l0 : -9223372036854775808 ≤ n) (u0 : n ≤ 9223372036854775807) (w : World) :
    Calls Try.prog 10 #[.int .i64 n] w fun e w' => e = .returned (.pointer (some ⟨w.heap.size + 1, 0, none⟩)) ∧ RDr w' (fun b => b = w.heap.size ∨ b = w.heap.size + 1) (w.heap.size + 1) (fresh n) ∧ Below w.heap.size w w' := by
  have hbel : ∀ k c, Below w.heap.size w ((w.alloc (.cells (madeCells #[.slice none 0 0] k) 28)).alloc (.cells c 39)) := fun k c => ((Below.refl _ _).alloc (Nat.le_refl _) _).alloc (by simp) _
  obtain ⟨K, hK⟩ : ∃ K, K = clamp n := ⟨_, rfl⟩
  have hK8 : K ≤ 128 := hK ▸ clamp_le n
  have HFR := Lib.hid (fresh_at 39 28 62 w K (fresh n) (by unfold fresh; rw [hK]) hK8)
  have HBE := Lib.hid hbel
  have hmk := run_make_row' (P := Try.prog) 36 28 (.slice none 0 0) 24 Try.underlying36 infoRow rfl .i64 .i64 K (by omega) (by omega)
  clear hbel
  by_cases h1 : n < 0
  · have e0 : K = 0 := by rw [hK]; unfold clamp; rw [if_pos h1]
    subst e0
    clear hK hmk
    have hmk0 : ∀ w, (Instr.makeSlice 36 (.int .i64 0) (.int .i64 0)).run Try.prog w = .ok (.slice (some ⟨w.heap.size, 0, none⟩) 0 0) (w.alloc (.cells (madeCells #[.slice none 0 0] 0) 28)) := run_make_row' (P := Try.prog) 36 28 (.slice none 0 0) 24 Try.underlying36 infoRow rfl .i64 .i64 0 (by omega) (by omega)
    go_enter Try.func10, Try.ntmps10
    go_wp2
    go_ret
    exact ⟨rfl, HFR.out, HBE.out _ _⟩
  · by_cases h2 : 128 < n
    · have e0 : K = 128 := by rw [hK]; unfold clamp; rw [if_neg h1, if_pos h2]
      subst e0
      clear hK hmk
      have hmk8 : ∀ w, (Instr.makeSlice 36 (.int .i64 128) (.int .i64 128)).run Try.prog w = .ok (.slice (some ⟨w.heap.size, 0, none⟩) 128 128) (w.alloc (.cells (madeCells #[.slice none 0 0] 128) 28)) := run_make_row' (P := Try.prog) 36 28 (.slice none 0 0) 24 Try.underlying36 infoRow rfl .i64 .i64 128 (by omega) (by omega)
      go_enter Try.func10, Try.ntmps10
      go_wp2
      go_ret
      exact ⟨rfl, HFR.out, HBE.out _ _⟩
    · have e0 : n = (K : Nat) := by rw [hK]; unfold clamp; rw [if_neg h1, if_neg h2]; omega
      subst e0
      clear hK
      go_enter Try.func10, Try.ntmps10
      go_wp2
      go_ret
      exact ⟨rfl, HFR.out, HBE.out _ _⟩
set_option maxHeartbeats 1000000 in
theorem refCheckC {w : World} {F : Nat → Prop} {p : Nat} {s : St} (h : RDr w F p s) (i : Int) (l0 : -9223372036854775808 ≤ i) (u0 : i ≤ 9223372036854775807) :
    Calls Try.prog 23 #[.pointer (some ⟨p, 0, none⟩), .int .i64 i] w fun e w' => e = .returned (.int .i64 (s.check i)) ∧ w = w' := by
  obtain ⟨R, S, L, V, X, h⟩ := h
  obtain ⟨c0, c1, c2⟩ := h.cells
  obtain ⟨A, rfl, _⟩ := h.shape
  have hsm := h.ok.sm
  obtain ⟨n, hn⟩ : ∃ n, s.slots.length = n := ⟨_, rfl⟩
  rw [hn] at c0 hsm
  obtain ⟨x, hx⟩ : ∃ x, s.lost = x := ⟨_, rfl⟩
  rw [hx] at c2
  have HE := Lib.hid (show s.check i = if x = true then 8 else if i < 0 ∨ (n : Int) ≤ i then 1 else 0 by unfold St.check; rw [hx, hn])
  clear hn hx h
  cases x
  · by_cases h1 : i < 0
    · have HE1 := Lib.hid (show s.check i = 1 by rw [HE.out]; simp [h1])
      have hd : decide (i < 0) = true := by simpa using h1
      go_enter Try.func23, Try.ntmps23
      go_wp2
      go_ret
      exact ⟨by rw [HE1.out]; rfl, rfl⟩
    · have hd : decide (i < 0) = false := by simpa using h1
      by_cases h2 : (n : Int) ≤ i
      · have HE1 := Lib.hid (show s.check i = 1 by rw [HE.out]; simp [h2])
        go_enter Try.func23, Try.ntmps23
        go_wp2
        go_ret
        exact ⟨by rw [HE1.out]; rfl, rfl⟩
      · have HE1 := Lib.hid (show s.check i = 0 by rw [HE.out]; simp [h1, h2])
        go_enter Try.func23, Try.ntmps23
        go_wp2
        go_ret
        exact ⟨by rw [HE1.out]; rfl, rfl⟩
  · have HE1 := Lib.hid (show s.check i = 8 by rw [HE.out]; simp)
    go_enter Try.func23, Try.ntmps23
    go_wp2
    go_ret
    exact ⟨by rw [HE1.out]; rfl, rfl⟩
theorem eq_cast {a b : Nat} (h : a = b) : (((a : Nat) : Int) == (b : Int)) = true := by rw [h]; simp
theorem ne_cast {a b : Nat} (h : ¬ a = b) : (((a : Nat) : Int) == (b : Int)) = false := by rw [beq_eq_false_iff_ne]; omega
theorem ret_val {u v : Value} (h : u = v) : Ending.returned u = .returned v := by rw [h]
/-- what slot i has, as it stands in memory, when k loose writes are looked at -/
def getV (V X : Nat → Value) (s : St) (i : Nat) : Nat → Value
  | 0 => V i
  | k + 1 => if (s.loose.getD k (0, [])).1 = i then X k else getV V X s i k
theorem getV_row {T tS tW : Nat} {w : World} {p : Nat} {F R : Nat → Prop} {S L : Value} {V X : Nat → Value} {s : St} (h : DrAt T tS tW w p F R S L V X s) {i : Nat} (hi : i < s.slots.length) : ∀ k, k ≤ s.loose.length → RowIn R w (getV V X s i k) (s.getN i k)
  | 0, _ => by
    have := h.rows i hi
    rw [St.getN, getV, List.getD_eq_getElem?_getD, List.getElem?_eq_getElem hi]
    exact this
  | k + 1, hk => by
    have hk' : k < s.loose.length := hk
    have h0 := h.looser k hk'
    rw [St.getN, getV]
    rw [List.getD_eq_getElem?_getD, List.getElem?_eq_getElem hk']
    show RowIn R w (if s.loose[k].1 = i then X k else getV V X s i k) (if s.loose[k].1 = i then s.loose[k].2 else s.getN i k)
    by_cases e : s.loose[k].1 = i
    · rw [if_pos e, if_pos e]; exact h0
    · rw [if_neg e, if_neg e]; exact getV_row h hi k (by omega)
set_option maxHeartbeats 1000000 in
theorem refGetAt {w : World} {F R : Nat → Prop} {p : Nat} {S L : Value} {V X : Nat → Value} {s : St} (h : RAt w p F R S L V X s) (i : Nat) (hi : i < s.slots.length) :
    Calls Try.prog 25 #[.pointer (some ⟨p, 0, none⟩), .int .i64 i] w fun e w' => e = .returned (getV V X s i s.loose.length) ∧ w = w' := by
  obtain ⟨c0, c1, c2⟩ := h.cells
  obtain ⟨A, rfl, hA⟩ := h.shape
  obtain ⟨bs, rfl⟩ := hA (by omega)
  have hsm := h.ok.sm
  have cv := (h.slot rfl).1.cell hi
  have H := Lib.hid h
  obtain ⟨AL, CL, hLe, hL1, hL2, hL3⟩ := h.lshape
  rw [hLe] at c1
  have HLE := Lib.hid hLe
  have HL3 := Lib.hid hL3
  clear h hA hLe hL3
  obtain ⟨n, hn⟩ : ∃ n, s.slots.length = n := ⟨_, rfl⟩
  rw [hn] at c0 hi hsm
  obtain ⟨m, hm⟩ : ∃ m, s.loose.length = m := ⟨_, rfl⟩
  rw [hm] at c1 hL1 ⊢
  have HM := Lib.hid hm
  clear hn hm
  go_enter Try.func25, Try.ntmps25
  go_wp2
  go_loop [5, 6] (fun v c => ∃ k : Nat, k ≤ m ∧ c = .int .i64 k ∧ v = getV V X s i k) (fun _ c => m - (intOf c).toNat)
  case atStart => exact ⟨0, Nat.zero_le _, rfl, rfl⟩
  case round =>
    obtain ⟨k, hk, rfl, rfl⟩ := hrel
    by_cases hlt : k < m
    · have hk' : k < s.loose.length := by rw [HM.out]; exact hlt
      obtain ⟨g, hge⟩ := HL3.out (by omega)
      subst hge
      have hw := H.out.write HLE.out hk'
      obtain ⟨hw0, hw1⟩ := hw
      have HN := Lib.hid (show getV V X s i (k + 1) = if s.loose[k].1 = i then X k else getV V X s i k by rw [getV, List.getD_eq_getElem?_getD, List.getElem?_eq_getElem hk']; rfl)
      obtain ⟨q, hq⟩ : ∃ q, s.loose[k].1 = q := ⟨_, rfl⟩
      rw [hq] at hw0 HN
      clear hq
      by_cases he : q = i
      · have HN1 := Lib.hid (show getV V X s i (k + 1) = X k by rw [HN.out, if_pos he])
        have ht := eq_cast he
        clear he
        go_wp2
        go_round
        case rel => exact ⟨k + 1, by omega, by go_num, by rw [HN1.out]⟩
        case measure => simp [intOf]; omega
      · have HN1 := Lib.hid (show getV V X s i (k + 1) = getV V X s i k by rw [HN.out, if_neg he])
        have ht := ne_cast he
        clear he
        go_wp2
        go_round
        case rel => exact ⟨k + 1, by omega, by go_num, by rw [HN1.out]⟩
        case measure => simp [intOf]; omega
    · obtain rfl : k = m := by omega
      go_wp2
      go_ret
      exact ⟨rfl, rfl⟩
theorem refGetC {w : World} {F : Nat → Prop} {p : Nat} {s : St} (h : RDr w F p s) (i : Nat) (hi : i < s.slots.length) :
    Calls Try.prog 25 #[.pointer (some ⟨p, 0, none⟩), .int .i64 i] w fun e w' => ∃ v, e = .returned v ∧ RowIn F w v (s.get i) ∧ w = w' := by
  obtain ⟨R, S, L, V, X, h⟩ := h
  exact (refGetAt h i hi).mono fun e w' hh => ⟨_, hh.1, (getV_row h hi _ (Nat.le_refl _)).same (fun _ _ => rfl) h.rf, hh.2⟩
theorem turned_set {F : Nat → Prop} {w w' : World} {b o : Nat} (h : Turned F w w') (v : Value) (hb : F b) : Turned F w (w'.setCell ⟨b, o, none⟩ v) := h.trans (Turned.set v hb) (Grown.refl _ _)
theorem turned_drew {F : Nat → Prop} {w w' : World} (h : Turned F w w') : Turned F w w'.drew := h.trans (Turned.drew F _) (Grown.refl _ _)
/-- a drive in the midst of a loop over its loose writes -/
structure Mid (w wr : World) (p : Nat) (F R : Nat → Prop) (S L : Value) (X : Nat → Value) (s : St) (D : List (List Nat)) : Prop where
  at_ : ∃ V, RAt wr p F R S L V X ⟨D, s.loose, s.lost⟩
  turn : Turned F w wr
theorem Mid.step {w wr : World} {p : Nat} {F R : Nat → Prop} {S L : Value} {X : Nat → Value} {s : St} {D : List (List Nat)} (h : Mid w wr p F R S L X s D) {bs n C : Nat} (e : S = .slice (some ⟨bs, 0, none⟩) n C) {j : Nat} (hj : j < s.loose.length) {i : Nat} (hi : s.loose[j].1 = i) :
    Mid w (wr.setCell ⟨bs, i, none⟩ (X j)).drew p F R S L X s (D.set i s.loose[j].2) := by
  obtain ⟨V, h1⟩ := h.at_
  refine ⟨⟨_, (h1.store e (i := i) (j := j) hj).drewN 1⟩, ?_⟩
  exact turned_drew (turned_set h.turn _ (h1.slot e).2.1)
set_option maxHeartbeats 2000000 in
theorem refFlushC {w : World} {F : Nat → Prop} {p : Nat} {s : St} (h : RDr w F p s) (hsm : s.loose.length ≤ 100000) :
    Calls Try.prog 14 #[.pointer (some ⟨p, 0, none⟩)] w fun e w' => e = .returned (.int .i64 s.flushE) ∧ RDr w' F p s.flush ∧ Turned F w w' := by
  have h0 := h
  obtain ⟨R, S, L, V, X, h⟩ := h
  obtain ⟨c0, c1, c2⟩ := h.cells
  by_cases hlo : s.lost = true
  · rw [hlo] at c2
    have HE := Lib.hid (show s.flushE = 8 by unfold St.flushE; rw [if_pos hlo])
    have HS := Lib.hid (show s.flush = s by unfold St.flush; rw [if_pos hlo])
    have H0 := Lib.hid h0
    clear hlo h h0 c0 c1
    go_enter Try.func14, Try.ntmps14
    go_wp2
    go_ret
    exact ⟨by rw [HE.out]; rfl, by rw [HS.out]; exact H0.out, Turned.refl _ _⟩
  · have hlo' : s.lost = false := by simpa using hlo
    rw [hlo'] at c2
    have HE := Lib.hid (show s.flushE = 0 by unfold St.flushE; rw [if_neg hlo])
    have HS := Lib.hid (show s.flush = ⟨s.flushN s.loose.length, [], s.lost⟩ by unfold St.flush; rw [if_neg hlo, hlo'])
    obtain ⟨AL, CL, hLe, hL1, hL2, hL3⟩ := h.lshape
    obtain ⟨A, hSe, hA⟩ := h.shape
    have hsl := h.ok.sm
    have HOK := Lib.hid h.ok
    have HFP := Lib.hid h.fp
    obtain ⟨n, hn⟩ : ∃ n, s.slots.length = n := ⟨_, rfl⟩
    obtain ⟨m, hm⟩ : ∃ m, s.loose.length = m := ⟨_, rfl⟩
    have H0 := Lib.hid (show Mid w w p F R S L X s (s.flushN 0) from ⟨⟨V, h⟩, Turned.refl _ _⟩)
    rw [hn] at hSe hA hsl
    rw [hm] at hLe hL1 hL3 HS hsm
    have HLE := Lib.hid hLe
    have HSE := Lib.hid hSe
    have HA := Lib.hid hA
    have HL3 := Lib.hid hL3
    have HN := Lib.hid hn
    have HM := Lib.hid hm
    clear hlo hlo' h h0 hLe hSe hA hL3 hn hm c0 c1
    go_enter Try.func14, Try.ntmps14
    go_wp2
    go_loopw [3] (fun c wr => ∃ k : Nat, k ≤ m ∧ c = .int .i64 k ∧ Mid w wr p F R S L X s (s.flushN k)) (fun c _ => m - (intOf c).toNat)
    case atStart => exact ⟨0, Nat.zero_le _, rfl, H0.out⟩
    case round =>
      obtain ⟨k, hk, rfl, hmid⟩ := hrel
      have HMID := Lib.hid hmid
      obtain ⟨Vk, hat⟩ := hmid.at_
      obtain ⟨c0, c1, -⟩ := hat.cells
      have f1 := hat.free 1
      by_cases hlt : k < m
      · have hk' : k < s.loose.length := by rw [HM.out]; exact hlt
        obtain ⟨g, hge⟩ := HL3.out (by omega)
        subst hge
        have hq := HOK.out.lt k hk'
        rw [HN.out] at hq
        obtain ⟨bs, hbe⟩ := HA.out (by omega)
        subst hbe
        have hw := hat.write HLE.out hk'
        obtain ⟨hw0, hw1⟩ := hw
        have HRI := Lib.hid (hat.slot HSE.out)
        obtain ⟨q, hqe⟩ : ∃ q, s.loose[k].1 = q := ⟨_, rfl⟩
        have HST := Lib.hid (hmid.step HSE.out hk' hqe)
        have HFN := Lib.hid (show s.flushN (k + 1) = (s.flushN k).set q s.loose[k].2 by rw [St.flushN, List.getD_eq_getElem?_getD, List.getElem?_eq_getElem hk', ← hqe]; rfl)
        have hlen : (s.flushN k).length = n := by rw [flushN_len, HN.out]
        dsimp only at hw0
        rw [hqe] at hw0 hq
        obtain ⟨Ax, nx, Cx, hxe⟩ : ∃ A n C, X k = .slice A n C := by
          obtain ⟨A, C, e, _⟩ := (hat.looser k hk').1.shape
          exact ⟨A, _, C, e⟩
        rw [hxe] at hw1 HST
        have hcs := HRI.out.1.cell (i := q) (by rw [hlen]; exact hq)
        have hfs := HRI.out.1.frozen q
        rw [HSE.out] at c0
        rw [HLE.out] at c1
        have l0 : (q : Int) < (n : Int) := by omega
        have l1 : (k : Int) < (m : Int) := by omega
        clear hmid hat hqe hlen hxe
        go_upto_region 6 with (fail)
        go_still_tail 21, (by kernel_rfl)
        change wpList _ _ _ _ _ wr.drew
        go_wp2
        go_roundw
        case rel => exact ⟨k + 1, by omega, by go_num, by rw [HFN.out]; exact HST.out⟩
        case measure => simp [intOf]; omega
      · obtain rfl : k = m := by omega
        have HD := Lib.hid (show RDr (wr.setCell ⟨p, 1, none⟩ (.slice none 0 0)) F p ⟨s.flushN k, [], s.lost⟩ from ⟨_, _, _, _, _, hat.clear⟩)
        have HT := Lib.hid (turned_set (o := 1) hmid.turn (.slice none 0 0) HFP.out)
        rw [HLE.out] at c1
        clear hmid hat
        go_wp2
        go_ret
        exact ⟨by rw [HE.out]; rfl, by rw [HS.out]; exact HD.out, HT.out⟩
theorem bit_cast (x k : Nat) : ((x : Int) / 2 ^ k).tmod 2 = ((x / 2 ^ k % 2 : Nat) : Int) := by
  rw [show ((x : Int) / 2 ^ k) = ((x / 2 ^ k : Nat) : Int) by simp, Int.tmod_eq_emod_of_nonneg (Int.natCast_nonneg _)]; rfl
theorem bit_true {x k : Nat} (h : x / 2 ^ k % 2 = 1) : (((x : Int) / 2 ^ k).tmod 2 == 1) = true := by
  rw [beq_iff_eq, bit_cast, h]; rfl
theorem bit_false {x k : Nat} (h : ¬ x / 2 ^ k % 2 = 1) : (((x : Int) / 2 ^ k).tmod 2 == 1) = false := by
  rw [beq_eq_false_iff_ne, bit_cast]
  intro q
  exact h (by exact_mod_cast q)
set_option maxHeartbeats 4000000 in
theorem refCrashC {w : World} {F : Nat → Prop} {p : Nat} {s : St} (h : RDr w F p s) (hsm : s.loose.length ≤ 100000) (keep : Nat) (hkp : keep < 18446744073709551616) :
    Calls Try.prog 16 #[.pointer (some ⟨p, 0, none⟩), .int .u64 keep] w fun e w' => e = .returned (.tuple #[]) ∧ RDr w' F p (s.crash keep) ∧ Turned F w w' := by
  obtain ⟨R, S, L, V, X, h⟩ := h
  have HS := Lib.hid (show s.crash keep = ⟨s.crashN keep s.loose.length, [], s.lost⟩ from rfl)
  obtain ⟨AL, CL, hLe, hL1, hL2, hL3⟩ := h.lshape
  obtain ⟨A, hSe, hA⟩ := h.shape
  have hsl := h.ok.sm
  have HOK := Lib.hid h.ok
  have HFP := Lib.hid h.fp
  obtain ⟨n, hn⟩ : ∃ n, s.slots.length = n := ⟨_, rfl⟩
  obtain ⟨m, hm⟩ : ∃ m, s.loose.length = m := ⟨_, rfl⟩
  have H0 := Lib.hid (show Mid w w p F R S L X s (s.crashN keep 0) from ⟨⟨V, h⟩, Turned.refl _ _⟩)
  rw [hn] at hSe hA hsl
  rw [hm] at hLe hL1 hL3 HS hsm
  have HLE := Lib.hid hLe
  have HSE := Lib.hid hSe
  have HA := Lib.hid hA
  have HL3 := Lib.hid hL3
  have HN := Lib.hid hn
  have HM := Lib.hid hm
  have HKP := Lib.hid hkp
  clear h hLe hSe hA hL3 hn hm hkp
  go_enter Try.func16, Try.ntmps16
  go_wp2
  go_loopw [4] (fun c wr => ∃ k : Nat, k ≤ m ∧ c = .int .i64 k ∧ Mid w wr p F R S L X s (s.crashN keep k)) (fun c _ => m - (intOf c).toNat)
  case atStart => exact ⟨0, Nat.zero_le _, rfl, H0.out⟩
  case round =>
    obtain ⟨k, hk, rfl, hmid⟩ := hrel
    have HMID := Lib.hid hmid
    obtain ⟨Vk, hat⟩ := hmid.at_
    obtain ⟨c0, c1, -⟩ := hat.cells
    have f1 := hat.free 1
    by_cases hlt : k < m
    · have hk' : k < s.loose.length := by rw [HM.out]; exact hlt
      have HKD := Lib.hid (show kept keep k = (decide (k < 64) && decide (keep / 2 ^ k % 2 = 1)) from rfl)
      have HCN := Lib.hid (show s.crashN keep (k + 1) = if kept keep k = true then (s.crashN keep k).set s.loose[k].1 s.loose[k].2 else s.crashN keep k by rw [St.crashN, List.getD_eq_getElem?_getD, List.getElem?_eq_getElem hk']; rfl)
      obtain ⟨g, hge⟩ := HL3.out (by omega)
      subst hge
      rw [HLE.out] at c1
      have l1 : (k : Int) < (m : Int) := by omega
      by_cases h64 : k < 64
      · have e64 : decide ((k : Int) < 64) = true := by simp; omega
        have h640 : (k : Int) < 64 := by omega
        by_cases hbit : keep / 2 ^ k % 2 = 1
        · have hb := bit_true hbit
          have hq := HOK.out.lt k hk'
          rw [HN.out] at hq
          obtain ⟨bs, hbe⟩ := HA.out (by omega)
          subst hbe
          have hw := hat.write HLE.out hk'
          obtain ⟨hw0, hw1⟩ := hw
          have HRI := Lib.hid (hat.slot HSE.out)
          obtain ⟨q, hqe⟩ : ∃ q, s.loose[k].1 = q := ⟨_, rfl⟩
          have HST := Lib.hid (hmid.step HSE.out hk' hqe)
          have HFN := Lib.hid (show s.crashN keep (k + 1) = (s.crashN keep k).set q s.loose[k].2 by rw [HCN.out, HKD.out, ← hqe]; simp [h64, hbit])
          have hlen : (s.crashN keep k).length = n := by rw [crashN_len, HN.out]
          dsimp only at hw0
          rw [hqe] at hw0 hq
          obtain ⟨Ax, nx, Cx, hxe⟩ : ∃ A n C, X k = .slice A n C := by
            obtain ⟨A, C, e, _⟩ := (hat.looser k hk').1.shape
            exact ⟨A, _, C, e⟩
          rw [hxe] at hw1 HST
          have hcs := HRI.out.1.cell (i := q) (by rw [hlen]; exact hq)
          have hfs := HRI.out.1.frozen q
          rw [HSE.out] at c0
          have l0 : (q : Int) < (n : Int) := by omega
          clear hmid hat hqe hlen hxe hbit
          go_upto_region 4 with (fail)
          go_still_tail 21, (by kernel_rfl)
          change wpList _ _ _ _ _ wr.drew
          go_wp2
          go_roundw
          case rel => exact ⟨k + 1, by omega, by go_num, by rw [HFN.out]; exact HST.out⟩
          case measure => simp [intOf]; omega
        · have hb := bit_false hbit
          have HFN := Lib.hid (show s.crashN keep (k + 1) = s.crashN keep k by rw [HCN.out, HKD.out]; simp [hbit])
          clear hmid hat hbit
          go_wp2
          go_roundw
          case rel => exact ⟨k + 1, by omega, by go_num, by rw [HFN.out]; exact HMID.out⟩
          case measure => simp [intOf]; omega
      · have e64 : decide ((k : Int) < 64) = false := by simp; omega
        have h640 : ¬ (k : Int) < 64 := by omega
        have HFN := Lib.hid (show s.crashN keep (k + 1) = s.crashN keep k by rw [HCN.out, HKD.out]; simp [h64])
        clear hmid hat
        go_wp2
        go_roundw
        case rel => exact ⟨k + 1, by omega, by go_num, by rw [HFN.out]; exact HMID.out⟩
        case measure => simp [intOf]; omega
    · obtain rfl : k = m := by omega
      have HD := Lib.hid (show RDr (wr.setCell ⟨p, 1, none⟩ (.slice none 0 0)) F p ⟨s.crashN keep k, [], s.lost⟩ from ⟨_, _, _, _, _, hat.clear⟩)
      have HT := Lib.hid (turned_set (o := 1) hmid.turn (.slice none 0 0) HFP.out)
      rw [HLE.out] at c1
      clear hmid hat
      go_wp2
      go_end0
      exact ⟨rfl, by rw [HS.out]; exact HD.out, HT.out⟩
end Go.Proofs.Ythlonnbafekjbaa.Drive
