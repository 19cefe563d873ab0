/- What mat.solve does: one column becomes a unit's. -/
import Derived.Test.YtmcodfjaeaociaaSolve
import Derived.Test.YtmcodfjaeaociaaSq
namespace Go.Proofs.Ytmcodfjaeaociaa.Mat
open Go.ChangeShapes Go.WideShapes Go.ChangeAt Go.RowKit
open Go.Mem
open GfPlain Gf
theorem tabOf_get {k m : Nat} {F : Nat → Nat → Nat} {i : Nat} (h : i < (tabOf k m F).length) : (tabOf k m F)[i] = (List.range m).map (F i) := by simp [tabOf]
theorem tabOf_row {k m : Nat} {F : Nat → Nat → Nat} {i : Nat} (h : i < (tabOf k m F).length) : (tabOf k m F)[i].length = m := by simp [tabOf]
theorem tabOf_get2 {k m : Nat} {F : Nat → Nat → Nat} {i c : Nat} (h : i < (tabOf k m F).length) (h' : c < (tabOf k m F)[i].length) : (tabOf k m F)[i][c] = F i c := by simp [tabOf]
/-- the pivot's row -/
def scaleRow (F : Nat → Nat → Nat) (at' : Nat) : Nat → Nat → Nat := fun j => if j = at' then fun c => mul (ginv (F at' at' : Nat)).toNat (F at' c) else F j
def clearTo (F : Nat → Nat → Nat) (at' k : Nat) : Nat → Nat → Nat := fun j => if j < k ∧ j ≠ at' then fun c => F j c ^^^ mul (F j at') (F at' c) else F j
def solveF (F : Nat → Nat → Nat) (n at' f : Nat) : Nat → Nat → Nat := clearTo (scaleRow (swapF F at' (at' + f)) at') at' n
set_option maxHeartbeats 2000000 in
theorem solveYes (n m q : Nat) (base P0 : Nat) (G C : Nat → Nat) (F : Nat → Nat → Nat) (w : World) (hq : q < n) (hqm : q < m) (hn : n ≤ 65536) (hm : m ≤ 65536) (h : Sq w base P0 n m G C F) :
    Calls Try.prog 36 #[.slice (some ⟨P0, 0, none⟩) n n, .int .i64 q] w fun e w' => Below base w w' ∧ ((e = .returned (.bool false) ∧ ∀ i, q ≤ i → i < n → F i q = 0) ∨
      ∃ f G' C', q + f < n ∧ F (q + f) q ≠ 0 ∧ e = .returned (.bool true) ∧ Sq w' base P0 n m G' C' (solveF F n q f)) := by
  have hne : ¬ n = q := by omega
  have hbase : base ≤ w.heap.size := Nat.le_trans h.lo.1 (Nat.le_of_lt h.hi.1)
  have hal : Below w.heap.size w (w.alloc (.cells #[.int .i64 (q : Nat)] 3)) := (Below.refl _ _).alloc (Nat.le_refl _) _
  have h1 := h.below hal
  have HT := Lib.hid (h1.tab (a := q) (by omega))
  go_enter Try.func36, Try.ntmps36
  go_wp2_with fail
  have hbox : (w.alloc (.cells #[.int .i64 (q : Nat)] 3)).cell? ⟨w.heap.size, 0, none⟩ = some (.int .i64 (q : Nat)) := by simp
  have hsz : w.heap.size < (w.alloc (.cells #[.int .i64 (q : Nat)] 3)).heap.size := by simp
  generalize w.alloc (.cells #[.int .i64 (q : Nat)] 3) = w1 at *
  refine (indexC _ _ ⟨w.heap.size, 0, none⟩ q _ (by have := HT.out; exact this) hbox (fun i hi => by rw [tabOf_row]; exact hqm)).mono ?_
  rintro e w' ⟨r, rfl, hr, rfl⟩
  rcases hr with ⟨rfl, hbare⟩ | ⟨f, hf, hf', rfl, hfz⟩
  · have HB := Lib.hid hbare; clear hbare
    go_wp2
    go_ret
    refine ⟨hal.mono hbase, .inl ⟨rfl, fun i h1 h2 => ?_⟩⟩
    have := HB.out (i - q) (by rw [tabOf_len]; omega) (by rw [tabOf_row]; exact hqm) (by rw [tabOf_len]; omega)
    rw [tabOf_get2] at this
    rwa [show q + (i - q) = i by omega] at this
  · rw [tabOf_get2] at hfz
    have hfn : f < n - q := by rw [tabOf_len] at hf; exact hf
    clear hf' hf
    have HZ := Lib.hid hfz; clear hfz
    have ca := h1.cell q hq
    have cb := h1.cell (q + f) (by omega)
    have fa := h1.free q hq
    have fb := h1.free (q + f) (by omega)
    have hst : ∃ u, (w1.setCell ⟨P0, q, none⟩ (.slice (some ⟨G (q + f), 0, none⟩) m (C (q + f)))).drew.cell? ⟨P0, q + f, none⟩ = some u := by
      show ∃ u, (w1.setCell ⟨P0, q, none⟩ (.slice (some ⟨G (q + f), 0, none⟩) m (C (q + f)))).cell? ⟨P0, q + f, none⟩ = some u
      by_cases e : q + f = q
      · rw [e] at cb ⊢; exact ⟨_, World.cell?_setCell_same _ _ _ ca⟩
      · exact ⟨_, (set_other e).trans cb⟩
    obtain ⟨u, hu⟩ := hst
    have hP0 : P0 < w.heap.size := h.hi.1
    have hbox2 : (w1.setCell ⟨P0, q, none⟩ (.slice (some ⟨G (q + f), 0, none⟩) m (C (q + f)))).drew.cell? ⟨w.heap.size, 0, none⟩ = some (.int .i64 (q : Nat)) := by
      show (w1.setCell ⟨P0, q, none⟩ (.slice (some ⟨G (q + f), 0, none⟩) m (C (q + f)))).cell? ⟨w.heap.size, 0, none⟩ = _
      rw [World.cell?_setCell_other _ _ _ _ (fun e => by injection e; omega)]; exact hbox
    go_wp2
    go_region
    have hsw := h1.swap hq (show q + f < n by omega)
    have hbw : Below base w ((w1.setCell ⟨P0, q, none⟩ (.slice (some ⟨G (q + f), 0, none⟩) m (C (q + f)))).setCell ⟨P0, q + f, none⟩ (.slice (some ⟨G q, 0, none⟩) m (C q))) := ((hal.mono hbase).setCell h.lo.1 _).setCell h.lo.1 _
    have hbox3 : ((w1.setCell ⟨P0, q, none⟩ (.slice (some ⟨G (q + f), 0, none⟩) m (C (q + f)))).setCell ⟨P0, q + f, none⟩ (.slice (some ⟨G q, 0, none⟩) m (C q))).cell? ⟨w.heap.size, 0, none⟩ = some (.int .i64 (q : Nat)) := by
      rw [World.cell?_setCell_other _ _ _ _ (fun e => by injection e; omega)]; exact hbox2
    have hsz3 : w.heap.size < ((w1.setCell ⟨P0, q, none⟩ (.slice (some ⟨G (q + f), 0, none⟩) m (C (q + f)))).setCell ⟨P0, q + f, none⟩ (.slice (some ⟨G q, 0, none⟩) m (C q))).heap.size := by simpa [World.setCell] using hsz
    clear ca cb fa fb hu hbox2 hbox
    generalize (w1.setCell ⟨P0, q, none⟩ (.slice (some ⟨G (q + f), 0, none⟩) m (C (q + f)))).setCell ⟨P0, q + f, none⟩ (.slice (some ⟨G q, 0, none⟩) m (C q)) = w3 at *
    have hsw4 : Sq w3.drew base P0 n m (swapF G q (q + f)) (swapF C q (q + f)) (swapF F q (q + f)) := hsw.drewN 1
    have hbw4 : Below base w w3.drew := hbw.drew
    have hbox4 : w3.drew.cell? ⟨w.heap.size, 0, none⟩ = some (.int .i64 (q : Nat)) := hbox3
    have hsz4 : w.heap.size < w3.drew.heap.size := hsz3
    clear hsw hbw hbox3 hsz3
    have hneA : ∀ j, j < n → swapF G q (q + f) j ≠ w.heap.size := fun j hj => by
      rw [swapF_sw]
      have := h.hi.2 _ (sw_lt hq (show q + f < n by omega) hj)
      omega
    generalize w3.drew = w4 at *
    generalize hGe : swapF G q (q + f) = G' at *
    generalize hCe : swapF C q (q + f) = C' at *
    generalize hFe : swapF F q (q + f) = F' at *
    have HFE := Lib.hid hFe
    clear hGe hCe hFe
    have hq4 := hsw4.row q hq
    have cq := hsw4.cell q hq
    have cqq := hq4.cell q hqm
    have bqq := hq4.bd q hqm
    have capq := hsw4.cap q hq
    rw [Nat.zero_add] at cqq
    have gbd := ginv_bd (F' q q : Nat)
    go_wp2
    go_still_tail 12, (by kernel_rfl)
    still_call (still_of (invC _ (by omega) (by omega) _))
    repeat still_step
    refine wpStill_nil ?_
    change wpList _ _ _ _ _ w4.drew
    go_wp2_with (go_at_call 44; refine (scaleC (F' q) _ (G' q) 0 m (C' q) _ (by omega) (by omega) (by omega) hq4.drew).mono ?_; rintro e w5 ⟨rfl, hr5, hg5⟩)
    have hg45 := grown_of_drew hg5
    have hS : Sq w5 base P0 n m G' C' (scaleRow F' q) := (hsw4.turn hq hg45 hr5).congr (fun j _ i hi => by
      unfold scaleRow
      by_cases e : j = q
      · subst e; rw [if_pos rfl, if_pos rfl]; unfold scaled; rw [if_pos hi]
      · rw [if_neg e, if_neg e])
    have hbw5 : Below base w w5 := hbw4.grown hg45 (Nat.le_trans hsw4.lo.1 (Nat.le_of_lt hsw4.hi.1)) (fun k e => by injection e with e; rw [← e]; exact hsw4.lo.2 q hq)
    have hbox5 : w5.cell? ⟨w.heap.size, 0, none⟩ = some (.int .i64 (q : Nat)) := hg45.cell hbox4 (fun e => hneA q hq (by injection e with e; exact e.symm))
    have hsz5 : w.heap.size < w5.heap.size := Nat.lt_of_lt_of_le hsz4 hg45.size
    clear hg5 hr5 hg45 cq cqq bqq capq gbd hq4 hsw4 hbw4 hbox4 hsz4
    go_loopw [48] (fun c wr => ∃ k : Nat, k ≤ n ∧ c = .int .i64 k ∧ Sq wr base P0 n m G' C' (clearTo (scaleRow F' q) q k) ∧ Below base w wr ∧ wr.cell? ⟨w.heap.size, 0, none⟩ = some (.int .i64 (q : Nat)) ∧ w.heap.size < wr.heap.size) (fun c _ => n - (intOf c).toNat)
    case atStart => exact ⟨0, Nat.zero_le _, rfl, hS.congr (fun j _ i _ => by unfold clearTo; rw [if_neg (by omega)]), hbw5, hbox5, hsz5⟩
    case round =>
      clear hS hbw5 hbox5 hsz5
      obtain ⟨k, hk, rfl, hS, hbr, hbx, hsz⟩ := hrel
      by_cases hlt : k < n
      · have ck := hS.cell k hlt
        by_cases hkq : k = q
        · have hq2 : ((k : Int) != (q : Int)) = false := by rw [hkq]; simp
          have HS := Lib.hid (hS.congr (F' := clearTo (scaleRow F' q) q (k + 1)) (fun j _ i _ => by
            unfold clearTo
            by_cases hc : j < k ∧ j ≠ q
            · rw [if_pos hc, if_pos (by omega)]
            · rw [if_neg hc, if_neg (by omega)]))
          clear hkq
          go_wp2
          go_roundw
          case rel => exact ⟨k + 1, by omega, by go_num, HS.out, hbr, hbx, hsz⟩
          case measure => simp [intOf]; omega
        · have hq2 : ((k : Int) != (q : Int)) = true := by rw [bne_iff_ne]; omega
          have cq := hS.cell q hq
          have hrk := hS.row k hlt
          have hrq := hS.row q hq
          have capq := hS.cap q hq
          have hbq := hrq.bytes capq.1 capq.2
          have ckq := hrk.cell q hqm
          have bkq := hrk.bd q hqm
          rw [Nat.zero_add] at ckq
          have hoff : Off (.slice (some ⟨G' q, 0, none⟩) m (C' q)) (G' k) := fun a n' C'' e _ => by
            cases e; exact hS.inj q k hq hlt (fun e => hkq e.symm)
          have hinj := hS.inj q k hq hlt (fun e => hkq e.symm)
          have HV := Lib.hid (show ∀ i, i < m → clearTo (scaleRow F' q) q (k + 1) k i = added (clearTo (scaleRow F' q) q k k) ((List.range m).map (clearTo (scaleRow F' q) q k q)) (clearTo (scaleRow F' q) q k k q) m i from fun i hi => by
            unfold clearTo added
            rw [if_pos (by omega), if_pos hi, if_neg (by omega), if_neg (by omega)]
            simp [hi])
          clear hkq
          go_wp2
          go_still_tail 9, (by kernel_rfl)
          change wpList _ _ _ _ _ wr.drew
          go_wp2_with (go_at_call 30; refine (addTimesC (clearTo (scaleRow F' q) q k k) ((List.range m).map (clearTo (scaleRow F' q) q k q)) _ (G' k) 0 m (C' k) _ _ (by omega) (by omega) (by omega) hrk.drew (hbq.below (below_drewN _ _ 1)) hoff (by simp)).mono ?_; rintro e w6 ⟨rfl, hr6, hg6⟩)
          have hg := grown_of_drew hg6
          rw [Int.toNat_natCast, List.length_map, List.length_range] at hr6
          have HS := Lib.hid ((hS.turn hlt hg hr6).congr (F' := clearTo (scaleRow F' q) q (k + 1)) (fun j _ i hi => by
            by_cases e : j = k
            · subst e; rw [if_pos rfl]; exact HV.out i hi
            · rw [if_neg e]; unfold clearTo
              by_cases hc : j < k ∧ j ≠ q
              · rw [if_pos hc, if_pos (by omega)]
              · rw [if_neg hc, if_neg (by omega)]))
          have HBR := Lib.hid (hbr.grown hg (Nat.le_trans hS.lo.1 (Nat.le_of_lt hS.hi.1)) (fun i e => by injection e with e; rw [← e]; exact hS.lo.2 k hlt))
          have HBX := Lib.hid (hg.cell hbx (fun e => hneA k hlt (by injection e with e; exact e.symm)))
          have HSZ := Lib.hid (Nat.lt_of_lt_of_le hsz hg.size)
          clear hr6 hg6 hg hS hbr hbx hsz
          go_roundw
          case rel => exact ⟨k + 1, by omega, by go_num, HS.out, HBR.out, HBX.out, HSZ.out⟩
          case measure => simp [intOf]; omega
      · obtain rfl : k = n := by omega
        go_wp2
        go_ret
        exact ⟨hbr, .inr ⟨f, G', C', by omega, HZ.out, rfl, by unfold solveF; rw [HFE.out]; exact hS⟩⟩
end Go.Proofs.Ytmcodfjaeaociaa.Mat
