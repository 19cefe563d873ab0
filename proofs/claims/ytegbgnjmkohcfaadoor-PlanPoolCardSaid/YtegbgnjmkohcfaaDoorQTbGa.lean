/- The program's own functions of layer 14: the small ones. The program's own functions of layer 14: what is right. Memory that may be written: ints, and stripes of them. No program is named here. The program's own functions of layer 14: copies. The program's table in memory: a block of six cells, a map of objects, and parts in blocks E; a map that is gone through. The program's table: what it has; the object of a number; copies of objects. The program's table: the stripe of a number. -/
import Derived.Test.YtegbgnjmkohcfaaDoorQTbL
import Derived.StillTailTactics
import Derived.RegionTactic
import Derived.BigRegion
import Derived.Maps.RangeWalk
import Derived.Maps.OwnSet
import Derived.Maps.Ext
import Derived.Deep.RegionHeld3
namespace Go.Proofs.YtegbgnjmkohcfaaDoor.Tbl
set_option linter.unusedVariables false
open Go.ChangeShapes Go.WideShapes Go.ChangeAt Go.RowKit
open Go.Mem RecM
theorem withinY (a x b : Int) (w : World) (h1 : a ≤ x) (h2 : x ≤ b) : Calls Tryd.prog 49 #[.int .i64 a, .int .i64 x, .int .i64 b] w fun e w' => e = .returned (.bool true) ∧ w = w' := by
  have d1 : decide (a ≤ x) = true := by simpa using h1
  have d2 : decide (x ≤ b) = true := by simpa using h2
  clear h1 h2
  go_enter Tryd.func49, Tryd.ntmps49
  go_wp2
  go_ret
  exact ⟨rfl, rfl⟩
theorem withinN (a x b : Int) (w : World) (h : ¬ (a ≤ x ∧ x ≤ b)) : Calls Tryd.prog 49 #[.int .i64 a, .int .i64 x, .int .i64 b] w fun e w' => e = .returned (.bool false) ∧ w = w' := by
  by_cases h1 : a ≤ x
  · have d1 : decide (a ≤ x) = true := by simpa using h1
    have d2 : decide (x ≤ b) = false := by simp; omega
    clear h1 h
    go_enter Tryd.func49, Tryd.ntmps49
    go_wp2
    go_ret
    exact ⟨rfl, rfl⟩
  · have d1 : decide (a ≤ x) = false := by simpa using h1
    clear h1 h
    go_enter Tryd.func49, Tryd.ntmps49
    go_wp2
    go_ret
    exact ⟨rfl, rfl⟩
set_option maxHeartbeats 1000000 in
theorem rightStatesC (v : Value) (l : List Int) (w : World) (h : Ints w v l) :
    Calls Tryd.prog 52 #[v] w fun e w' => e = .returned (.bool (decide (Tb.DrvOk l))) ∧ w = w' := by
  obtain ⟨A, C, rfl, g1, g2, -⟩ := h.shape
  have HI := Lib.hid h
  obtain ⟨R, hR⟩ : ∃ R, decide (Tb.DrvOk l) = R := ⟨_, rfl⟩
  obtain ⟨L, hL⟩ : ∃ L, l.length = L := ⟨_, rfl⟩
  rw [hR]
  have HR := Lib.hid hR
  have HL := Lib.hid hL
  rw [hL] at g1 HI ⊢
  clear h hL hR
  go_enter Tryd.func52, Tryd.ntmps52
  go_wp2
  go_loop [7] (fun c => ∃ k : Nat, k ≤ L ∧ c = .int .i64 k ∧ ∀ x ∈ l.take k, 0 ≤ x ∧ x ≤ 2) (fun c => L - (intOf c).toNat)
  case atStart => exact ⟨0, Nat.zero_le _, rfl, fun x hx => by simp at hx⟩
  case round =>
    obtain ⟨k, hk, rfl, hs⟩ := hrel
    have HS := Lib.hid hs
    clear hs
    by_cases hlt : k < L
    · have hk' : k < l.length := by rw [HL.out]; exact hlt
      obtain ⟨b, o, rfl, hc, hz⟩ := HI.out.at hk'
      have HTK := Lib.hid (show l.take (k + 1) = l.take k ++ [l[k]] from List.take_succ_eq_append_getElem hk')
      have HM := Lib.hid (List.getElem_mem hk')
      obtain ⟨x, hx⟩ : ∃ x, l[k] = x := ⟨_, rfl⟩
      rw [hx] at hc hz HTK HM
      have q1 : (k : Int) < (L : Int) := by omega
      have q2 : (0 : Int) ≤ (k : Int) := by omega
      clear hx hk'
      by_cases hb : 0 ≤ x ∧ x ≤ 2
      · have HB := Lib.hid hb
        clear hb
        go_wp2_with fail
        refine (withinY 0 x 2 _ HB.out.1 HB.out.2).mono ?_
        rintro _ w1 ⟨rfl, rfl⟩
        go_wp2
        go_round
        case rel =>
          refine ⟨k + 1, by omega, by go_num, fun y hy => ?_⟩
          rw [HTK.out] at hy
          rcases List.mem_append.1 hy with q | q
          · exact HS.out y q
          · rw [List.mem_singleton.1 q]; exact HB.out
        case measure => simp [intOf]; omega
      · have HB := Lib.hid hb
        clear hb
        go_wp2_with fail
        refine (withinN 0 x 2 _ HB.out).mono ?_
        rintro _ w1 ⟨rfl, rfl⟩
        go_wp2
        go_ret
        refine ⟨ret_bool ?_, rfl⟩
        rw [← HR.out]
        exact (decide_eq_false fun q => HB.out (q.1 x HM.out)).symm
    · obtain rfl : k = L := by omega
      have q1 : ¬ (k : Int) < (k : Int) := by omega
      by_cases h12 : k ≤ 12
      · have d1 : decide (k ≤ 12) = true := by simpa using h12
        have d2 : decide ((k : Int) ≤ 12) = true := by simp; omega
        go_wp2
        go_ret
        refine ⟨ret_bool ?_, rfl⟩
        rw [← HR.out]
        exact (decide_eq_true ⟨fun x hx => HS.out x (by rw [List.take_of_length_le (Nat.le_of_eq HL.out)]; exact hx), by rw [HL.out]; exact h12⟩).symm
      · have d1 : decide (k ≤ 12) = false := by simpa using h12
        have d2 : decide ((k : Int) ≤ 12) = false := by simp; omega
        go_wp2
        go_ret
        refine ⟨ret_bool ?_, rfl⟩
        rw [← HR.out]
        exact (decide_eq_false fun q => h12 (by rw [← HL.out]; exact q.2)).symm
/-- the code of a table, in its first two cells -/
structure KM (w : World) (p : Nat) (k n : Int) : Prop where
  c0 : w.cell? ⟨p, 0, none⟩ = some (.int .i64 k)
  c1 : w.cell? ⟨p, 1, none⟩ = some (.int .i64 (n - k))
  km : (k = 3 ∧ n = 5) ∨ (k = 1 ∧ n = 1) ∨ (k = 2 ∧ n = 3)
theorem KM.below {w w' : World} {p : Nat} {k n : Int} (h : KM w p k n) (hb : Below w.heap.size w w') : KM w' p k n := ⟨below_cell hb _ _ h.c0, below_cell hb _ _ h.c1, h.km⟩
set_option maxHeartbeats 1000000 in
theorem codeC {w : World} {p : Nat} {k n : Int} (h : KM w p k n) :
    Calls Tryd.prog 71 #[.pointer (some ⟨p, 0, none⟩)] w fun e w' => e = .returned (.tuple #[.int .i64 k, .int .i64 (n - k)]) ∧ ∃ j, w' = w.drewN j := by
  obtain ⟨c0, c1, ⟨rfl, rfl⟩ | ⟨rfl, rfl⟩ | ⟨rfl, rfl⟩⟩ := h
  · rw [show (5 : Int) - 3 = 2 from rfl] at c1 ⊢
    go_enter Tryd.func71, Tryd.ntmps71
    go_wp2
    go_quiet (fail)
    go_wp2
    go_ret2
    exact ⟨rfl, _, rfl⟩
  · rw [show (1 : Int) - 1 = 0 from rfl] at c1 ⊢
    go_enter Tryd.func71, Tryd.ntmps71
    go_wp2
    go_quiet (fail)
    go_wp2
    go_ret2
    exact ⟨rfl, _, rfl⟩
  · rw [show (3 : Int) - 2 = 1 from rfl] at c1 ⊢
    go_enter Tryd.func71, Tryd.ntmps71
    go_wp2
    go_quiet (fail)
    go_wp2
    go_ret2
    exact ⟨rfl, _, rfl⟩
set_option maxHeartbeats 1000000 in
theorem countC {w : World} {p : Nat} {k n : Int} (h : KM w p k n) (size : Int) (h0 : 0 ≤ size) (h1 : size ≤ 96) :
    Calls Tryd.prog 70 #[.pointer (some ⟨p, 0, none⟩), .int .i64 size] w fun e w' => e = .returned (.int .i64 (Tb.nStp k size)) ∧ ∃ j, w' = w.drewN j := by
  have HK := Lib.hid h
  have hk : 1 ≤ k ∧ k ≤ 3 := by have := h.km; omega
  have HS := Lib.hid (show (size + k * 8 - 1) / (k * 8) = Tb.nStp k size by unfold Tb.nStp; rw [show size + k * 8 - 1 = size + (8 * k - 1) by omega, show k * 8 = 8 * k by omega])
  obtain ⟨k1, k2⟩ := hk
  clear h
  go_enter Tryd.func70, Tryd.ntmps70
  go_wp2_with fail
  refine (codeC HK.out).mono ?_
  rintro _ w1 ⟨rfl, j, rfl⟩
  go_wp2
  go_ret
  exact ⟨by rw [← HS.out]; rfl, _, rfl⟩
end Go.Proofs.YtegbgnjmkohcfaaDoor.Tbl
namespace Go.Proofs.YtegbgnjmkohcfaaDoor.Tbl
set_option linter.unusedVariables false
open Go.ChangeShapes Go.WideShapes Go.ChangeAt Go.RowKit
open Go.Mem RecM
def zl : Array Value := Array.replicate 12 (.bool false)
theorem zl_run (w : World) : (zeroValue 127).run Tryd.prog w = .ok (.agg zl) w := by kernel_rfl
theorem zl_size : zl.size = 12 := by unfold zl; simp
theorem zl_ne : ¬ zl = #[] := by intro h; have := congrArg Array.size h; rw [zl_size] at this; exact absurd this (by decide)
def LocsOk (n : Int) (l : List Int) : Prop := (l.length : Int) = n ∧ (∀ x ∈ l, 0 ≤ x ∧ x ≤ 11) ∧ l.Nodup
instance (n : Int) (l : List Int) : Decidable (LocsOk n l) := by unfold LocsOk; infer_instance
set_option maxHeartbeats 2000000 in
theorem rightLocsC (v : Value) (l : List Int) (n : Int) (w : World) (h : Ints w v l) (hn : I64 n) :
    Calls Tryd.prog 72 #[v, .int .i64 n] w fun e w' => e = .returned (.bool (decide (LocsOk n l))) ∧ Below w.heap.size w w' := by
  obtain ⟨A, C, rfl, g1, g2, -⟩ := h.shape
  obtain ⟨n1, n2⟩ := hn
  obtain ⟨w1, hw1⟩ : ∃ w1, w1 = w.alloc (.cells zl 127) := ⟨_, rfl⟩
  have hx : Below w.heap.size w w1 := by rw [hw1]; exact (Below.refl _ _).alloc (Nat.le_refl _) _
  have hrow : w1.rowIs w.heap.size 127 12 (fun j => .bool (decide ((j : Int) ∈ l.take 0))) := by
    rw [hw1, ← zl_size]
    exact World.rowIs_alloc w zl _ _ (fun i hi => by rw [zl_size] at hi; unfold zl; rw [Array.getElem?_replicate, if_pos hi]; simp)
  have HI := Lib.hid (h.below hx)
  have HX := Lib.hid hx
  have HROW := Lib.hid hrow
  obtain ⟨B, hB⟩ : ∃ B, w.heap.size = B := ⟨_, rfl⟩
  have HBE := Lib.hid hB
  have hBs : B < w1.heap.size := by rw [hw1, ← hB]; simp
  obtain ⟨R, hR⟩ : ∃ R, decide (LocsOk n l) = R := ⟨_, rfl⟩
  obtain ⟨L, hL⟩ : ∃ L, l.length = L := ⟨_, rfl⟩
  rw [hR]
  rw [hB] at HROW
  have HR := Lib.hid hR
  have HL := Lib.hid hL
  have HW1 := Lib.hid hw1
  have HBS := Lib.hid hBs
  rw [hL] at g1 HI ⊢
  have hz := zl_run
  have hne := zl_ne
  clear h hL hR hx hrow hw1 hB hBs
  go_enter Tryd.func72, Tryd.ntmps72
  go_wp2
  rw [← HW1.out, HBE.out]
  go_loopw [10] (fun c wr => ∃ k : Nat, k ≤ L ∧ c = .int .i64 k ∧ (∀ x ∈ l.take k, 0 ≤ x ∧ x ≤ 11) ∧ (l.take k).Nodup ∧ wr.rowIs B 127 12 (fun j => .bool (decide ((j : Int) ∈ l.take k))) ∧ Turned (fun b => b = B) w1 wr) (fun c _ => L - (intOf c).toNat)
  case atStart => exact ⟨0, Nat.zero_le _, rfl, fun x hx => by simp at hx, by simp, HROW.out, Turned.refl _ _⟩
  case round =>
    obtain ⟨k, hk, rfl, hs, hnd, hrw, htr⟩ := hrel
    have HS := Lib.hid hs
    have HND := Lib.hid hnd
    have HRW := Lib.hid hrw
    have HTR := Lib.hid htr
    clear hs hnd hrw htr
    by_cases hlt : k < L
    · have hk' : k < l.length := by rw [HL.out]; exact hlt
      obtain ⟨b, o, rfl, hc, hz2⟩ := HI.out.at hk'
      have hblt := World.block_lt_of_cell? _ _ hc
      have hTK : l.take (k + 1) = l.take k ++ [l[k]] := List.take_succ_eq_append_getElem hk'
      have hM := List.getElem_mem hk'
      have hSub : (l.take (k + 1)).Sublist l := List.take_sublist _ _
      obtain ⟨x, hx⟩ : ∃ x, l[k] = x := ⟨_, rfl⟩
      rw [hx] at hc hz2 hTK hM
      have HTK := Lib.hid hTK
      have HM := Lib.hid hM
      have HSUB := Lib.hid hSub
      have q1 : (k : Int) < (L : Int) := by omega
      have q2 : (0 : Int) ≤ (k : Int) := by omega
      clear hx hk' hTK hM hSub
      by_cases hbB : b = B
      · exfalso
        subst hbB
        have h0 := HROW.out
        have : ∃ t f, w1.rowIs b t 12 f := ⟨_, _, h0⟩
        by_cases ho : o + k < 12
        · have := h0.cell ho
          rw [this] at hc
          cases hc
        · have h9 := hc
          obtain ⟨c9, e9, z9⟩ : ∃ c : Array Value, w1.heap[b]? = some (.cells c 127 (0, 0)) ∧ c.size = 12 := by
            obtain ⟨c, e1, e2, e3⟩ := h0
            exact ⟨c, e1, e2⟩
          simp [World.cell?, e9] at hc
          rw [Array.getElem?_eq_none (by omega)] at hc
          cases hc
      · have hc' := (World.cell?_of_block (w := w1) (a := ⟨b, o + k, none⟩) (HTR.out.block b hblt hbB)).trans hc
        clear hc
        by_cases hb : 0 ≤ x ∧ x ≤ 11
        · obtain ⟨m, rfl⟩ : ∃ m : Nat, x = m := ⟨x.toNat, by omega⟩
          have HB := Lib.hid hb
          have hm12 : m < 12 := by omega
          have hcm := HRW.out.cell (i := m) hm12
          have hfm := HRW.out.frozen m
          have q3 : (m : Int) < 12 := by omega
          have q4 : (0 : Int) ≤ (m : Int) := by omega
          clear hb
          by_cases hin : (m : Int) ∈ l.take k
          · have hd : decide ((m : Int) ∈ l.take k) = true := by simpa using hin
            rw [hd] at hcm
            have HIN := Lib.hid hin
            clear hin hd
            go_wp2_with fail
            refine (withinY 0 m 11 _ HB.out.1 HB.out.2).mono ?_
            rintro _ w3 ⟨rfl, rfl⟩
            go_wp2
            go_ret
            refine ⟨ret_bool ?_, ?_⟩
            · rw [← HR.out]
              refine (decide_eq_false fun q => ?_).symm
              have := q.2.2.sublist HSUB.out
              rw [HTK.out, List.nodup_append] at this
              exact this.2.2 _ HIN.out _ (List.mem_singleton.2 rfl) rfl
            · exact HX.out.trans (HTR.out.below (fun b hb => by rw [HBE.out, hb]; exact Nat.le_refl _) HX.out.size)
          · have hd : decide ((m : Int) ∈ l.take k) = false := by simpa using hin
            rw [hd] at hcm
            have HIN := Lib.hid hin
            have HSET := Lib.hid ((HRW.out.set m (.bool true)).congr (g := fun j => .bool (decide ((j : Int) ∈ l.take (k + 1)))) (fun j hj => by
              rw [HTK.out]
              by_cases e : j = m
              · subst e; simp
              · have : ¬ (j : Int) = (m : Int) := by omega
                simp [e, this]))
            have HT2 := Lib.hid (HTR.out.trans (Turned.set (F := fun b => b = B) (w := wr) (b := B) (o := m) (.bool true) rfl) (Grown.refl _ _))
            clear hin hd
            go_wp2_with fail
            refine (withinY 0 m 11 _ HB.out.1 HB.out.2).mono ?_
            rintro _ w3 ⟨rfl, rfl⟩
            go_wp2
            go_roundw
            case rel =>
              refine ⟨k + 1, by omega, by go_num, fun y hy => ?_, ?_, HSET.out, HT2.out⟩
              · rw [HTK.out] at hy
                rcases List.mem_append.1 hy with q | q
                · exact HS.out y q
                · rw [List.mem_singleton.1 q]; exact HB.out
              · rw [HTK.out, List.nodup_append]
                exact ⟨HND.out, by simp, fun a ha b hb e => HIN.out (by rw [List.mem_singleton.1 hb] at e; exact e ▸ ha)⟩
            case measure => simp [intOf]; omega
        · have HB := Lib.hid hb
          clear hb
          go_wp2_with fail
          refine (withinN 0 x 11 _ HB.out).mono ?_
          rintro _ w3 ⟨rfl, rfl⟩
          go_wp2
          go_ret
          refine ⟨ret_bool ?_, ?_⟩
          · rw [← HR.out]
            exact (decide_eq_false fun q => HB.out (q.2.1 x HM.out)).symm
          · exact HX.out.trans (HTR.out.below (fun b hb => by rw [HBE.out, hb]; exact Nat.le_refl _) HX.out.size)
    · obtain rfl : k = L := by omega
      have q1 : ¬ (k : Int) < (k : Int) := by omega
      have HBL := Lib.hid (HX.out.trans (HTR.out.below (B := w.heap.size) (fun b hb => by rw [HBE.out, hb]; exact Nat.le_refl _) HX.out.size))
      by_cases hkn : (k : Int) = n
      · subst hkn
        go_wp2
        go_ret
        refine ⟨ret_bool ?_, HBL.out⟩
        rw [← HR.out]
        have e : l.take k = l := List.take_of_length_le (Nat.le_of_eq HL.out)
        rw [(decide_eq_true (p := LocsOk _ l) ⟨by rw [HL.out], fun x hx => HS.out x (by rw [e]; exact hx), by have := HND.out; rwa [e] at this⟩)]
      · have d1 : ((k : Int) == n) = false := by simpa using hkn
        have HKN := Lib.hid hkn
        clear hkn
        go_wp2
        go_ret
        refine ⟨ret_bool ?_, HBL.out⟩
        rw [← HR.out]
        exact (decide_eq_false fun q => HKN.out (by rw [← HL.out]; exact q.1)).symm
theorem stpOk_iff {n : Int} {s : StpD} : Tb.StpOk n s ↔ (0 ≤ s.ep ∧ s.ep ≤ 1073741824) ∧ LocsOk n s.locs := by
  unfold Tb.StpOk LocsOk
  exact ⟨fun ⟨a, b, c, d, e⟩ => ⟨⟨a, b⟩, c, d, e⟩, fun ⟨⟨a, b⟩, c, d, e⟩ => ⟨a, b, c, d, e⟩⟩
set_option maxHeartbeats 2000000 in
theorem rightStripeC {w : World} {p : Nat} {k n : Int} (h : KM w p k n) (V : Value) (s : StpD) (hV : StpIs w V s) :
    Calls Tryd.prog 50 #[.pointer (some ⟨p, 0, none⟩), V] w fun e w' => e = .returned (.bool (decide (Tb.StpOk n s))) ∧ Below w.heap.size w w' := by
  obtain ⟨A, C, rfl, hi, i0, i1, i2⟩ := hV
  have hx : Below w.heap.size w (w.alloc (.cells #[.int .i64 s.id, .int .i64 s.ep, .slice A s.locs.length C] TStp)) := (Below.refl _ _).alloc (Nat.le_refl _) _
  obtain ⟨w1, hw1⟩ : ∃ w1, w.alloc (.cells #[.int .i64 s.id, .int .i64 s.ep, .slice A s.locs.length C] TStp) = w1 := ⟨_, rfl⟩
  obtain ⟨B, hB⟩ : ∃ B, w.heap.size = B := ⟨_, rfl⟩
  have hrow : w1.rowIs B TStp 3 (fun j => #[Value.int .i64 s.id, .int .i64 s.ep, .slice A s.locs.length C].getD j undef) := by
    rw [← hw1, ← hB]; exact row_of w _ _
  have hsz : B < w1.heap.size := by rw [← hw1, ← hB]; simp
  rw [hw1] at hx
  have HK := Lib.hid (h.below hx)
  have HI := Lib.hid (hi.below hx)
  have HX := Lib.hid hx
  have HBE := Lib.hid hB
  have hkm : 1 ≤ n ∧ n ≤ 5 ∧ 1 ≤ k ∧ k ≤ 3 ∧ 0 ≤ n - k ∧ n - k ≤ 2 := by have := h.km; omega
  obtain ⟨b1, b2, b3, b4, b5, b6⟩ := hkm
  have hnk : k + (n - k) = n := by omega
  have c1 := hrow.cell (i := 1) (by omega)
  have c2 := hrow.cell (i := 2) (by omega)
  have HC1 := Lib.hid c1
  have HC2 := Lib.hid c2
  obtain ⟨R, hR⟩ : ∃ R, decide (Tb.StpOk n s) = R := ⟨_, rfl⟩
  obtain ⟨L, hL⟩ : ∃ L, s.locs.length = L := ⟨_, rfl⟩
  rw [hL] at HI HC2
  rw [hR]
  have HR := Lib.hid hR
  have HNK := Lib.hid hnk
  obtain ⟨e1, e2⟩ := i1
  have HW1 := Lib.hid hw1
  rw [hL] at HW1 ⊢
  clear h hi hx hw1 hB hrow c1 c2 hR hL hnk i0 i2
  go_enter Tryd.func50, Tryd.ntmps50
  go_wp2_with fail
  rw [HW1.out, HBE.out]
  refine (codeC HK.out).mono ?_
  rintro _ w2 ⟨rfl, j, rfl⟩
  have hbl : Below B w (w1.drewN j) := (HBE.out ▸ HX.out).trans (below_drewN _ _ _)
  have HBL := Lib.hid hbl
  have f1 : (w1.drewN j).cell? ⟨B, 1, none⟩ = some (.int .i64 s.ep) := HC1.out
  have f2 : (w1.drewN j).cell? ⟨B, 2, none⟩ = some (.slice A L C) := HC2.out
  have HI2 := Lib.hid (show Ints (w1.drewN j) (.slice A L C) s.locs from HI.out.drewN j)
  obtain ⟨w3, hw3⟩ : ∃ w3, w1.drewN j = w3 := ⟨_, rfl⟩
  rw [hw3] at f1 f2 HBL HI2 ⊢
  clear hw3 hbl
  by_cases hep : 0 ≤ s.ep ∧ s.ep ≤ 1073741824
  · have HEP := Lib.hid hep
    clear hep
    go_wp2_with fail
    refine (withinY 0 s.ep 1073741824 _ HEP.out.1 HEP.out.2).mono ?_
    rintro _ w4 ⟨rfl, rfl⟩
    have hq : k + (n - k) = n := HNK.out
    go_wp2_with fail
    refine (rightLocsC _ s.locs n _ HI2.out ⟨by omega, by omega⟩).mono ?_
    rintro _ w4 ⟨rfl, hb4⟩
    have HB4 := Lib.hid (HBL.out.trans (hb4.mono (by rw [← HBE.out]; exact HBL.out.size)))
    obtain ⟨Q, hQ⟩ : ∃ Q, decide (LocsOk n s.locs) = Q := ⟨_, rfl⟩
    have hRQ : Q = R := by
      rw [← hQ, ← HR.out]
      exact decide_eq_decide.2 ⟨fun q => stpOk_iff.2 ⟨HEP.out, q⟩, fun q => (stpOk_iff.1 q).2⟩
    rw [hQ]
    subst hRQ
    clear hb4 hQ
    go_wp2
    go_ret
    exact ⟨rfl, by rw [HBE.out]; exact HB4.out⟩
  · have HEP := Lib.hid hep
    clear hep
    go_wp2_with fail
    refine (withinN 0 s.ep 1073741824 _ HEP.out).mono ?_
    rintro _ w4 ⟨rfl, rfl⟩
    go_wp2
    go_ret
    refine ⟨ret_bool ?_, by rw [HBE.out]; exact HBL.out⟩
    rw [← HR.out]
    exact (decide_eq_false fun q => HEP.out (stpOk_iff.1 q).1).symm
end Go.Proofs.YtegbgnjmkohcfaaDoor.Tbl
namespace Go.Proofs.YtegbgnjmkohcfaaDoor.Tbl
set_option linter.unusedVariables false
open Go.ChangeShapes Go.WideShapes Go.ChangeAt Go.RowKit
open Go.Mem RecM
/-- v is a slice of at least lo ints, in a block of X, that may be written -/
def WI (X : Nat → Prop) (lo : Nat) (w : World) (v : Value) : Prop := ∃ A n C, v = .slice A n C ∧ lo ≤ n ∧ n ≤ C ∧ C ≤ 9223372036854775807 ∧ ∀ k, k < n → ∃ b o z, A = some ⟨b, o, none⟩ ∧ X b ∧ w.cell? ⟨b, o + k, none⟩ = some (.int .i64 z) ∧ w.frozen? ⟨b, o + k, none⟩ = false
/-- a slice of stripes whose places may be written -/
def WS (X : Nat → Prop) (lo : Nat) (w : World) (V : Value) : Prop := ∃ A n C, V = .slice A n C ∧ n ≤ C ∧ C ≤ 9223372036854775807 ∧ ∀ i, i < n → ∃ g o v, A = some ⟨g, o, none⟩ ∧ X g ∧ w.cell? ⟨g, o + i * 3 + 2, none⟩ = some v ∧ WI (fun b => X b ∧ b ≠ g) lo w v
section
variable {X Y F : Nat → Prop} {lo : Nat} {w w' : World} {v V : Value}
theorem WI.turned (h : WI X lo w v) (ht : Turned F w w') (hF : ∀ b, F b → ¬ X b) : WI X lo w' v := by
  obtain ⟨A, n, C, e, h1, h2, h3, h4⟩ := h
  refine ⟨A, n, C, e, h1, h2, h3, fun k hk => ?_⟩
  obtain ⟨b, o, z, e1, e2, e3, e4⟩ := h4 k hk
  have hlt := World.block_lt_of_cell? _ _ e3
  have hb := ht.block b hlt (fun q => hF b q e2)
  refine ⟨b, o, z, e1, e2, ?_, ?_⟩
  · rw [World.cell?_of_block (w := w) (a := ⟨b, o + k, none⟩) hb]; exact e3
  · unfold World.frozen? at e4 ⊢
    rw [hb]; exact e4
theorem WS.turned (h : WS X lo w V) (ht : Turned F w w') (hF : ∀ b, F b → ¬ X b) : WS X lo w' V := by
  obtain ⟨A, n, C, e, h2, h3, h4⟩ := h
  refine ⟨A, n, C, e, h2, h3, fun k hk => ?_⟩
  obtain ⟨g, o, v, e1, e2, e3, e4⟩ := h4 k hk
  have hlt := World.block_lt_of_cell? _ _ e3
  have hb := ht.block g hlt (fun q => hF g q e2)
  exact ⟨g, o, v, e1, e2, by rw [World.cell?_of_block (w := w) (a := ⟨g, o + k * 3 + 2, none⟩) hb]; exact e3, e4.turned ht fun b q z => hF b q z.1⟩
theorem frozen_set (w : World) (a a' : Addr) (u : Value) : (w.setCell a u).frozen? a' = w.frozen? a' := by
  simp
/-- an int is written -/
theorem WI.store (h : WI X lo w v) (b o : Nat) (z : Int) : WI X lo (w.setCell ⟨b, o, none⟩ (.int .i64 z)) v := by
  obtain ⟨A, n, C, e, h1, h2, h3, h4⟩ := h
  refine ⟨A, n, C, e, h1, h2, h3, fun k hk => ?_⟩
  obtain ⟨b', o', z', e1, e2, e3, e4⟩ := h4 k hk
  by_cases q : (⟨b', o' + k, none⟩ : Addr) = ⟨b, o, none⟩
  · refine ⟨b', o', z, e1, e2, ?_, by rw [frozen_set]; exact e4⟩
    rw [q] at e3 ⊢
    exact World.cell?_setCell_same w ⟨b, o, none⟩ _ e3
  · exact ⟨b', o', z', e1, e2, (World.cell?_setCell_other w ⟨b, o, none⟩ ⟨b', o' + k, none⟩ _ (fun z => q z.symm)).trans e3, by rw [frozen_set]; exact e4⟩
theorem WS.store (h : WS X lo w V) (b o : Nat) (z : Int) (hb : ∀ A n C g o', V = .slice A n C → A = some ⟨g, o', none⟩ → b ≠ g) : WS X lo (w.setCell ⟨b, o, none⟩ (.int .i64 z)) V := by
  obtain ⟨A, n, C, e, h2, h3, h4⟩ := h
  refine ⟨A, n, C, e, h2, h3, fun k hk => ?_⟩
  obtain ⟨g, o', v, e1, e2, e3, e4⟩ := h4 k hk
  refine ⟨g, o', v, e1, e2, ?_, e4.store b o z⟩
  exact (World.cell?_setCell_other w ⟨b, o, none⟩ ⟨g, o' + k * 3 + 2, none⟩ _ (fun q => hb A n C g o' e e1 (congrArg Addr.block q))).trans e3
theorem WI.mono (h : WI X lo w v) (hX : ∀ b, X b → Y b) : WI Y lo w v := by
  obtain ⟨A, n, C, e, h1, h2, h3, h4⟩ := h
  refine ⟨A, n, C, e, h1, h2, h3, fun k hk => ?_⟩
  obtain ⟨b, o, z, e1, e2, e3⟩ := h4 k hk
  exact ⟨b, o, z, e1, hX b e2, e3⟩
end
/-- ints that a call has built may be written -/
theorem wi_built {w : World} {base t : Nat} {v : Value} {l : List Int} (h : Built IntR w base t v l) : On (fun b => v.ownBlock = some b) w (fun w' => Ints w' v l ∧ WI (fun b => v.ownBlock = some b) 0 w' v) := by
  intro w' ht
  refine ⟨ints_own h w' ht, ?_⟩
  obtain ⟨xs, h1, h2⟩ := h
  rcases h1.2 with ⟨e, q⟩ | ⟨g, cap, cur, e, q1, q2, q3, q4, q5, q6⟩
  · exact ⟨none, 0, 0, e, Nat.le_refl _, Nat.le_refl _, Nat.zero_le _, fun k hk => absurd hk (by omega)⟩
  · have hb : w'.heap[g]? = some (.cells cur t (0, 0)) := by
      obtain ⟨l1, l2⟩ := h1.lt g (by rw [e]; rfl)
      exact (ht.block g l2 (fun q => q (by rw [e]; rfl))).trans q2
    refine ⟨some ⟨g, 0, none⟩, l.length, cap, e, Nat.zero_le _, q3, q4, fun k hk => ?_⟩
    obtain ⟨c, e1, hR⟩ := h2 k hk
    have hR' := hR w (World.grownBy.refl _ _)
    refine ⟨g, 0, l[k], rfl, by rw [e]; rfl, ?_, ?_⟩
    · rw [Nat.zero_add]
      have hxs : cur[k]? = some c := by
        rw [← q6] at e1
        rw [List.getElem?_take] at e1
        split at e1
        · rwa [Array.getElem?_toList] at e1
        · cases e1
      rw [World.cell?_of_block (w := w') (w' := w') rfl]
      show w'.cell? ⟨g, k, none⟩ = _
      simp [World.cell?, hb, hxs, hR'.1]
    · simp [World.frozen?, hb]
/-- a stripe whose places may be written, too -/
def StpW (w : World) (f : Nat → Value) (s : StpD) : Prop := StpR w f s ∧ WI (fun b => (f 2).ownBlock = some b) 0 w (f 2)
end Go.Proofs.YtegbgnjmkohcfaaDoor.Tbl
namespace Go.Mem
open Go.RowKit
set_option linter.unusedVariables false
/-- n stripes in block g, that may be written: cell j of stripe i is f i j -/
structure SRow (w : World) (g n : Nat) (f : Nat → Nat → Value) : Prop where
  cell : ∀ i, i < n → ∀ j, j < 3 → w.cell? ⟨g, i * 3 + j, none⟩ = some (f i j)
  free : ∀ i, i < n → ∀ j, j < 3 → w.frozen? ⟨g, i * 3 + j, none⟩ = false
section
variable {w w' : World} {g n : Nat} {f : Nat → Nat → Value}
theorem SRow.keep (h : SRow w g n f) (e : w'.heap[g]? = w.heap[g]?) : SRow w' g n f :=
  ⟨fun i hi j hj => (World.cell?_of_block (w := w) (a := ⟨g, i * 3 + j, none⟩) e).trans (h.cell i hi j hj), fun i hi j hj => (World.frozen?_of_block (w := w) (a := ⟨g, i * 3 + j, none⟩) e).trans (h.free i hi j hj)⟩
theorem SRow.lt (h : SRow w g n f) (hn : 0 < n) : g < w.heap.size := World.block_lt_of_cell? _ _ (h.cell 0 hn 0 (by omega))
def updF (f : Nat → Nat → Value) (i : Nat) (c : Nat → Value) : Nat → Nat → Value := fun m j => if m = i then c j else f m j
theorem updF_same (f : Nat → Nat → Value) (i : Nat) (c : Nat → Value) : updF f i c i = c := by funext j; simp [updF]
theorem updF_other (f : Nat → Nat → Value) {i m : Nat} (c : Nat → Value) (h : m ≠ i) : updF f i c m = f m := by funext j; simp [updF, h]
theorem SRow.set1 (h : SRow w g n f) {i j : Nat} (hj : j < 3) (v : Value) : SRow (w.setCell ⟨g, i * 3 + j, none⟩ v) g n (fun m q => if m = i ∧ q = j then v else f m q) := by
  refine ⟨fun m hm q hq => ?_, fun m hm q hq => ?_⟩
  · by_cases e : m = i ∧ q = j
    · obtain ⟨rfl, rfl⟩ := e
      rw [if_pos ⟨rfl, rfl⟩]
      exact World.cell?_setCell_same _ _ _ (h.cell m hm q hq)
    · rw [if_neg e, World.cell?_setCell_other _ _ _ _ (fun z => by injection z with z1 z2 z3; omega)]
      exact h.cell m hm q hq
  · rw [World.frozen?_setCell]
    exact h.free m hm q hq
/-- stripe i is written over -/
theorem SRow.set3 (h : SRow w g n f) (i : Nat) (c : Nat → Value) : SRow (((w.setCell ⟨g, i * 3, none⟩ (c 0)).setCell ⟨g, i * 3 + 1, none⟩ (c 1)).setCell ⟨g, i * 3 + 2, none⟩ (c 2)) g n (updF f i c) := by
  have h3 := ((h.set1 (i := i) (j := 0) (by omega) (c 0)).set1 (i := i) (j := 1) (by omega) (c 1)).set1 (i := i) (j := 2) (by omega) (c 2)
  refine ⟨fun m hm q hq => (h3.cell m hm q hq).trans (congrArg some ?_), h3.free⟩
  unfold updF
  by_cases e : m = i
  · subst e
    rcases (by omega : q = 0 ∨ q = 1 ∨ q = 2) with rfl | rfl | rfl <;> simp
  · simp [e]
theorem SRow.stps (h : SRow w g n f) {L : List StpD} (hL : L.length = n) {C : Nat} (h1 : n ≤ C) (h2 : C ≤ 9223372036854775807) (hR : ∀ i (hi : i < L.length), StpR w (f i) L[i]) : Stps w (.slice (some ⟨g, 0, none⟩) n C) L := by
  subst hL
  exact ⟨some ⟨g, 0, none⟩, L.length, C, rfl, rfl, h1, by unfold maxLen; exact h2, (fun e => by cases e), fun i hi => ⟨g, 0, f i, rfl, fun j hj => by rw [Nat.zero_add]; exact h.cell i hi j hj, hR i hi⟩⟩
end
/-- append(s[:0:0], l...): the run, at a slice of stripes -/
theorem run_clone_stps {P : Program} (w : World) (t ty e : TypeId) (ht : P.underlying t = some (.slice e))
    (hinfo : (P.info? e).map (fun i => (i.zero, i.size, i.bytes)) = some (some (.agg #[.int .i64 0, .int .i64 0, .slice none 0 0]), 3, 40)) (ad : Addr) (C : Nat) (l : List StpD) (hl : Stps w (.slice (some ad) l.length C) l) (hlen : l.length ≤ 1000000) :
    ∃ A' C' w', (Builtin.append_ #[t, t] ty #[.slice (some ⟨w.heap.size, 0, none⟩) 0 0, .slice (some ad) l.length C]).run P (w.alloc (.cells #[] e)) = .ok (.slice A' l.length C') w' ∧ Below w.heap.size w w' ∧ l.length ≤ C' ∧ C' ≤ 9223372036854775807 ∧ (A' = none → C' = 0) ∧
      (0 < l.length → ∃ g f, A' = some ⟨g, 0, none⟩ ∧ w.heap.size ≤ g ∧ SRow w' g l.length f ∧ ∀ i (hi : i < l.length), StpR w (f i) l[i]) := by
  obtain ⟨ii, hi0, hz0, hz1, hz2⟩ := info_parts hinfo
  have hal : Below w.heap.size w (w.alloc (.cells #[] e)) := (Below.refl _ _).alloc (Nat.le_refl _) _
  have hrow : (w.alloc (.cells #[] e)).ownsRow w.heap.size e 3 (.slice (some ⟨w.heap.size, 0, none⟩) 0 0) 0 [] :=
    ⟨rfl, .inr ⟨w.heap.size, 0, #[], rfl, Nat.le_refl _, heap_alloc_new w _, Nat.le_refl _, Nat.zero_le _, rfl, rfl⟩⟩
  obtain ⟨A0, n0, C0, h1, h2, h3, h4, h5, hel⟩ := hl
  cases h1
  obtain ⟨xs, hxs⟩ : ∃ xs : List Value, xs = (List.range (l.length * 3)).map (fun j => (w.cell? (ad.add j)).getD undef) := ⟨_, rfl⟩
  have hxl : xs.length = l.length * 3 := by rw [hxs]; simp
  have hcell : ∀ i (hi : i < l.length) (j : Nat), j < 3 → ∃ u, w.cell? (ad.add (i * 3 + j)) = some u ∧ xs[i * 3 + j]? = some u ∧ u.oneCell' = true := by
    intro i hi j hj
    obtain ⟨b, o, f, q1, q2, q3⟩ := hel i hi
    cases q1
    have ea : (⟨b, o, none⟩ : Addr).add (i * 3 + j) = ⟨b, o + i * 3 + j, none⟩ := by
      unfold Addr.add
      split
      · rename_i q; obtain ⟨rfl, rfl⟩ : i = 0 ∧ j = 0 := by omega
        rfl
      · simp [Nat.add_assoc]
    refine ⟨f j, by rw [ea]; exact q2 j hj, ?_, ?_⟩
    · rw [hxs, List.getElem?_map, List.getElem?_range (by omega)]
      simp [ea, q2 j hj]
    · obtain ⟨r0, r1, r2, -⟩ := q3
      obtain ⟨A9, C9, e9, -⟩ := r2.shape
      rcases (by omega : j = 0 ∨ j = 1 ∨ j = 2) with rfl | rfl | rfl
      · rw [r0]; rfl
      · rw [r1]; rfl
      · rw [e9]; rfl
  have hsplit : ∀ m, m < l.length * 3 → ∃ i j, i < l.length ∧ j < 3 ∧ m = i * 3 + j := fun m hm => ⟨m / 3, m % 3, by omega, by omega, by omega⟩
  obtain ⟨v', w', hrun, hown', hg, hb', hat⟩ := run_append_own_at (P := P) (w.alloc (.cells #[] e)) w.heap.size t ty e ii _ 3 40 ht hi0 hz0 hz1 hz2 rfl (by omega) (.slice (some ⟨w.heap.size, 0, none⟩) 0 0) 0 [] hrow ad l.length C xs hxl
    (fun m u hm => by
      have hlt : m < l.length * 3 := by
        have := (List.getElem?_eq_some_iff.1 hm).1
        omega
      obtain ⟨i, j, hi, hj, rfl⟩ := hsplit m hlt
      obtain ⟨u', q1, q2, q3⟩ := hcell i hi j hj
      rw [q2] at hm
      cases hm
      exact below_cell hal _ _ q1)
    (fun u hu => by
      obtain ⟨m, hm, rfl⟩ := List.getElem_of_mem hu
      obtain ⟨i, j, hi, hj, rfl⟩ := hsplit m (by omega)
      obtain ⟨u', q1, q2, q3⟩ := hcell i hi j hj
      rw [List.getElem?_eq_getElem hm] at q2
      cases q2
      exact q3)
    (by unfold maxLen; omega) (by omega) (by simp)
  rw [List.nil_append, Nat.zero_add] at hown'
  have hbw : Below w.heap.size w w' := hal.trans ((Below.refl _ _).grown hg (by simp) (fun b hb => Nat.le_of_eq (Option.some.inj (show some w.heap.size = some b from hb))))
  rcases hown'.2 with ⟨e1, e2⟩ | ⟨g, cap, cur, e1, k1, k2, k3, k4, k5, k6⟩
  · subst e1
    exact ⟨none, 0, w', by rw [e2]; rw [e2] at hrun; exact hrun, hbw, Nat.le_of_eq e2, Nat.zero_le _, fun _ => rfl, fun q => absurd q (by rw [e2]; exact Nat.lt_irrefl 0)⟩
  · subst e1
    refine ⟨some ⟨g, 0, none⟩, cap, w', hrun, hbw, k3, by unfold maxLen at k4; exact k4, (fun q => by cases q), fun _ => ⟨g, fun i j => (w'.cell? ⟨g, i * 3 + j, none⟩).getD undef, rfl, k1, ⟨fun i hi j hj => ?_, fun i hi j hj => by simp [World.frozen?, k2]⟩, fun i hi => ?_⟩⟩
    · obtain ⟨u, q1, q2, q3⟩ := hcell i hi j hj
      have := hown'.cells (g := g) rfl _ _ q2
      rw [add_from] at this
      rw [this]
      rfl
    · obtain ⟨b, o, f, q1, q2, q3⟩ := hel i hi
      have hf : ∀ j, j < 3 → (w'.cell? ⟨g, i * 3 + j, none⟩).getD undef = f j := fun j hj => by
        obtain ⟨u, z1, z2, z3⟩ := hcell i hi j hj
        cases q1
        have ea : (⟨b, o, none⟩ : Addr).add (i * 3 + j) = ⟨b, o + i * 3 + j, none⟩ := by
          unfold Addr.add
          split
          · rename_i q; obtain ⟨rfl, rfl⟩ : i = 0 ∧ j = 0 := by omega
            rfl
          · simp [Nat.add_assoc]
        rw [ea, q2 j hj] at z1
        cases z1
        have := hown'.cells (g := g) rfl _ _ z2
        rw [add_from] at this
        rw [this]
        rfl
      obtain ⟨r0, r1, r2, r3⟩ := q3
      exact ⟨(hf 0 (by omega)).trans r0, (hf 1 (by omega)).trans r1, by show Ints w ((w'.cell? ⟨g, i * 3 + 2, none⟩).getD undef) _; rw [hf 2 (by omega)]; exact r2, r3⟩
end Go.Mem
namespace Go.Proofs.YtegbgnjmkohcfaaDoor.Tbl
set_option linter.unusedVariables false
open Go.ChangeShapes Go.WideShapes Go.ChangeAt Go.RowKit
open Go.Mem RecM
set_option maxHeartbeats 1000000 in
theorem cloneC (l : List Int) (v : Value) (w : World) (h : Ints w v l) (hl : l.length ≤ 1000000) :
    Calls Tryd.prog 18 #[v] w fun e w' => ∃ u, e = .returned u ∧ Built IntR w' w.heap.size 3 u l ∧ Below w.heap.size w w' := by
  obtain ⟨A, C, rfl, h1, h2, h3⟩ := h.shape
  have hne := Lib.run_eql_slice_nil (P := Tryd.prog)
  rcases A with _ | ad
  · have hC := h3 rfl
    have hl0 : l = [] := List.length_eq_zero_iff.1 (by omega)
    subst hl0
    subst hC
    go_enter Tryd.func18, Tryd.ntmps18
    go_wp2_with fail
    go_ret
    exact ⟨_, rfl, Built.start _ _ _, Below.refl _ _⟩
  · have hal : Below w.heap.size w (w.alloc (.cells #[] 3)) := (Below.refl _ _).alloc (Nat.le_refl _) _
    have HB := Lib.hid (built_none (R := IntR) (t := 3) w (Nat.le_refl _))
    have HL := Lib.hid (h.below hal)
    have HA := Lib.hid hal
    have HLL := Lib.hid hl
    clear hal h hl
    go_enter Tryd.func18, Tryd.ntmps18
    go_wp2_with (at_builtin; refine wpList_append_list intR_world intR_one _ rfl (.tmp 5) (.tmp 6) 22 rfl w.heap.size 3 (.int .i64 0) 8 Tryd.underlying22 infoInt rfl _ _ rfl HB.out _ _ _ _ rfl HL.out (by have := HLL.out; simp; omega) (by simp) ?_; intro v' w' hbu' hg' hb')
    go_ret
    exact ⟨_, rfl, hbu', HA.out.trans hb'⟩
/-- ints that a call has built, while other blocks turn -/
theorem int_turned {w w' : World} {base base' t : Nat} {v : Value} {l : List Int} {F : Nat → Prop} (h : Built IntR w base t v l) (ht : Turned F w w') (hF : ∀ b, F b → v.ownBlock ≠ some b) (hb : base' ≤ base) : Built IntR w' base' t v l := by
  obtain ⟨xs, h1, h2⟩ := h
  have hlt := h1.lt
  refine ⟨xs, ⟨h1.1, ?_⟩, fun i hi => ?_⟩
  · rcases h1.2 with h0 | ⟨g, cap, cur, e, q1, q2, q3⟩
    · exact .inl h0
    · obtain ⟨l1, l2⟩ := hlt g (by rw [e]; rfl)
      exact .inr ⟨g, cap, cur, e, Nat.le_trans hb q1, (ht.block g l2 (fun q => hF g q (by rw [e]; rfl))).trans q2, q3⟩
  · obtain ⟨c, e, hR⟩ := h2 i hi
    exact ⟨c, e, fun w'' _ => hR w (World.grownBy.refl _ _)⟩
/-- a copy of stripes: their places are still the elder ones' -/
def CloneS (w : World) (l : List StpD) (e : Ending) (w' : World) : Prop := ∃ A C, e = .returned (.slice A l.length C) ∧ Below w.heap.size w w' ∧ l.length ≤ C ∧ C ≤ 9223372036854775807 ∧ (A = none → C = 0) ∧
  (0 < l.length → ∃ g f, A = some ⟨g, 0, none⟩ ∧ w.heap.size ≤ g ∧ SRow w' g l.length f ∧ ∀ i (hi : i < l.length), StpR w (f i) l[i])
set_option maxHeartbeats 1000000 in
theorem cloneSC (l : List StpD) (v : Value) (w : World) (h : Stps w v l) (hl : l.length ≤ 1000000) :
    Calls Tryd.prog 43 #[v] w (CloneS w l) := by
  obtain ⟨A, C, rfl, h1, h2, h3⟩ := h.shape
  have hne := Lib.run_eql_slice_nil (P := Tryd.prog)
  rcases A with _ | ad
  · have hC := h3 rfl
    have hl0 : l = [] := List.length_eq_zero_iff.1 (by omega)
    subst hl0
    subst hC
    have HQ := Lib.hid (show CloneS w [] (.returned (.slice none 0 0)) w from ⟨none, 0, rfl, Below.refl _ _, Nat.le_refl _, Nat.zero_le _, fun _ => rfl, fun q => absurd q (by simp)⟩)
    go_enter Tryd.func43, Tryd.ntmps43
    go_wp2_with fail
    go_ret
    exact HQ.out
  · obtain ⟨A', C', w', hr, q⟩ := run_clone_stps (P := Tryd.prog) w 41 41 29 Tryd.underlying41 infoStp ad C l h hl
    have HR := Lib.hid hr
    have HQ := Lib.hid (show CloneS w l (.returned (.slice A' l.length C')) w' from ⟨A', C', rfl, q⟩)
    obtain ⟨L, hL⟩ : ∃ L, l.length = L := ⟨_, rfl⟩
    rw [hL] at HR HQ ⊢
    clear hr q h hL hl
    go_enter Tryd.func43, Tryd.ntmps43
    go_wp2_with (at_builtin; refine Lib.wpList_append_run _ rfl (.tmp 5) (.tmp 6) 41 41 rfl _ _ rfl rfl _ _ HR.out ?_)
    go_ret
    exact HQ.out
set_option maxHeartbeats 2000000 in
theorem cloneStripeC {w : World} (V : Value) (s : StpD) (hV : StpIs w V s) (hl : s.locs.length ≤ 1000000) :
    Calls Tryd.prog 16 #[V] w fun e w' => ∃ A C, e = .returned (.agg #[.int .i64 s.id, .int .i64 s.ep, .slice A s.locs.length C]) ∧ Built IntR w' w.heap.size 3 (.slice A s.locs.length C) s.locs ∧ Below w.heap.size w w' := by
  obtain ⟨A, C, rfl, hi, i0, i1, i2⟩ := hV
  obtain ⟨w2, hw2⟩ : ∃ w2, (w.alloc (.cells #[.int .i64 s.id, .int .i64 s.ep, .slice A s.locs.length C] TStp)).alloc (.cells #[.int .i64 0, .int .i64 0, .slice none 0 0] TStp) = w2 := ⟨_, rfl⟩
  have hx1 : Below w.heap.size w (w.alloc (.cells #[.int .i64 s.id, .int .i64 s.ep, .slice A s.locs.length C] TStp)) := (Below.refl _ _).alloc (Nat.le_refl _) _
  have hx : Below w.heap.size w w2 := by rw [← hw2]; exact hx1.alloc hx1.size _
  obtain ⟨B, hB⟩ : ∃ B, w.heap.size = B := ⟨_, rfl⟩
  have hsz : w2.heap.size = B + 2 := by rw [← hw2, ← hB]; simp
  have hsec : Below (w.alloc (.cells #[.int .i64 s.id, .int .i64 s.ep, .slice A s.locs.length C] TStp)).heap.size (w.alloc (.cells #[.int .i64 s.id, .int .i64 s.ep, .slice A s.locs.length C] TStp)) w2 := by rw [← hw2]; exact (Below.refl _ _).alloc (Nat.le_refl _) _
  have hr0 : w2.rowIs B TStp 3 (fun j => #[Value.int .i64 s.id, .int .i64 s.ep, .slice A s.locs.length C].getD j undef) := by
    rw [← hB]; exact (row_of w #[Value.int .i64 s.id, .int .i64 s.ep, .slice A s.locs.length C] TStp).of_block (hsec.block _ (by simp))
  have hr1 : w2.rowIs (B + 1) TStp 3 (fun j => #[Value.int .i64 0, .int .i64 0, .slice none 0 0].getD j undef) := by
    have := row_of (w.alloc (.cells #[.int .i64 s.id, .int .i64 s.ep, .slice A s.locs.length C] TStp)) #[Value.int .i64 0, .int .i64 0, .slice none 0 0] TStp
    rw [hw2, show (w.alloc (.cells #[.int .i64 s.id, .int .i64 s.ep, .slice A s.locs.length C] TStp)).heap.size = B + 1 by simp [hB]] at this
    exact this
  have HI := Lib.hid (hi.below hx)
  have HX := Lib.hid hx
  have HR0 := Lib.hid hr0
  have HR1 := Lib.hid hr1
  have HSZ := Lib.hid hsz
  have HBE := Lib.hid hB
  have HW2 := Lib.hid hw2
  have HLL := Lib.hid hl
  obtain ⟨L, hL⟩ : ∃ L, s.locs.length = L := ⟨_, rfl⟩
  have HL := Lib.hid hL
  rw [hL] at HI HR0 HW2 ⊢
  have c2 := HR0.out.cell (i := 2) (by omega)
  clear hi hx hx1 hsec hr0 hr1 hsz hB hw2 hl hL i0 i1 i2
  go_enter Tryd.func16, Tryd.ntmps16
  go_wp2_with fail
  rw [HW2.out, HBE.out]
  refine (cloneC s.locs _ _ HI.out HLL.out).mono ?_
  rintro _ w3 ⟨u, rfl, hbu, hb3⟩
  obtain ⟨A3, C3, rfl, -⟩ := hbu.len
  have hown := hbu.own_lt
  have HBU := Lib.hid hbu
  have HOW := Lib.hid hown
  have HB3 := Lib.hid hb3
  have r0 := HR0.out.of_block (hb3.block _ (by rw [HSZ.out]; omega))
  have r1 := HR1.out.of_block (hb3.block _ (by rw [HSZ.out]; omega))
  obtain ⟨S3, hS3⟩ : ∃ S3, w2.heap.size = S3 := ⟨_, rfl⟩
  rw [HL.out] at HBU HOW ⊢
  have HRR := Lib.hid (r1.of_block (Below.heap_setCell w3 ⟨B, 2, none⟩ (.slice A3 L C3) (B + 1) (by simp)))
  have hrs := r0.set 2 (.slice A3 L C3)
  have y2 := r0.cell (i := 2) (by omega)
  have j2 := r0.frozen 2
  obtain ⟨w4, hw4⟩ : ∃ w4, w3.setCell ⟨B, 2, none⟩ (.slice A3 L C3) = w4 := ⟨_, rfl⟩
  rw [hw4] at hrs HRR
  have t4 : Turned (fun b => b = B ∨ b = B + 1) w3 w4 := by rw [← hw4]; exact Turned.set _ (.inl rfl)
  have e0 : w4.cell? ⟨B, 0, none⟩ = some (.int .i64 s.id) := hrs.cell (i := 0) (by omega)
  have e1 : w4.cell? ⟨B, 1, none⟩ = some (.int .i64 s.ep) := hrs.cell (i := 1) (by omega)
  have e2 : w4.cell? ⟨B, 2, none⟩ = some (.slice A3 L C3) := hrs.cell (i := 2) (by omega)
  have E0 := Lib.hid e0
  have E1 := Lib.hid e1
  have E2 := Lib.hid e2
  have T4 := Lib.hid t4
  have HW4 := Lib.hid hw4
  clear hrs hw4 e0 e1 e2 t4 c2 hS3 S3 r0 r1
  go_upto_region 2 with fail
  rw [HW4.out]
  have e0 := E0.out
  have e1 := E1.out
  have e2 := E2.out
  have y0 := HRR.out.cell (i := 0) (by omega)
  have y1 := HRR.out.cell (i := 1) (by omega)
  have y3 := HRR.out.cell (i := 2) (by omega)
  have j0 := HRR.out.frozen 0
  have j1 := HRR.out.frozen 1
  have j3 := HRR.out.frozen 2
  have hz := ((HRR.out.set 0 (.int .i64 s.id)).set 1 (.int .i64 s.ep)).set 2 (.slice A3 L C3)
  have t5 := ((T4.out.trans (Turned.set (F := fun b => b = B ∨ b = B + 1) (b := B + 1) (o := 0) (.int .i64 s.id) (.inr rfl)) (Grown.refl _ _)).trans (Turned.set (F := fun b => b = B ∨ b = B + 1) (b := B + 1) (o := 1) (.int .i64 s.ep) (.inr rfl)) (Grown.refl _ _)).trans (Turned.set (F := fun b => b = B ∨ b = B + 1) (b := B + 1) (o := 2) (.slice A3 L C3) (.inr rfl)) (Grown.refl _ _)
  have HW := Lib.hid (show ∃ wz, ((w4.setCell ⟨B + 1, 0, none⟩ (.int .i64 s.id)).setCell ⟨B + 1, 1, none⟩ (.int .i64 s.ep)).setCell ⟨B + 1, 2, none⟩ (.slice A3 L C3) = wz ∧ wz.cell? ⟨B + 1, 0, none⟩ = some (.int .i64 s.id) ∧ wz.cell? ⟨B + 1, 1, none⟩ = some (.int .i64 s.ep) ∧ wz.cell? ⟨B + 1, 2, none⟩ = some (.slice A3 L C3) ∧ Turned (fun b => b = B ∨ b = B + 1) w3 wz from
    ⟨_, rfl, hz.cell (i := 0) (by omega), hz.cell (i := 1) (by omega), hz.cell (i := 2) (by omega), t5⟩)
  clear hz t5 y2 j2
  go_wp2
  obtain ⟨wz, hwz, z0, z1, z2, t5⟩ := HW.out
  rw [hwz]
  refine bodyPost_ret (v := .agg #[.int .i64 s.id, .int .i64 s.ep, .slice A3 L C3]) (by simp [results, Tryd.results16, go_sem, z0, z1, z2]) rfl ⟨A3, C3, rfl, ?_, ?_⟩
  · exact int_turned (base := w2.heap.size) HBU.out t5 (fun b hb q => by
      have := (HOW.out b q).1
      have := HSZ.out
      omega) (by rw [HSZ.out, HBE.out]; omega)
  · exact (HX.out.trans (HB3.out.mono HX.out.size)).trans (t5.below (B := w.heap.size) (fun b hb => by rw [HBE.out]; omega) (Nat.le_trans HX.out.size HB3.out.size))
/-- in the midst of a copy: i stripes have places of their own, in new blocks -/
structure CpMid (w w1 : World) (g n : Nat) (l : List StpD) (i : Nat) (f : Nat → Nat → Value) (wr : World) : Prop where
  row : SRow wr g n f
  old : ∀ k (hk : k < l.length), i ≤ k → StpR w (f k) l[k]
  new : ∀ k (hk : k < l.length), k < i → On (fun b => w1.heap.size ≤ b ∧ b < wr.heap.size ∧ b ≠ g) wr (fun w' => StpW w' (f k) l[k])
  turned : Turned (fun b => b = g) w1 wr
/-- one stripe more: its places are copied to v3, then the stripe is written over -/
theorem cpmid_next {w w1 wr w3 : World} {g n : Nat} {l : List StpD} {i : Nat} {f : Nat → Nat → Value} (h : CpMid w w1 g n l i f wr) (hi : i < l.length) (hg : g < w1.heap.size) {A3 : Option Addr} {C3 base : Nat} (hbase : wr.heap.size ≤ base) (hb : Below wr.heap.size wr w3)
    (hbu : Built IntR w3 base 3 (.slice A3 l[i].locs.length C3) l[i].locs) (h0 : I64 l[i].id) (h1 : I64 l[i].ep) (h2 : LenOk l[i].locs.length) :
    CpMid w w1 g n l (i + 1) (updF f i (fun j => #[Value.int .i64 l[i].id, .int .i64 l[i].ep, .slice A3 l[i].locs.length C3].getD j undef)) (((w3.setCell ⟨g, i * 3, none⟩ (.int .i64 l[i].id)).setCell ⟨g, i * 3 + 1, none⟩ (.int .i64 l[i].ep)).setCell ⟨g, i * 3 + 2, none⟩ (.slice A3 l[i].locs.length C3)) ∧ SRow w3 g n f := by
  have hs := h.turned.size
  have hgw : g < wr.heap.size := by omega
  have hrow3 := h.row.keep (hb.block g hgw)
  have ht : Turned (fun b => b = g) w3 (((w3.setCell ⟨g, i * 3, none⟩ (.int .i64 l[i].id)).setCell ⟨g, i * 3 + 1, none⟩ (.int .i64 l[i].ep)).setCell ⟨g, i * 3 + 2, none⟩ (.slice A3 l[i].locs.length C3)) :=
    ((Turned.set (F := fun b => b = g) (b := g) _ rfl).trans (Turned.set (F := fun b => b = g) (b := g) _ rfl) (Grown.refl _ _)).trans (Turned.set (F := fun b => b = g) (b := g) _ rfl) (Grown.refl _ _)
  have hown := hbu.own_lt
  refine ⟨⟨hrow3.set3 i (fun j => #[Value.int .i64 l[i].id, .int .i64 l[i].ep, .slice A3 l[i].locs.length C3].getD j undef), fun k hk q => ?_, fun k hk q => ?_, (h.turned.trans (Turned.of_below (fun b => b = g) hb) (Grown.refl _ _)).trans ht (Grown.refl _ _)⟩, hrow3⟩
  · rw [updF_other _ _ (by omega)]
    exact h.old k hk (by omega)
  · by_cases e : k = i
    · subst e
      rw [updF_same]
      have e1 := wi_built hbu
      have e2 := On.turned e1 ht (fun b q z => by have := (hown b z).1; omega)
      refine (On.more e2 (fun b q => ?_)).map fun w' q => ⟨⟨rfl, rfl, q.1, h0, h1, h2⟩, q.2⟩
      have := hown b q
      exact ⟨by omega, Nat.lt_of_lt_of_le this.2 ht.size, by omega⟩
    · rw [updF_other _ _ e]
      have e1 := h.new k hk (by omega)
      have e2 := On.turned e1 (Turned.of_below (fun _ => False) hb) (fun _ q => q.elim)
      have e3 := On.turned e2 ht (fun b q z => z.2.2 q)
      exact On.more e3 fun b q => ⟨q.1, Nat.lt_of_lt_of_le q.2.1 (Nat.le_trans hb.size ht.size), q.2.2⟩
/-- a copy of stripes, in new blocks -/
def CopyS (w : World) (l : List StpD) (e : Ending) (w' : World) : Prop := ∃ A C, e = .returned (.slice A l.length C) ∧ Below w.heap.size w w' ∧ l.length ≤ C ∧ C ≤ 9223372036854775807 ∧ (A = none → C = 0) ∧
  (0 < l.length → ∃ g f, A = some ⟨g, 0, none⟩ ∧ w.heap.size ≤ g ∧ SRow w' g l.length f ∧ ∀ k (hk : k < l.length), On (fun b => w.heap.size ≤ b ∧ b < w'.heap.size ∧ b ≠ g) w' (fun w'' => StpW w'' (f k) l[k]))
set_option maxHeartbeats 4000000 in
theorem cloneStripesC (l : List StpD) (v : Value) (w : World) (h : Stps w v l) (hl : l.length ≤ 1000000) (hlocs : ∀ s ∈ l, s.locs.length ≤ 1000000) :
    Calls Tryd.prog 28 #[v] w (CopyS w l) := by
  have HLL := Lib.hid hl
  have HLOC := Lib.hid hlocs
  have HI := Lib.hid h
  obtain ⟨L, hL⟩ : ∃ L, l.length = L := ⟨_, rfl⟩
  have HL := Lib.hid hL
  clear hl hlocs h hL
  go_enter Tryd.func28, Tryd.ntmps28
  go_wp2_with fail
  refine (cloneSC l _ _ HI.out HLL.out).mono ?_
  rintro _ w1 ⟨A, C, rfl, hb1, g1, g2, g3, hq⟩
  have HB1 := Lib.hid hb1
  have HG3 := Lib.hid g3
  rw [HL.out] at g1 ⊢
  by_cases h0 : 0 < L
  · obtain ⟨g, f0, rfl, hg, hrow, hel⟩ := hq (by rw [HL.out]; exact h0)
    rw [HL.out] at hrow
    have hgl := hrow.lt h0
    have HG := Lib.hid hg
    have HM0 := Lib.hid (show CpMid w w1 g L l 0 f0 w1 from ⟨hrow, fun k hk _ => hel k hk, fun k _ q => absurd q (by omega), Turned.refl _ _⟩)
    have HGL := Lib.hid hgl
    clear hq hg hrow hel hgl g3 hb1
    go_wp2
    go_loopw [9] (fun c wr => ∃ i : Nat, i ≤ L ∧ c = .int .i64 i ∧ ∃ f, CpMid w w1 g L l i f wr) (fun c _ => L - (intOf c).toNat)
    case atStart => exact ⟨0, Nat.zero_le _, rfl, f0, HM0.out⟩
    case round =>
      obtain ⟨i, hi, rfl, f, hm⟩ := hrel
      have HM := Lib.hid hm
      by_cases hlt : i < L
      · have hil : i < l.length := by rw [HL.out]; exact hlt
        obtain ⟨f0, f1, f2, i0, i1, i2⟩ := hm.old i hil (Nat.le_refl _)
        have c0 := hm.row.cell i hlt 0 (by omega)
        have c1 := hm.row.cell i hlt 1 (by omega)
        have c2 := hm.row.cell i hlt 2 (by omega)
        obtain ⟨A2, C2, e2, -⟩ := f2.shape
        rw [f0, Nat.add_zero] at c0
        rw [f1] at c1
        rw [e2] at c2 f2
        have hbw : Below w.heap.size w wr := HB1.out.trans (hm.turned.below (fun b hb => by rw [hb]; exact HG.out) HB1.out.size)
        have hx2 : Below wr.heap.size wr (wr.alloc (.cells #[.int .i64 l[i].id, .int .i64 l[i].ep, .slice A2 l[i].locs.length C2] TStp)) := (Below.refl _ _).alloc (Nat.le_refl _) _
        have HIL := Lib.hid ((f2.below hbw).below hx2)
        have HX2 := Lib.hid hx2
        have HNX := Lib.hid (fun (A3 : Option Addr) (C3 base : Nat) (w3 : World) hbase hb hbu => cpmid_next (A3 := A3) (C3 := C3) (base := base) (w3 := w3) hm hil HGL.out hbase hb hbu i0 i1 i2)
        have HLX := Lib.hid (HLOC.out _ (List.getElem_mem hil))
        have hsz : (wr.alloc (.cells #[.int .i64 l[i].id, .int .i64 l[i].ep, .slice A2 l[i].locs.length C2] TStp)).heap.size = wr.heap.size + 1 := by simp
        have HSZ := Lib.hid hsz
        obtain ⟨x, hx⟩ : ∃ x, l[i] = x := ⟨_, rfl⟩
        rw [hx] at c0 c1 c2 HIL HNX HLX HX2 HSZ i0 i1 i2
        obtain ⟨M, hM⟩ : ∃ M, x.locs.length = M := ⟨_, rfl⟩
        have HMM := Lib.hid hM
        rw [hM] at c2 HIL HX2 HSZ
        have HI3 := Lib.hid (And.intro i0 (And.intro i1 i2))
        have q1 : (0 : Int) ≤ (i : Int) := by omega
        have q2 : (i : Int) < (L : Int) := by omega
        clear hx hil hm f0 f1 f2 e2 hbw hx2 hM hsz i0 i1 i2
        go_wp2_with fail
        refine (cloneStripeC (.agg #[.int .i64 x.id, .int .i64 x.ep, .slice A2 M C2]) x ⟨A2, C2, by rw [HMM.out], by rw [HMM.out]; exact HIL.out, HI3.out⟩ HLX.out).mono ?_
        rintro _ w3 ⟨A3, C3, rfl, hbu, hb3⟩
        have hnx := HNX.out A3 C3 _ w3 (by rw [HSZ.out]; omega) (HX2.out.trans (hb3.mono HX2.out.size)) hbu
        rw [HMM.out] at hnx ⊢
        have HNEW := Lib.hid hnx.1
        have d0 := hnx.2.cell i hlt 0 (by omega)
        have d1 := hnx.2.cell i hlt 1 (by omega)
        have d2 := hnx.2.cell i hlt 2 (by omega)
        have j0 := hnx.2.free i hlt 0 (by omega)
        have j1 := hnx.2.free i hlt 1 (by omega)
        have j2 := hnx.2.free i hlt 2 (by omega)
        rw [Nat.add_zero] at d0 j0
        clear hnx hbu hb3 HNX c0 c1 c2
        go_wp2
        go_roundw
        case rel => exact ⟨i + 1, by omega, by go_num, _, HNEW.out⟩
        case measure => simp [intOf]; omega
      · obtain rfl : i = L := by omega
        have q1 : ¬ (i : Int) < (i : Int) := by omega
        have HQ := Lib.hid (show CopyS w l (.returned (.slice (some ⟨g, 0, none⟩) i C)) wr from by
          rw [← HL.out] at g1 hm ⊢
          refine ⟨_, C, rfl, HB1.out.trans (hm.turned.below (fun b hb => by rw [hb]; exact HG.out) HB1.out.size), g1, g2, fun e => (by cases e), fun _ => ⟨g, f, rfl, HG.out, hm.row, fun k hk => On.more (hm.new k hk hk) fun b q => ⟨Nat.le_trans HB1.out.size q.1, q.2⟩⟩⟩)
        clear hm
        go_wp2
        go_ret
        exact HQ.out
  · obtain rfl : L = 0 := by omega
    have HQ := Lib.hid (show CopyS w l (.returned (.slice A 0 C)) w1 from by
      rw [← HL.out] at g1 ⊢
      exact ⟨A, C, rfl, HB1.out, g1, g2, HG3.out, fun q => absurd q (by rw [HL.out]; exact Nat.lt_irrefl 0)⟩)
    clear hq hb1 g3
    go_wp2
    refine wp_loop_rounds 1 ?_
    rw [rounds_succ]
    go_wp2
    go_ret
    exact HQ.out
end Go.Proofs.YtegbgnjmkohcfaaDoor.Tbl
namespace Go.Mem
open Go.RowKit
set_option linter.unusedVariables false
section
variable {H : Type} {P : Program} {k : TypeId} {R : Value → Option (DataW H × List MemPlace)} {w w' : World} {b r n cnt : Nat} {D : DataW H} {left : Lit → Bool}
theorem own_keep (h : w.ownsMap P k R b n D) (e : w'.heap[b]? = w.heap[b]?) : w'.ownsMap P k R b n D := by
  obtain ⟨es, clock, hb, q⟩ := h
  exact ⟨es, clock, e.trans hb, q⟩
theorem ranges_keep (h : w.ranges P k R b r n D left cnt) (e1 : w'.heap[b]? = w.heap[b]?) (e2 : w'.heap[r]? = w.heap[r]?) : w'.ranges P k R b r n D left cnt := by
  obtain ⟨es, clock, since, seen, c0, hb, F, hs, hD, hr, rest⟩ := h
  exact ⟨es, clock, since, seen, c0, e1.trans hb, F, hs, hD, e2.trans hr, rest⟩
theorem rangeLeft_keep (e1 : w'.heap[b]? = w.heap[b]?) (e2 : w'.heap[r]? = w.heap[r]?) : w'.rangeLeft b r = w.rangeLeft b r := by
  unfold World.rangeLeft
  rw [e1, e2]
/-- as many as there are -/
theorem own_tight (h : w.ownsMap P k R b n D) : w.ownsMap P k R b (Maps.size D) D := by
  obtain ⟨es, clock, hb, F, hs, hD⟩ := h
  refine ⟨es, clock, hb, F, ?_, hD⟩
  rw [hD]
  simp [Maps.size, length_sorted]
end
/-- how an element reads: as itself -/
def heldR (v : Value) : Option (DataW Value × List MemPlace) := some (.held v, [])
theorem heldR_inj {v u : Value} {ps : List MemPlace} (h : heldR v = some (.held u, ps)) : v = u := by
  have e := congrArg (fun o : Option (DataW Value × List MemPlace) => match o with | some (.held x, _) => x | _ => undef) h
  exact e
theorem held_inj {v u : Value} (h : (DataW.held v : DataW Value) = .held u) : v = u := by
  have e := congrArg (fun o : DataW Value => match o with | .held x => x | _ => undef) h
  exact e
abbrev kl (s : ByteArray) : Lit := .string s.data.toList
theorem kl_inj {s t : ByteArray} (h : kl s = kl t) : s = t := by
  injection h with h
  exact Kl.list_inj (by rw [ByteArray.toList_eq, ByteArray.toList_eq, h])
theorem kl_key (s : ByteArray) : WideAt.IsKeyLit (kl s) := trivial
theorem tl_inj {s t : ByteArray} : s.toList = t.toList ↔ s = t := ⟨Kl.list_inj, fun h => by rw [h]⟩
end Go.Mem
namespace Kl
variable {α : Type} {key : α → List UInt8}
theorem find_of {k : List UInt8} {L : List α} {x : α} (h : find key k L = some x) : x ∈ L ∧ key x = k := ⟨List.mem_of_find?_eq_some h, by simpa using List.find?_some h⟩
theorem find_mem : ∀ {L : List α}, Rising key L → ∀ x ∈ L, find key (key x) L = some x
  | [], _, x, h => by cases h
  | a :: L, hr, x, h => by
    obtain ⟨h1, h2⟩ := List.pairwise_cons.1 hr
    unfold find
    rw [List.find?_cons]
    rcases List.mem_cons.1 h with q | q
    · subst q; simp
    · have : ¬ key a = key x := ne (h1 x q)
      simp only [this, decide_false]
      exact find_mem h2 x q
theorem find_none {k : List UInt8} {L : List α} (h : find key k L = none) : ∀ x ∈ L, key x ≠ k := by
  unfold find at h
  rw [List.find?_eq_none] at h
  exact fun x hx => by simpa using h x hx
theorem rising_nodup {L : List α} (h : Rising key L) : L.Nodup := by
  refine List.Pairwise.imp ?_ h
  intro a b hab e
  subst e
  rw [irrefl] at hab
  cases hab
theorem put_len {x : α} : ∀ {L : List α}, Rising key L → (put key x L).length = if (find key (key x) L).isSome then L.length else L.length + 1
  | [], _ => by simp [put, find]
  | a :: L, h => by
    obtain ⟨h1, h2⟩ := List.pairwise_cons.1 h
    have ih := put_len (x := x) h2
    unfold find at ih ⊢
    unfold put
    rw [List.find?_cons]
    split
    · rename_i c
      have : ¬ key a = key x := ne c
      simp only [this, decide_false]
      rw [List.length_cons, ih]
      split <;> simp
    · rename_i c
      split
      · rename_i e
        simp [e]
      · rename_i e
        have hx : lt (key x) (key a) = true := (not_lt (by simpa using c)).resolve_left e
        have hn : L.find? (fun y => decide (key y = key x)) = none := by
          rw [List.find?_eq_none]
          intro y hy
          have := trans hx (h1 y hy)
          simpa using (ne this).symm
        simp [e, hn]
theorem del_len {k : List UInt8} : ∀ {L : List α}, Rising key L → (del key k L).length + (if (find key k L).isSome then 1 else 0) = L.length
  | [], _ => by simp [del, find]
  | a :: L, h => by
    obtain ⟨h1, h2⟩ := List.pairwise_cons.1 h
    have ih := del_len (k := k) h2
    unfold find del at ih ⊢
    rw [List.find?_cons]
    by_cases e : key a = k
    · have hn : ∀ y ∈ L, ¬ key y = k := fun y hy q => ne (h1 y hy) (e.trans q.symm)
      rw [List.filter_cons_of_neg (by simpa using e)]
      have hf : L.filter (fun a => decide (key a ≠ k)) = L := List.filter_eq_self.2 fun y hy => by simpa using hn y hy
      rw [hf]
      simp [e]
    · rw [List.filter_cons_of_pos (by simpa using e)]
      simp only [e, decide_false]
      rw [List.length_cons, List.length_cons]
      omega
theorem put_set {x : α} : ∀ {L : List α} {i : Nat} (hi : i < L.length), Rising key L → key L[i] = key x → put key x L = L.set i x
  | [], i, hi, _, _ => absurd hi (by simp)
  | a :: L, 0, hi, h, e => by
    unfold put
    have e' : key a = key x := e
    rw [e', irrefl]
    simp
  | a :: L, i + 1, hi, h, e => by
    obtain ⟨h1, h2⟩ := List.pairwise_cons.1 h
    unfold put
    have hi' : i < L.length := by simpa using hi
    have e' : key L[i] = key x := e
    have hl : lt (key a) (key x) = true := e' ▸ h1 L[i] (List.getElem_mem hi')
    rw [if_pos hl, put_set hi' h2 e']
    rfl
end Kl
namespace Go.Proofs.YtegbgnjmkohcfaaDoor.Tbl
set_option linter.unusedVariables false
open Go.ChangeShapes Go.WideShapes Go.ChangeAt Go.RowKit
open Go.Mem RecM
abbrev TTb : Nat := 56
abbrev TMap : Nat := 54
abbrev TStr : Nat := 9
theorem law : Maps.Keyed Tryd.prog TStr := Maps.string_keyed Tryd.underlying9
theorem zeroE (w : World) : (zeroValue TObj).run Tryd.prog w = .ok (.agg #[.string ⟨#[]⟩, .int .i64 0, .int .i64 0, .slice none 0 0]) w := by kernel_rfl
theorem key_of {s : ByteArray} (h : KeyOk s) : keyOf Tryd.prog TStr (.string s) = some (kl s) := WideMaps.keyOf_string_mk Tryd.underlying9 (by unfold KeyOk at h; unfold maxLen; omega)
/-- block b is a map of these objects, whose parts lie in blocks E -/
structure MapOf (E : Nat → Prop) (w : World) (b : Nat) (D : DataW Value) (objs : List ObjD) : Prop where
  own : w.ownsMap Tryd.prog TStr heldR b objs.length D
  nE : ¬ E b
  ris : Kl.Rising Tb.keyOf objs
  has : ∀ s : ByteArray, Maps.has D (kl s) = (Kl.find Tb.keyOf s.toList objs).isSome
  siz : Maps.size D = objs.length
  val : ∀ o ∈ objs, ∃ v, (∀ zd, D.atKey (kl o.key) zd = .held v) ∧ On E w (fun w' => ObjIs w' v o)
theorem MapOf.turned {E F : Nat → Prop} {w w' : World} {b : Nat} {D : DataW Value} {objs : List ObjD} (h : MapOf E w b D objs) (ht : Turned F w w') (hF : ∀ x, F x → ¬ E x ∧ x ≠ b) : MapOf E w' b D objs :=
  ⟨own_keep h.own (ht.block b h.own.lt (fun q => (hF b q).2 rfl)), h.nE, h.ris, h.has, h.siz, fun o ho => by
    obtain ⟨v, h1, h2⟩ := h.val o ho
    exact ⟨v, h1, h2.turned ht fun x q => (hF x q).1⟩⟩
theorem MapOf.below {E : Nat → Prop} {w w' : World} {b : Nat} {D : DataW Value} {objs : List ObjD} (h : MapOf E w b D objs) (hb : Below w.heap.size w w') : MapOf E w' b D objs := h.turned (Turned.of_below (fun _ => False) hb) (fun _ q => q.elim)
theorem MapOf.keyOk {E : Nat → Prop} {w : World} {b : Nat} {D : DataW Value} {objs : List ObjD} (h : MapOf E w b D objs) {o : ObjD} (ho : o ∈ objs) : KeyOk o.key := by
  obtain ⟨v, h1, h2⟩ := h.val o ho
  obtain ⟨A, C, e, g1, g2, g3, g4, g5⟩ := h2.here
  exact g4
/-- v, ok := m[k], where it is there -/
theorem MapOf.look {E : Nat → Prop} {w : World} {b : Nat} {D : DataW Value} {objs : List ObjD} (h : MapOf E w b D objs) {o : ObjD} (ho : o ∈ objs) : ∃ A C, (Instr.lookup TMap (.map (some b)) (.string o.key) true).run Tryd.prog w = .ok (.tuple #[.agg #[.string o.key, .int .i64 o.id, .int .i64 o.size, .slice A o.stripes.length C], .bool true]) w ∧
    (Instr.lookup TMap (.map (some b)) (.string o.key) false).run Tryd.prog w = .ok (.agg #[.string o.key, .int .i64 o.id, .int .i64 o.size, .slice A o.stripes.length C]) w ∧ On E w (fun w' => ObjIs w' (.agg #[.string o.key, .int .i64 o.id, .int .i64 o.size, .slice A o.stripes.length C]) o) := by
  have hk := h.keyOk ho
  obtain ⟨v, h1, h2⟩ := h.val o ho
  have hh : Maps.has D (kl o.key) = true := by
    rw [h.has, show o.key.toList = Tb.keyOf o from rfl, Kl.find_mem h.ris o ho]; rfl
  obtain ⟨v', ps, r1, r2⟩ := h.own.look_ok law Tryd.underlying54 (zeroE w) (zd := .held _) (zp := []) rfl (key_of hk)
  obtain ⟨v2, ps2, r3, r4⟩ := h.own.lookup law Tryd.underlying54 (zeroE w) (zd := .held _) (zp := []) rfl (key_of hk)
  rw [h1] at r2 r4
  have ev : v' = v := heldR_inj r2
  have ev2 : v2 = v := heldR_inj r4
  subst ev
  subst ev2
  rw [hh] at r1
  obtain ⟨A, C, e, g⟩ := h2.here
  subst e
  exact ⟨A, C, r1, r3, h2⟩
theorem str_shape {key : Value} {l : Lit} (h : keyOf Tryd.prog TStr key = some l) : ∃ s : ByteArray, key = .string s := by
  have hu := Tryd.underlying9
  obtain ⟨P, hP⟩ : ∃ P, Tryd.prog = P := ⟨_, rfl⟩
  rw [hP] at h hu
  clear hP
  unfold keyOf at h
  rw [hu] at h
  cases key <;> simp [mapKey, hu] at h
  exact ⟨_, rfl⟩
theorem key_lit {s : ByteArray} {l : Lit} (h : keyOf Tryd.prog TStr (.string s) = some l) : l = kl s := by
  have hu := Tryd.underlying9
  obtain ⟨P, hP⟩ : ∃ P, Tryd.prog = P := ⟨_, rfl⟩
  rw [hP] at h hu
  clear hP
  unfold keyOf at h
  rw [hu] at h
  simp [mapKey, hu] at h
  exact h.2.symm
theorem lookup_miss (w : World) (m : Option Nat) (es : Array MapEntry) (clock : Nat) (hb : m = none ∧ es = #[] ∨ ∃ b, m = some b ∧ w.heap[b]? = some (.map es clock)) (s : ByteArray) (hk : ∀ x ∈ es.toList, ∃ t : ByteArray, x.key = .string t) (hne : ∀ x ∈ es.toList, x.key ≠ .string s) :
    (Instr.lookup TMap (.map m) (.string s) true).run Tryd.prog w = .ok (.tuple #[.agg #[.string ⟨#[]⟩, .int .i64 0, .int .i64 0, .slice none 0 0], .bool false]) w := by
  have h1 : Instr.findNow .string (.string s) es.toList 0 = some none := by
    rcases MapKept.findNow_spec (d := .string) (k := .string s) trivial es.toList 0 (fun x hx => by obtain ⟨t, e⟩ := hk x hx; rw [e]; trivial) with ⟨q, _⟩ | ⟨j, e, _, h2, h3⟩
    · exact q
    · exact absurd h3 (hne e (List.mem_of_getElem? h2))
  have h2 := MapKept.run_findKey (w := w) Tryd.underlying9 h1
  have h3 := fun em => MapKept.run_checkKey (w := w) (k := .string s) Tryd.underlying9 trivial em 9999
  have h4 := run_underlying (w := w) Tryd.underlying54
  have hz := zeroE w
  obtain ⟨P, hP⟩ : ∃ P, Tryd.prog = P := ⟨_, rfl⟩
  rw [hP] at h2 h3 h4 hz ⊢
  clear hP
  rcases hb with ⟨rfl, rfl⟩ | ⟨b, rfl, hb⟩
  · simp at h2
    simp [Instr.lookup, h4, h3, h2, hz, Result.andThen]
  · simp [Instr.lookup, h4, MapKept.run_getObj_map hb, h3, h2, hz, Result.andThen]
/-- .. and where it is not -/
theorem MapOf.lookNo {E : Nat → Prop} {w : World} {b : Nat} {D : DataW Value} {objs : List ObjD} (h : MapOf E w b D objs) (s : ByteArray) (hn : Kl.find Tb.keyOf s.toList objs = none) :
    (Instr.lookup TMap (.map (some b)) (.string s) true).run Tryd.prog w = .ok (.tuple #[.agg #[.string ⟨#[]⟩, .int .i64 0, .int .i64 0, .slice none 0 0], .bool false]) w := by
  have hh : Maps.has D (kl s) = false := by rw [h.has, hn]; rfl
  obtain ⟨es, clock, hb, F, hs, hD⟩ := h.own
  refine lookup_miss w (some b) es clock (.inr ⟨b, rfl, hb⟩) s (fun x hx => ?_) (fun x hx e => ?_)
  · obtain ⟨y, hy⟩ := F.reads x hx
    exact str_shape (WideElems.rd_key hy)
  · obtain ⟨y, hy⟩ := F.reads x hx
    have h1 := WideElems.rd_key hy
    rw [e] at h1
    have h2 : y.1 = kl s := key_lit h1
    have : Maps.has D (kl s) = true := by
      rw [hD]
      exact List.any_eq_true.2 ⟨WideElems.rg Tryd.prog TStr heldR x, mem_sorted.2 (List.mem_map.2 ⟨x, hx, rfl⟩), by rw [WideElems.rg_of hy, h2]; exact WideAt.sameKey_self (kl_key s)⟩
    rw [this] at hh
    cases hh
/-- .. and in a map that is none -/
theorem look_nil (w : World) (s : ByteArray) : (Instr.lookup TMap (.map none) (.string s) true).run Tryd.prog w = .ok (.tuple #[.agg #[.string ⟨#[]⟩, .int .i64 0, .int .i64 0, .slice none 0 0], .bool false]) w :=
  lookup_miss w none #[] 0 (.inl ⟨rfl, rfl⟩) s (fun x hx => by simp at hx) (fun x hx => by simp at hx)
/-- m[k] = v -/
theorem MapOf.store {E E' : Nat → Prop} {w : World} {b : Nat} {D : DataW Value} {objs : List ObjD} (h : MapOf E w b D objs) (hlen : objs.length ≤ 1000000) (o : ObjD) (v : Value) (hk : KeyOk o.key) (hE : ∀ x, E x → E' x) (hn : ¬ E' b) (hv : On E' w (fun w' => ObjIs w' v o)) :
    ∃ w' D', (Instr.mapUpdate TMap (.map (some b)) (.string o.key) v).run Tryd.prog w = .ok () w' ∧ MapOf E' w' b D' (Kl.put Tb.keyOf o objs) ∧ Turned (fun x => x = b) w w' ∧ w'.heap.size = w.heap.size := by
  obtain ⟨w', h1, h2, h3⟩ := h.own.store law Tryd.underlying54 (by unfold maxLen; omega) (key_of hk) (show heldR v = some (.held v, []) from rfl)
  have ht : Turned (fun x => x = b) w w' := Turned.grown h3.grown (fun k q => (Option.some.inj q).symm)
  have hT := h.own.tidy law
  have hsz : w'.heap.size = w.heap.size := by
    obtain ⟨es, clock, es', clock', hb, rfl⟩ := h3
    simp [ChangeMaps.setBlock]
  have hput : ∀ s : ByteArray, Kl.find Tb.keyOf s.toList (Kl.put Tb.keyOf o objs) = if o.key = s then some o else Kl.find Tb.keyOf s.toList objs := fun s => by
    rw [Kl.find_put h.ris]
    by_cases e : o.key = s
    · subst e; rw [if_pos rfl, if_pos (show Tb.keyOf o = o.key.toList from rfl)]
    · rw [if_neg e, if_neg (show ¬ Tb.keyOf o = s.toList from fun q => e (Kl.list_inj q))]
  have hs : Maps.size (D.put (kl o.key) (.held v)) = (Kl.put Tb.keyOf o objs).length := by
    rw [Maps.size_put hT, Kl.put_len h.ris, h.siz, show Tb.keyOf o = o.key.toList from rfl, h.has]
  refine ⟨w', D.put (kl o.key) (.held v), h1, ⟨?_, hn, Kl.put_rising h.ris, fun s => ?_, hs, fun x hx => ?_⟩, ht, hsz⟩
  · rw [← hs]; exact own_tight h2
  · rw [hput]
    by_cases e : o.key = s
    · subst e; rw [if_pos rfl, Maps.has_put_same hT.isMap (kl_key _)]; rfl
    · rw [if_neg e, Maps.has_put_other (fun q => e (kl_inj q).symm), h.has]
  · by_cases e : x.key = o.key
    · have e1 := Kl.find_mem (Kl.put_rising h.ris) x hx
      rw [show Tb.keyOf x = x.key.toList from rfl, hput, if_pos e.symm] at e1
      cases e1
      exact ⟨v, fun zd => Maps.atKey_put_same hT.isMap (kl_key _) _ _, hv.turned ht fun q z => by subst z; exact hn⟩
    · rcases Kl.put_mem hx with q | q
      · subst q; exact absurd rfl e
      · obtain ⟨u, q1, q2⟩ := h.val x q
        exact ⟨u, fun zd => by rw [Maps.atKey_put_other (fun z => e (kl_inj z))]; exact q1 zd, (On.more q2 hE).turned ht fun y z => by subst z; exact hn⟩
/-- delete(m, k) -/
theorem MapOf.drop {E : Nat → Prop} {w : World} {b : Nat} {D : DataW Value} {objs : List ObjD} (h : MapOf E w b D objs) (s : ByteArray) (hk : KeyOk s) (ty : TypeId) :
    ∃ w' D', (Builtin.delete_ #[TMap, TStr] ty #[.map (some b), .string s]).run Tryd.prog w = .ok (.tuple #[]) w' ∧ MapOf E w' b D' (Kl.del Tb.keyOf s.toList objs) ∧ Turned (fun x => x = b) w w' ∧ w'.heap.size = w.heap.size := by
  obtain ⟨w', h1, h2, h3⟩ := h.own.drop law Tryd.underlying54 (key_of hk) ty
  have ht : Turned (fun x => x = b) w w' := Turned.grown h3.grown (fun k q => (Option.some.inj q).symm)
  have hT := h.own.tidy law
  have hsz : w'.heap.size = w.heap.size := by
    obtain ⟨es, clock, es', clock', hb, rfl⟩ := h3
    simp [ChangeMaps.setBlock]
  have hs : Maps.size (D.del (kl s)) = (Kl.del Tb.keyOf s.toList objs).length := by
    have e1 := Maps.size_del (k := kl s) hT
    have e2 := Kl.del_len (k := s.toList) h.ris
    rw [h.siz, h.has] at e1
    omega
  refine ⟨w', D.del (kl s), h1, ⟨?_, h.nE, Kl.del_rising h.ris, fun x => ?_, hs, fun x hx => ?_⟩, ht, hsz⟩
  · rw [← hs]; exact own_tight h2
  · rw [Kl.find_del]
    by_cases e : s = x
    · subst e; rw [if_pos rfl, Maps.has_del_same]; rfl
    · rw [if_neg (fun q => e (Kl.list_inj q)), Maps.has_del_other (fun q => e (kl_inj q).symm), h.has]
  · unfold Kl.del at hx
    obtain ⟨q, z⟩ := List.mem_filter.1 hx
    obtain ⟨u, q1, q2⟩ := h.val x q
    have hne : kl x.key ≠ kl s := fun e => by
      have := kl_inj e
      subst this
      simp [Tb.keyOf] at z
    exact ⟨u, fun zd => by rw [Maps.atKey_del_other hne]; exact q1 zd, q2.turned ht fun y z => by subst z; exact h.nE⟩
/-- a map that was just made -/
theorem MapOf.made (E : Nat → Prop) (w : World) (hE : ∀ b, E b → b < w.heap.size) : MapOf E (w.alloc (.map #[] 0)) w.heap.size (.map []) [] :=
  ⟨World.ownsMap_made _ _ _ _, fun q => Nat.lt_irrefl _ (hE _ q), List.Pairwise.nil, fun s => rfl, rfl, fun o ho => by cases ho⟩
/-- the map is gone through, by the iterator in block r; done have come -/
structure Rng (E : Nat → Prop) (w : World) (b r : Nat) (D : DataW Value) (objs done : List ObjD) : Prop where
  map : MapOf E w b D objs
  rng : ∃ left cnt, w.ranges Tryd.prog TStr heldR b r objs.length D left cnt ∧ (∀ k, left k = true → Maps.has D k = true) ∧ ∀ o ∈ objs, (left (kl o.key) = false ↔ o ∈ done)
  nod : done.Nodup
  sub : ∀ o ∈ done, o ∈ objs
  nr : ¬ E r
theorem Rng.turned {E F : Nat → Prop} {w w' : World} {b r : Nat} {D : DataW Value} {objs done : List ObjD} (h : Rng E w b r D objs done) (ht : Turned F w w') (hF : ∀ x, F x → ¬ E x ∧ x ≠ b ∧ x ≠ r) : Rng E w' b r D objs done ∧ w'.rangeLeft b r = w.rangeLeft b r := by
  obtain ⟨h1, ⟨left, cnt, h2, h3, h4⟩, h5, h6, h7⟩ := h
  have e1 := ht.block b h1.own.lt (fun q => (hF b q).2.1 rfl)
  have e2 := ht.block r h2.lt (fun q => (hF r q).2.2 rfl)
  exact ⟨⟨h1.turned ht fun x q => ⟨(hF x q).1, (hF x q).2.1⟩, ⟨left, cnt, ranges_keep h2 e1 e2, h3, h4⟩, h5, h6, h7⟩, rangeLeft_keep e1 e2⟩
theorem Rng.below {E : Nat → Prop} {w w' : World} {b r : Nat} {D : DataW Value} {objs done : List ObjD} (h : Rng E w b r D objs done) (hb : Below w.heap.size w w') : Rng E w' b r D objs done ∧ w'.rangeLeft b r = w.rangeLeft b r := h.turned (Turned.of_below (fun _ => False) hb) (fun _ q => q.elim)
theorem Rng.lt {E : Nat → Prop} {w : World} {b r : Nat} {D : DataW Value} {objs done : List ObjD} (h : Rng E w b r D objs done) : r < w.heap.size := by
  obtain ⟨left, cnt, h2, _⟩ := h.rng
  exact h2.lt
theorem has_str {w : World} {b n : Nat} {D : DataW Value} (h : w.ownsMap Tryd.prog TStr heldR b n D) {k : Lit} (hk : Maps.has D k = true) : ∃ s : ByteArray, k = kl s := by
  obtain ⟨es, clock, hb, F, hs, rfl⟩ := h
  obtain ⟨p, hp, e⟩ := List.any_eq_true.1 hk
  obtain ⟨x, hx, rfl⟩ := List.mem_map.1 (mem_sorted.1 hp)
  obtain ⟨y, hy⟩ := F.reads x hx
  have h1 := WideElems.rd_key hy
  rw [WideElems.rg_of hy] at e
  have h2 := WideAt.sameKey_eq e
  subst h2
  obtain ⟨t, ht⟩ := (WideMaps.string_law Tryd.underlying9).str h1
  exact ⟨⟨t.toArray⟩, by rw [ht]⟩
theorem str_inv {key : Value} {s : ByteArray} (h : keyOf Tryd.prog TStr key = some (kl s)) : key = .string s := by
  have hu := Tryd.underlying9
  obtain ⟨P, hP⟩ : ∃ P, Tryd.prog = P := ⟨_, rfl⟩
  rw [hP] at h hu
  clear hP
  unfold keyOf at h
  rw [hu] at h
  cases key <;> simp [mapKey, hu] at h
  obtain ⟨h9, h10⟩ := h
  rename_i s'
  have e : kl s' = kl s := by simp [kl, h10]
  rw [kl_inj e]
theorem wpList_range_obj {E : Nat → Prop} (w : World) {ops : Array Oper} {rest : List Oper} {o : Oper} {a : Act} {Q : Exit → Act → World → Prop} (hg : o.guard = none) (m : Operand) (hop : o.op = Op.range TMap m) (b : Nat) (D : DataW Value) (objs : List ObjD) (hm : a.eval m = .map (some b)) (h : MapOf E w b D objs) (hE : ∀ x, E x → x < w.heap.size)
    (hK : ∀ w', Rng E w' b w.heap.size D objs [] → Below w.heap.size w w' → w'.heap.size = w.heap.size + 1 → wpList Tryd.prog ops Q rest (a.put o.dst (.pointer (some ⟨w.heap.size, 0, none⟩))) w') :
    wpList Tryd.prog ops Q (o :: rest) a w := by
  refine wpList_range_own w hg m TMap hop TStr TObj law Tryd.underlying54 heldR b objs.length D hm h.own fun w' h1 h2 h3 => ?_
  have hb : Below w.heap.size w w' := ⟨h2.os, h2.tape, h2.output, h2.size, fun i hi => h2.block i hi (by simp)⟩
  refine hK w' ⟨h.below hb, ⟨_, _, h1, fun _ q => q, fun o ho => ?_⟩, List.nodup_nil, fun o ho => (by cases ho), fun q => Nat.lt_irrefl _ (hE _ q)⟩ hb h3
  rw [h.has, show o.key.toList = Tb.keyOf o from rfl, Kl.find_mem h.ris o ho]
  simp
theorem wpList_next_obj {E : Nat → Prop} (w : World) {ops : Array Oper} {rest : List Oper} {o : Oper} {a : Act} {Q : Exit → Act → World → Prop} (hg : o.guard = none) (it : Operand) (hop : o.op = Op.next it false) (b r : Nat) (D : DataW Value) (objs done : List ObjD) (hit : a.eval it = .pointer (some ⟨r, 0, none⟩)) (h : Rng E w b r D objs done)
    (hDone : done.Perm objs → wpList Tryd.prog ops Q rest (a.put o.dst (.tuple #[.bool false])) w)
    (hMore : ∀ (x : ObjD) (A : Option Addr) (C : Nat) (w' : World), x ∈ objs → x ∉ done → Rng E w' b r D objs (done ++ [x]) → w'.rangeLeft b r < w.rangeLeft b r → Turned (fun y => y = r) w w' → w'.heap.size = w.heap.size →
      On E w' (fun w'' => ObjIs w'' (.agg #[.string x.key, .int .i64 x.id, .int .i64 x.size, .slice A x.stripes.length C]) x) →
      (Instr.entry (.pointer (some ⟨r, 0, none⟩))).run Tryd.prog w' = .ok (.tuple #[.string x.key, .agg #[.string x.key, .int .i64 x.id, .int .i64 x.size, .slice A x.stripes.length C]]) w' →
      wpList Tryd.prog ops Q rest (a.put o.dst (.tuple #[.bool true, .string x.key, .agg #[.string x.key, .int .i64 x.id, .int .i64 x.size, .slice A x.stripes.length C]])) w') :
    wpList Tryd.prog ops Q (o :: rest) a w := by
  obtain ⟨hm, ⟨left, cnt, h2, h3, h4⟩, h5, h6, h7⟩ := h
  refine wpList_plain hg fun K' hK' => ?_
  unfold Oper.wp
  rcases h2.next law o.type with ⟨h0, hl, hrun⟩ | ⟨key, v, k, y, w', cnt', hkey, hlk, hv, hat, hrun, hrg, hlt, hgr, hsz, hen⟩
  · simp [execOp, hop, hit, hrun, Result.andThen]
    refine hK' _ _ (hDone ?_)
    refine (List.perm_ext_iff_of_nodup h5 (Kl.rising_nodup hm.ris)).2 fun x => ⟨h6 x, fun hx => (h4 x hx).1 (hl _)⟩
  · have ht : Turned (fun y => y = r) w w' := Turned.grown hgr (fun j q => (Option.some.inj q).symm)
    have hbr : r ≠ b := h2.ne
    have hhas := h3 k hlk
    obtain ⟨s, rfl⟩ := has_str hm.own hhas
    have hks : key = .string s := by
      have h8 := hkey
      exact str_inv h8
    subst hks
    rw [hm.has] at hhas
    obtain ⟨x, hx⟩ := Option.isSome_iff_exists.1 hhas
    obtain ⟨hxm, hxk⟩ := Kl.find_of hx
    have hxs : x.key = s := Kl.list_inj hxk
    subst hxs
    obtain ⟨u, q1, q2⟩ := hm.val x hxm
    have hvu : v = u := by
      have e := hat (.held v)
      rw [q1] at e
      have e2 : heldR v = some (.held u, y.2) := by rw [hv, e]
      exact heldR_inj e2
    subst hvu
    have hon := q2.turned ht fun y z => by subst z; exact h7
    obtain ⟨A, C, e, g⟩ := hon.here
    subst e
    have hnd : x ∉ done := fun q => by
      have := (h4 x hxm).2 q
      rw [hlk] at this
      cases this
    have hmw : MapOf E w' b D objs := hm.turned ht fun y z => ⟨fun q => h7 (z ▸ q), fun q => hbr (z.symm.trans q)⟩
    simp [execOp, hop, hit, hrun, Result.andThen]
    refine hK' _ _ (hMore x A C w' hxm hnd ⟨hmw, ⟨_, cnt', hrg, fun k' hk' => ?_, fun o' ho' => ?_⟩, ?_, fun o' ho' => ?_, h7⟩ (by rw [hrg.left_eq, h2.left_eq]; exact hlt) ht hsz hon hen)
    · simp at hk'
      exact h3 k' hk'.1
    · rw [List.mem_append, List.mem_singleton, ← h4 o' ho']
      by_cases e : o' = x
      · subst e
        simp [WideAt.sameKey_self (kl_key o'.key)]
      · have hne : kl o'.key ≠ kl x.key := fun q => e (by
          have e1 := Kl.find_mem hm.ris o' ho'
          have e2 := Kl.find_mem hm.ris x hxm
          rw [show Tb.keyOf o' = Tb.keyOf x from congrArg ByteArray.toList (kl_inj q), e2] at e1
          cases e1
          rfl)
        simp [Maps.sameKey_ne hne, e]
    · rw [List.nodup_append]
      exact ⟨h5, by simp, fun a ha b hb e => hnd (by rw [List.mem_singleton.1 hb] at e; exact e ▸ ha)⟩
    · rcases List.mem_append.1 ho' with q | q
      · exact h6 o' q
      · rw [List.mem_singleton.1 q]; exact hxm
end Go.Proofs.YtegbgnjmkohcfaaDoor.Tbl
namespace Go.Proofs.YtegbgnjmkohcfaaDoor.Tbl
set_option linter.unusedVariables false
open Go.ChangeShapes Go.WideShapes Go.ChangeAt Go.RowKit
open Go.Mem RecM
def tc (t : Tb.TabD) (M : Option Nat) (S : Value) : Nat → Value
  | 0 => .int .i64 t.k | 1 => .int .i64 (t.n - t.k) | 2 => .map M | 3 => S | 4 => .int .i64 t.epoch | _ => .int .i64 t.last
structure TAt (w : World) (E : Nat → Prop) (p : Nat) (M : Option Nat) (S : Value) (t : Tb.TabD) : Prop where
  head : w.rowIs p TTb 6 (tc t M S)
  objs : (M = none ∧ t.objs = []) ∨ ∃ b D, M = some b ∧ b ≠ p ∧ MapOf E w b D t.objs
  sts : On E w (fun w' => Ints w' S t.states)
  lt : ∀ b, E b → b < w.heap.size
  np : ¬ E p
  km : (t.k = 3 ∧ t.n = 5) ∨ (t.k = 1 ∧ t.n = 1) ∨ (t.k = 2 ∧ t.n = 3)
section
variable {w w' : World} {E F : Nat → Prop} {p : Nat} {M : Option Nat} {S : Value} {t : Tb.TabD}
theorem TAt.turned (h : TAt w E p M S t) (ht : Turned F w w') (hF : ∀ b, F b → ¬ E b ∧ b ≠ p ∧ M ≠ some b) : TAt w' E p M S t :=
  ⟨h.head.of_block (ht.block p h.head.lt (fun q => (hF p q).2.1 rfl)), h.objs.imp id (fun ⟨b, D, h1, h2, h3⟩ => ⟨b, D, h1, h2, h3.turned ht fun x q => ⟨(hF x q).1, fun z => (hF x q).2.2 (z ▸ h1)⟩⟩), h.sts.turned ht (fun b q => (hF b q).1), fun b q => Nat.lt_of_lt_of_le (h.lt b q) ht.size, h.np, h.km⟩
theorem TAt.below (h : TAt w E p M S t) (hb : Below w.heap.size w w') : TAt w' E p M S t := h.turned (Turned.of_below (fun _ => False) hb) (fun _ q => q.elim)
theorem TAt.cell (h : TAt w E p M S t) {i : Nat} (hi : i < 6) : w.cell? ⟨p, i, none⟩ = some (tc t M S i) := h.head.cell hi
theorem TAt.free (h : TAt w E p M S t) (i : Nat) : w.frozen? ⟨p, i, none⟩ = false := h.head.frozen i
theorem TAt.code (h : TAt w E p M S t) : KM w p t.k t.n := ⟨h.cell (i := 0) (by omega), h.cell (i := 1) (by omega), h.km⟩
theorem TAt.map_lt (h : TAt w E p M S t) : ∀ b, M = some b → b < w.heap.size ∧ ¬ E b ∧ b ≠ p := fun b q => by
  rcases h.objs with ⟨h1, h2⟩ | ⟨b', D, h1, h2, h3⟩
  · rw [h1] at q; cases q
  · rw [h1] at q; cases q
    exact ⟨h3.own.lt, h3.nE, h2⟩
end
def zTab : Value := .agg #[.int .i64 0, .int .i64 0, .map none, .slice none 0 0, .int .i64 0, .int .i64 0]
set_option maxHeartbeats 2000000 in
theorem nowC {w : World} {E : Nat → Prop} {p : Nat} {M : Option Nat} {A : Option Addr} {C : Nat} {t : Tb.TabD} (h : TAt w E p M (.slice A t.states.length C) t) :
    Calls Tryd.prog 19 #[.pointer (some ⟨p, 0, none⟩)] w fun e w' => e = .returned (.agg #[.int .i64 t.k, .int .i64 (t.n - t.k), .map M, .slice A t.states.length C, .int .i64 t.epoch, .int .i64 t.last]) ∧ Below w.heap.size w w' := by
  obtain ⟨w1, hw1⟩ : ∃ w1, w.alloc (.cells #[.int .i64 0, .int .i64 0, .map none, .slice none 0 0, .int .i64 0, .int .i64 0] TTb) = w1 := ⟨_, rfl⟩
  have hx : Below w.heap.size w w1 := by rw [← hw1]; exact (Below.refl _ _).alloc (Nat.le_refl _) _
  obtain ⟨B, hB⟩ : ∃ B, w.heap.size = B := ⟨_, rfl⟩
  have hrow : w1.rowIs B TTb 6 (fun i => #[Value.int .i64 0, .int .i64 0, .map none, .slice none 0 0, .int .i64 0, .int .i64 0].getD i undef) := by rw [← hw1, ← hB]; exact row_of w _ _
  have c0 : w1.cell? ⟨p, 0, none⟩ = some (.int .i64 t.k) := below_cell hx _ _ (h.cell (i := 0) (by omega))
  have c1 : w1.cell? ⟨p, 1, none⟩ = some (.int .i64 (t.n - t.k)) := below_cell hx _ _ (h.cell (i := 1) (by omega))
  have c2 : w1.cell? ⟨p, 2, none⟩ = some (.map M) := below_cell hx _ _ (h.cell (i := 2) (by omega))
  have c3 : w1.cell? ⟨p, 3, none⟩ = some (.slice A t.states.length C) := below_cell hx _ _ (h.cell (i := 3) (by omega))
  have c4 : w1.cell? ⟨p, 4, none⟩ = some (.int .i64 t.epoch) := below_cell hx _ _ (h.cell (i := 4) (by omega))
  have c5 : w1.cell? ⟨p, 5, none⟩ = some (.int .i64 t.last) := below_cell hx _ _ (h.cell (i := 5) (by omega))
  have hp : p < B := hB ▸ h.head.lt
  have y0 := hrow.cell (i := 0) (by omega)
  have y1 := hrow.cell (i := 1) (by omega)
  have y2 := hrow.cell (i := 2) (by omega)
  have y3 := hrow.cell (i := 3) (by omega)
  have y4 := hrow.cell (i := 4) (by omega)
  have y5 := hrow.cell (i := 5) (by omega)
  have j0 := hrow.frozen 0
  have j1 := hrow.frozen 1
  have j2 := hrow.frozen 2
  have j3 := hrow.frozen 3
  have j4 := hrow.frozen 4
  have j5 := hrow.frozen 5
  obtain ⟨L, hL⟩ : ∃ L, t.states.length = L := ⟨_, rfl⟩
  obtain ⟨m, hm⟩ : ∃ m, t.n - t.k = m := ⟨_, rfl⟩
  rw [hL] at c3 ⊢
  rw [hm] at c1 ⊢
  have hz := ((((((hrow.set 0 (.int .i64 t.k)).set 1 (.int .i64 m)).set 2 (.map M)).set 3 (.slice A L C)).set 4 (.int .i64 t.epoch)).set 5 (.int .i64 t.last))
  have hbl : Below w.heap.size w ((((((w1.setCell ⟨B, 0, none⟩ (.int .i64 t.k)).setCell ⟨B, 1, none⟩ (.int .i64 m)).setCell ⟨B, 2, none⟩ (.map M)).setCell ⟨B, 3, none⟩ (.slice A L C)).setCell ⟨B, 4, none⟩ (.int .i64 t.epoch)).setCell ⟨B, 5, none⟩ (.int .i64 t.last)) := (Below.setCell (Below.setCell (Below.setCell (Below.setCell (Below.setCell (Below.setCell hx (by show w.heap.size ≤ B; omega) (.int .i64 t.k)) (by show w.heap.size ≤ B; omega) (.int .i64 m)) (by show w.heap.size ≤ B; omega) (.map M)) (by show w.heap.size ≤ B; omega) (.slice A L C)) (by show w.heap.size ≤ B; omega) (.int .i64 t.epoch)) (by show w.heap.size ≤ B; omega) (.int .i64 t.last))
  have HW := Lib.hid (show ∃ wz : World, ((((((w1.setCell ⟨B, 0, none⟩ (.int .i64 t.k)).setCell ⟨B, 1, none⟩ (.int .i64 m)).setCell ⟨B, 2, none⟩ (.map M)).setCell ⟨B, 3, none⟩ (.slice A L C)).setCell ⟨B, 4, none⟩ (.int .i64 t.epoch)).setCell ⟨B, 5, none⟩ (.int .i64 t.last)) = wz ∧ wz.cell? ⟨B, 0, none⟩ = some (.int .i64 t.k) ∧ wz.cell? ⟨B, 1, none⟩ = some (.int .i64 m) ∧ wz.cell? ⟨B, 2, none⟩ = some (.map M) ∧ wz.cell? ⟨B, 3, none⟩ = some (.slice A L C) ∧ wz.cell? ⟨B, 4, none⟩ = some (.int .i64 t.epoch) ∧ wz.cell? ⟨B, 5, none⟩ = some (.int .i64 t.last) ∧ Below w.heap.size w wz from
    ⟨_, rfl, hz.cell (i := 0) (by omega), hz.cell (i := 1) (by omega), hz.cell (i := 2) (by omega), hz.cell (i := 3) (by omega), hz.cell (i := 4) (by omega), hz.cell (i := 5) (by omega), hbl⟩)
  have HW1 := Lib.hid hw1
  have HBE := Lib.hid hB
  clear h hx hrow hz hbl hw1 hB hL hm
  go_enter Tryd.func19, Tryd.ntmps19
  go_upto_region 3 with fail
  rw [HW1.out, HBE.out]
  go_wp2
  obtain ⟨wz, hwz, z0, z1, z2, z3, z4, z5, hbz⟩ := HW.out
  rw [hwz]
  exact bodyPost_ret (v := .agg #[.int .i64 t.k, .int .i64 m, .map M, .slice A L C, .int .i64 t.epoch, .int .i64 t.last]) (by simp [results, Tryd.results19, go_sem, z0, z1, z2, z3, z4, z5]) rfl ⟨rfl, HBE.out ▸ hbz⟩
set_option maxHeartbeats 2000000 in
theorem nowNo (w : World) : Calls Tryd.prog 19 #[.pointer none] w fun e w' => e = .returned (.agg #[.int .i64 0, .int .i64 0, .map none, .slice none 0 0, .int .i64 0, .int .i64 0]) ∧ Below w.heap.size w w' := by
  go_enter Tryd.func19, Tryd.ntmps19
  go_wp2
  exact bodyPost_ret (v := .agg #[.int .i64 0, .int .i64 0, .map none, .slice none 0 0, .int .i64 0, .int .i64 0]) (by simp [results, Tryd.results19, go_sem]) rfl ⟨rfl, (Below.refl _ _).alloc (Nat.le_refl _) _⟩
def zObj : Value := .agg #[.string ⟨#[]⟩, .int .i64 0, .int .i64 0, .slice none 0 0]
/-- what byID tells -/
def FoundI (E : Nat → Prop) (w : World) (t : Tb.TabD) (id : Int) (e : Ending) (w' : World) : Prop := Below w.heap.size w w' ∧
  ((∃ o A C, o ∈ t.objs ∧ o.id = id ∧ e = .returned (.tuple #[.agg #[.string o.key, .int .i64 o.id, .int .i64 o.size, .slice A o.stripes.length C], .bool true]) ∧ On E w' (fun w'' => ObjIs w'' (.agg #[.string o.key, .int .i64 o.id, .int .i64 o.size, .slice A o.stripes.length C]) o)) ∨
   ((∀ o ∈ t.objs, o.id ≠ id) ∧ e = .returned (.tuple #[.agg #[.string ⟨#[]⟩, .int .i64 0, .int .i64 0, .slice none 0 0], .bool false])))
theorem boxed4 (w : World) (c0 c1 c2 c3 : Value) : (w.alloc (.cells #[c0, c1, c2, c3] TObj)).rowIs w.heap.size TObj 4 (fun j => #[c0, c1, c2, c3].getD j undef) := row_of w _ _
theorem field2 (a b : Int) (M : Option Nat) (S : Value) (c d : Int) (w : World) : (Instr.field TTb (.agg #[.int .i64 a, .int .i64 b, .map M, S, .int .i64 c, .int .i64 d]) 2).run Tryd.prog w = .ok (.map M) w := by kernel_rfl
theorem field3 (a b : Int) (M : Option Nat) (S : Value) (c d : Int) (w : World) : (Instr.field TTb (.agg #[.int .i64 a, .int .i64 b, .map M, S, .int .i64 c, .int .i64 d]) 3).run Tryd.prog w = .ok S w := by kernel_rfl
theorem field4 (a b : Int) (M : Option Nat) (S : Value) (c d : Int) (w : World) : (Instr.field TTb (.agg #[.int .i64 a, .int .i64 b, .map M, S, .int .i64 c, .int .i64 d]) 4).run Tryd.prog w = .ok (.int .i64 c) w := by kernel_rfl
theorem field5 (a b : Int) (M : Option Nat) (S : Value) (c d : Int) (w : World) : (Instr.field TTb (.agg #[.int .i64 a, .int .i64 b, .map M, S, .int .i64 c, .int .i64 d]) 5).run Tryd.prog w = .ok (.int .i64 d) w := by kernel_rfl
/-- a table that has no map yet has no object -/
theorem TAt.noMap {w : World} {E : Nat → Prop} {p : Nat} {S : Value} {t : Tb.TabD} (h : TAt w E p none S t) : t.objs = [] := by
  rcases h.objs with ⟨h1, h2⟩ | ⟨b, D, h1, h2, h3⟩
  · exact h2
  · cases h1
theorem TAt.someMap {w : World} {E : Nat → Prop} {p b : Nat} {S : Value} {t : Tb.TabD} (h : TAt w E p (some b) S t) : b ≠ p ∧ ∃ D, MapOf E w b D t.objs := by
  rcases h.objs with ⟨h1, h2⟩ | ⟨b', D, h1, h2, h3⟩
  · cases h1
  · cases h1
    exact ⟨h2, D, h3⟩
/-- the state that every walk through the map begins with: what now told, in new memory -/
structure Begun (w : World) (E : Nat → Prop) (p : Nat) (M : Option Nat) (S : Value) (t : Tb.TabD) (w2 : World) : Prop where
  tab : TAt w2 E p M S t
  bel : Below w.heap.size w w2
set_option maxRecDepth 100000 in
set_option maxHeartbeats 4000000 in
theorem byIDC0 {w : World} {E : Nat → Prop} {p : Nat} {A : Option Addr} {C : Nat} {t : Tb.TabD} (h : TAt w E p none (.slice A t.states.length C) t) (id : Int) :
    Calls Tryd.prog 24 #[.pointer (some ⟨p, 0, none⟩), .int .i64 id] w (FoundI E w t id) := by
  obtain ⟨w1, hw1⟩ : ∃ w1, w.alloc (.cells #[.string ⟨#[]⟩, .int .i64 0, .int .i64 0, .slice none 0 0] TObj) = w1 := ⟨_, rfl⟩
  have hx : Below w.heap.size w w1 := by rw [← hw1]; exact (Below.refl _ _).alloc (Nat.le_refl _) _
  obtain ⟨B, hB⟩ : ∃ B, w.heap.size = B := ⟨_, rfl⟩
  have hrow : w1.rowIs B TObj 4 (fun i => #[Value.string ⟨#[]⟩, .int .i64 0, .int .i64 0, .slice none 0 0].getD i undef) := by rw [← hw1, ← hB]; exact row_of w _ _
  have hsz : w1.heap.size = B + 1 := by rw [← hw1, ← hB]; simp
  have HT := Lib.hid (h.below hx)
  have H0 := Lib.hid h.noMap
  have HX := Lib.hid hx
  have HROW := Lib.hid hrow
  have HSZ := Lib.hid hsz
  have HW1 := Lib.hid hw1
  have HBE := Lib.hid hB
  clear h hx hrow hsz hw1 hB
  go_enter Tryd.func24, Tryd.ntmps24
  go_wp2_with fail
  rw [HW1.out, HBE.out]
  refine (nowC HT.out).mono ?_
  rintro _ w2 ⟨rfl, hb2⟩
  have HB2 := Lib.hid (HX.out.trans (hb2.mono HX.out.size))
  have hr2 := HROW.out.of_block (hb2.block B (by rw [HSZ.out]; omega))
  have hB2 : B < w2.heap.size := by have := hb2.size; rw [HSZ.out] at this; omega
  have hrg := run_range_nilMap (P := Tryd.prog) w2 TMap TStr TObj Tryd.underlying54
  have hnx : ∀ ty, (Instr.next (.pointer (some ⟨w2.heap.size, 0, none⟩)) false ty).run Tryd.prog (w2.alloc (.mapIter none 0 #[] 0)) = _ := fun ty => run_next_nilMap w2 ty 0 0 #[]
  obtain ⟨w3, hw3⟩ : ∃ w3, w2.alloc (.mapIter none 0 #[] 0) = w3 := ⟨_, rfl⟩
  have hb3 : Below w2.heap.size w2 w3 := by rw [← hw3]; exact (Below.refl _ _).alloc (Nat.le_refl _) _
  rw [hw3] at hrg hnx
  have hr3 := hr2.of_block (hb3.block B hB2)
  have HB3 := Lib.hid (HB2.out.trans (hb3.mono HB2.out.size))
  have y0 := hr3.cell (i := 0) (by omega)
  have y1 := hr3.cell (i := 1) (by omega)
  have y2 := hr3.cell (i := 2) (by omega)
  have y3 := hr3.cell (i := 3) (by omega)
  have j0 := hr3.frozen 0
  have j1 := hr3.frozen 1
  have j2 := hr3.frozen 2
  have j3 := hr3.frozen 3
  have hz := (((hr3.set 0 (.string ⟨#[]⟩)).set 1 (.int .i64 0)).set 2 (.int .i64 0)).set 3 (.slice none 0 0)
  have hbl : Below w.heap.size w ((((w3.setCell ⟨B, 0, none⟩ (.string ⟨#[]⟩)).setCell ⟨B, 1, none⟩ (.int .i64 0)).setCell ⟨B, 2, none⟩ (.int .i64 0)).setCell ⟨B, 3, none⟩ (.slice none 0 0)) := (((HB3.out.setCell (by show w.heap.size ≤ B; rw [HBE.out]; exact Nat.le_refl _) _).setCell (by show w.heap.size ≤ B; rw [HBE.out]; exact Nat.le_refl _) _).setCell (by show w.heap.size ≤ B; rw [HBE.out]; exact Nat.le_refl _) _).setCell (by show w.heap.size ≤ B; rw [HBE.out]; exact Nat.le_refl _) _
  have HW := Lib.hid (show ∃ wz, (((w3.setCell ⟨B, 0, none⟩ (.string ⟨#[]⟩)).setCell ⟨B, 1, none⟩ (.int .i64 0)).setCell ⟨B, 2, none⟩ (.int .i64 0)).setCell ⟨B, 3, none⟩ (.slice none 0 0) = wz ∧ wz.cell? ⟨B, 0, none⟩ = some (.string ⟨#[]⟩) ∧ wz.cell? ⟨B, 1, none⟩ = some (.int .i64 0) ∧ wz.cell? ⟨B, 2, none⟩ = some (.int .i64 0) ∧ wz.cell? ⟨B, 3, none⟩ = some (.slice none 0 0) ∧ Below w.heap.size w wz from
    ⟨_, rfl, hz.cell (i := 0) (by omega), hz.cell (i := 1) (by omega), hz.cell (i := 2) (by omega), hz.cell (i := 3) (by omega), hbl⟩)
  clear hw3 hb3 hr2 hb2 hB2 hr3 hz hbl
  have hfd := field2
  go_wp2
  refine wp_loop_rounds 1 ?_
  rw [rounds_succ]
  go_wp2
  obtain ⟨wz, hwz, z0, z1, z2, z3, hbz⟩ := HW.out
  rw [hwz]
  exact bodyPost_ret (v := .tuple #[.agg #[.string ⟨#[]⟩, .int .i64 0, .int .i64 0, .slice none 0 0], .bool false]) (by simp [results, Tryd.results24, go_sem, z0, z1, z2, z3]) rfl ⟨hbz, .inr ⟨fun o ho => (by rw [H0.out] at ho; cases ho), rfl⟩⟩
/-- in the midst of the search -/
def IdMid (E : Nat → Prop) (w w1 : World) (B b r : Nat) (D : DataW Value) (t : Tb.TabD) (id : Int) (wr : World) : Prop := ∃ done, Rng E wr b r D t.objs done ∧ (∀ o ∈ done, o.id ≠ id) ∧ wr.rowIs B TObj 4 (fun i => #[Value.string ⟨#[]⟩, .int .i64 0, .int .i64 0, .slice none 0 0].getD i undef) ∧ Below w.heap.size w wr
set_option maxRecDepth 100000 in
set_option maxHeartbeats 4000000 in
theorem byIDC1 {w : World} {E : Nat → Prop} {p b : Nat} {A : Option Addr} {C : Nat} {t : Tb.TabD} (h : TAt w E p (some b) (.slice A t.states.length C) t) (id : Int) :
    Calls Tryd.prog 24 #[.pointer (some ⟨p, 0, none⟩), .int .i64 id] w (FoundI E w t id) := by
  obtain ⟨w1, hw1⟩ : ∃ w1, w.alloc (.cells #[.string ⟨#[]⟩, .int .i64 0, .int .i64 0, .slice none 0 0] TObj) = w1 := ⟨_, rfl⟩
  have hx : Below w.heap.size w w1 := by rw [← hw1]; exact (Below.refl _ _).alloc (Nat.le_refl _) _
  obtain ⟨B, hB⟩ : ∃ B, w.heap.size = B := ⟨_, rfl⟩
  have hrow : w1.rowIs B TObj 4 (fun i => #[Value.string ⟨#[]⟩, .int .i64 0, .int .i64 0, .slice none 0 0].getD i undef) := by rw [← hw1, ← hB]; exact row_of w _ _
  have hsz : w1.heap.size = B + 1 := by rw [← hw1, ← hB]; simp
  have HT := Lib.hid (h.below hx)
  obtain ⟨hbp, D, hmap⟩ := h.someMap
  have HMAP := Lib.hid (hmap.below hx)
  have hbB : b < B := hB ▸ hmap.own.lt
  have HX := Lib.hid hx
  have HROW := Lib.hid hrow
  have HSZ := Lib.hid hsz
  have HW1 := Lib.hid hw1
  have HBE := Lib.hid hB
  have HLT := Lib.hid (hB ▸ h.lt)
  clear h hx hrow hsz hw1 hB hmap
  go_enter Tryd.func24, Tryd.ntmps24
  go_wp2_with fail
  rw [HW1.out, HBE.out]
  refine (nowC HT.out).mono ?_
  rintro _ w2 ⟨rfl, hb2⟩
  have HB2 := Lib.hid (HX.out.trans (hb2.mono HX.out.size))
  have HR2 := Lib.hid (HROW.out.of_block (hb2.block B (by rw [HSZ.out]; omega)))
  have HM2 := Lib.hid (HMAP.out.below hb2)
  have hB2 : B < w2.heap.size := by have := hb2.size; rw [HSZ.out] at this; omega
  have HB2S := Lib.hid hB2
  clear hb2
  have hfd := field2
  go_wp2_with (at_range; refine wpList_range_obj _ rfl _ rfl b D t.objs rfl HM2.out (fun x q => Nat.lt_trans (HLT.out x q) HB2S.out) ?_; intro w3 hrg3 hb3 hs3)
  go_frame
  have HM0 := Lib.hid (show IdMid E w w1 B b w2.heap.size D t id w3 from ⟨[], hrg3, fun o ho => (by cases ho), HR2.out.of_block (hb3.block B HB2S.out), HB2.out.trans (hb3.mono HB2.out.size)⟩)
  obtain ⟨r, hr⟩ : ∃ r, w2.heap.size = r := ⟨_, rfl⟩
  have hBr : B < r := hr ▸ HB2S.out
  rw [hr] at HM0 ⊢
  clear hrg3 hb3 hs3 hB2 hr
  go_loopw [12] (fun _ wr => IdMid E w w1 B b r D t id wr) (fun _ wr => wr.rangeLeft b r)
  case atStart => exact HM0.out
  case round =>
    obtain ⟨done, hrg, hdone, hrow, hbel⟩ := hrel
    have HRG := Lib.hid hrg
    have HDONE := Lib.hid hdone
    have HROW3 := Lib.hid hrow
    have HBEL := Lib.hid hbel
    clear hrg hdone hrow hbel
    go_wp2_with (at_next; refine wpList_next_obj _ rfl _ rfl b r D t.objs done rfl HRG.out ?_ ?_)
    · intro hperm
      have HP := Lib.hid hperm
      have y0 := HROW3.out.cell (i := 0) (by omega)
      have y1 := HROW3.out.cell (i := 1) (by omega)
      have y2 := HROW3.out.cell (i := 2) (by omega)
      have y3 := HROW3.out.cell (i := 3) (by omega)
      have j0 := HROW3.out.frozen 0
      have j1 := HROW3.out.frozen 1
      have j2 := HROW3.out.frozen 2
      have j3 := HROW3.out.frozen 3
      have hz := (((HROW3.out.set 0 (.string ⟨#[]⟩)).set 1 (.int .i64 0)).set 2 (.int .i64 0)).set 3 (.slice none 0 0)
      have hbl : Below w.heap.size w ((((wr.setCell ⟨B, 0, none⟩ (.string ⟨#[]⟩)).setCell ⟨B, 1, none⟩ (.int .i64 0)).setCell ⟨B, 2, none⟩ (.int .i64 0)).setCell ⟨B, 3, none⟩ (.slice none 0 0)) := (((HBEL.out.setCell (by show w.heap.size ≤ B; rw [HBE.out]; exact Nat.le_refl _) _).setCell (by show w.heap.size ≤ B; rw [HBE.out]; exact Nat.le_refl _) _).setCell (by show w.heap.size ≤ B; rw [HBE.out]; exact Nat.le_refl _) _).setCell (by show w.heap.size ≤ B; rw [HBE.out]; exact Nat.le_refl _) _
      have HW := Lib.hid (show ∃ wz, (((wr.setCell ⟨B, 0, none⟩ (.string ⟨#[]⟩)).setCell ⟨B, 1, none⟩ (.int .i64 0)).setCell ⟨B, 2, none⟩ (.int .i64 0)).setCell ⟨B, 3, none⟩ (.slice none 0 0) = wz ∧ wz.cell? ⟨B, 0, none⟩ = some (.string ⟨#[]⟩) ∧ wz.cell? ⟨B, 1, none⟩ = some (.int .i64 0) ∧ wz.cell? ⟨B, 2, none⟩ = some (.int .i64 0) ∧ wz.cell? ⟨B, 3, none⟩ = some (.slice none 0 0) ∧ Below w.heap.size w wz from
        ⟨_, rfl, hz.cell (i := 0) (by omega), hz.cell (i := 1) (by omega), hz.cell (i := 2) (by omega), hz.cell (i := 3) (by omega), hbl⟩)
      clear hz hbl hperm
      go_wp2
      obtain ⟨wz, hwz, z0, z1, z2, z3, hbz⟩ := HW.out
      rw [hwz]
      exact bodyPost_ret (v := .tuple #[.agg #[.string ⟨#[]⟩, .int .i64 0, .int .i64 0, .slice none 0 0], .bool false]) (by simp [results, Tryd.results24, go_sem, z0, z1, z2, z3]) rfl ⟨hbz, .inr ⟨fun o ho => HDONE.out o (HP.out.mem_iff.2 ho), rfl⟩⟩
    · intro x A2 C2 w4 hx4 hn4 hrg4 hlt4 ht4 hs4 hon4 hen4
      have hal : Below w4.heap.size w4 (w4.alloc (.cells #[.string x.key, .int .i64 x.id, .int .i64 x.size, .slice A2 x.stripes.length C2] TObj)) := (Below.refl _ _).alloc (Nat.le_refl _) _
      have hb4 : Below w.heap.size w w4 := HBEL.out.trans (ht4.below (fun y q => by rw [q, HBE.out]; exact Nat.le_of_lt hBr) HBEL.out.size)
      have hr4 := HROW3.out.of_block (ht4.block B HROW3.out.lt (fun q => by omega))
      have hr5 := hr4.of_block (hal.block B hr4.lt)
      have hb5 := hb4.trans (hal.mono hb4.size)
      obtain ⟨hrg5, hl5⟩ := hrg4.below hal
      have hon5 := hon4.turned (Turned.of_below (fun _ => False) hal) (fun _ q => q.elim)
      have hbox := boxed4 w4 (.string x.key) (.int .i64 x.id) (.int .i64 x.size) (.slice A2 x.stripes.length C2)
      obtain ⟨N, hN⟩ : ∃ N, x.stripes.length = N := ⟨_, rfl⟩
      have HN := Lib.hid hN
      rw [hN] at hal hr5 hb5 hrg5 hl5 hon5 hbox hen4 ⊢
      obtain ⟨w5, hw5⟩ : ∃ w5, w4.alloc (.cells #[.string x.key, .int .i64 x.id, .int .i64 x.size, .slice A2 N C2] TObj) = w5 := ⟨_, rfl⟩
      rw [hw5] at hal hr5 hb5 hrg5 hl5 hon5 hbox
      have HX4 := Lib.hid hx4
      have HW5 := Lib.hid hw5
      have HRG5 := Lib.hid hrg5
      have HL5 := Lib.hid (show w5.rangeLeft b r < wr.rangeLeft b r by rw [hl5]; exact hlt4)
      have HON5 := Lib.hid hon5
      have HB5 := Lib.hid hb5
      have HR5 := Lib.hid hr5
      have HBOX := Lib.hid hbox
      obtain ⟨g, hg⟩ : ∃ g, w4.heap.size = g := ⟨_, rfl⟩
      have hgB : B < g := by rw [← hg]; exact hr4.lt
      have HG := Lib.hid hg
      rw [hg] at HBOX
      clear hx4 hn4 hrg4 hlt4 ht4 hs4 hon4 hal hb4 hr4 hr5 hb5 hrg5 hl5 hon5 hbox hN hw5 hg
      go_upto_region 4 with fail
      rw [HW5.out, HG.out]
      have b0 := HBOX.out.cell (i := 0) (by omega)
      have b1 := HBOX.out.cell (i := 1) (by omega)
      have b2 := HBOX.out.cell (i := 2) (by omega)
      have b3 := HBOX.out.cell (i := 3) (by omega)
      by_cases hid : x.id = id
      · have hq : (x.id == id) = true := by rw [hid]; simp
        have y0 := HR5.out.cell (i := 0) (by omega)
        have y1 := HR5.out.cell (i := 1) (by omega)
        have y2 := HR5.out.cell (i := 2) (by omega)
        have y3 := HR5.out.cell (i := 3) (by omega)
        have j0 := HR5.out.frozen 0
        have j1 := HR5.out.frozen 1
        have j2 := HR5.out.frozen 2
        have j3 := HR5.out.frozen 3
        have hz := (((HR5.out.set 0 (.string x.key)).set 1 (.int .i64 x.id)).set 2 (.int .i64 x.size)).set 3 (.slice A2 N C2)
        have ht : Turned (fun y => y = B) w5 ((((w5.setCell ⟨B, 0, none⟩ (.string x.key)).setCell ⟨B, 1, none⟩ (.int .i64 x.id)).setCell ⟨B, 2, none⟩ (.int .i64 x.size)).setCell ⟨B, 3, none⟩ (.slice A2 N C2)) := (((Turned.set (F := fun y => y = B) (b := B) _ rfl).trans (Turned.set (F := fun y => y = B) (b := B) _ rfl) (Grown.refl _ _)).trans (Turned.set (F := fun y => y = B) (b := B) _ rfl) (Grown.refl _ _)).trans (Turned.set (F := fun y => y = B) (b := B) _ rfl) (Grown.refl _ _)
        have HW := Lib.hid (show ∃ wz, (((w5.setCell ⟨B, 0, none⟩ (.string x.key)).setCell ⟨B, 1, none⟩ (.int .i64 x.id)).setCell ⟨B, 2, none⟩ (.int .i64 x.size)).setCell ⟨B, 3, none⟩ (.slice A2 N C2) = wz ∧ wz.cell? ⟨B, 0, none⟩ = some (.string x.key) ∧ wz.cell? ⟨B, 1, none⟩ = some (.int .i64 x.id) ∧ wz.cell? ⟨B, 2, none⟩ = some (.int .i64 x.size) ∧ wz.cell? ⟨B, 3, none⟩ = some (.slice A2 N C2) ∧ Turned (fun y => y = B) w5 wz from
          ⟨_, rfl, hz.cell (i := 0) (by omega), hz.cell (i := 1) (by omega), hz.cell (i := 2) (by omega), hz.cell (i := 3) (by omega), ht⟩)
        have HID := Lib.hid hid
        clear hz ht hid
        go_wp2
        obtain ⟨wz, hwz, z0, z1, z2, z3, htz⟩ := HW.out
        rw [hwz]
        refine bodyPost_ret (v := .tuple #[.agg #[.string x.key, .int .i64 x.id, .int .i64 x.size, .slice A2 N C2], .bool true]) (by simp [results, Tryd.results24, go_sem, z0, z1, z2, z3]) rfl ⟨HB5.out.trans (htz.below (fun y q => by rw [q, HBE.out]; exact Nat.le_refl _) HB5.out.size), .inl ⟨x, A2, C2, HX4.out, HID.out, by rw [HN.out], ?_⟩⟩
        rw [HN.out]
        exact HON5.out.turned htz fun y q z => by subst q; exact Nat.lt_irrefl _ (HLT.out _ z)
      · have hq : (x.id == id) = false := by simpa using hid
        have HM5 := Lib.hid (show IdMid E w w1 B b r D t id w5 from ⟨_, HRG5.out, fun o ho => (List.mem_append.1 ho).elim (HDONE.out o) (fun q => by rw [List.mem_singleton.1 q]; exact hid), HR5.out, HB5.out⟩)
        clear hid
        go_wp2
        go_roundw
        case rel => exact HM5.out
        case measure => exact HL5.out
theorem byIDC {w : World} {E : Nat → Prop} {p : Nat} {M : Option Nat} {A : Option Addr} {C : Nat} {t : Tb.TabD} (h : TAt w E p M (.slice A t.states.length C) t) (id : Int) :
    Calls Tryd.prog 24 #[.pointer (some ⟨p, 0, none⟩), .int .i64 id] w (FoundI E w t id) := by
  cases M with
  | none => exact byIDC0 h id
  | some b => exact byIDC1 h id
end Go.Proofs.YtegbgnjmkohcfaaDoor.Tbl
namespace Tb
open Go Go.Mem Kl
theorem uniq_id : ∀ {L : List ObjD}, (L.map ObjD.id).Nodup → ∀ a ∈ L, ∀ b ∈ L, a.id = b.id → a = b
  | [], _, a, h, _, _, _ => by cases h
  | x :: L, k, a, ha, b, hb, e => by
    rw [List.map_cons, List.nodup_cons] at k
    rcases List.mem_cons.1 ha with q | q <;> rcases List.mem_cons.1 hb with z | z
    · rw [q, z]
    · exact absurd (List.mem_map.2 ⟨b, z, by rw [← e, q]⟩) k.1
    · exact absurd (List.mem_map.2 ⟨a, q, by rw [e, z]⟩) k.1
    · exact uniq_id k.2 a q b z e
theorem few_stripes {k n : Int} (hk : 1 ≤ k) {o : ObjD} (h : ObjOk k n o) : o.stripes.length ≤ 12 := by
  obtain ⟨c1, c2, c3, c4, c5, c6, c7, c8, c9⟩ := h
  have hl : (o.stripes.length : Int) < 13 := by
    rw [c7]
    unfold nStp
    exact Int.ediv_lt_of_lt_mul (by omega) (by omega)
  omega
end Tb
namespace Go.Proofs.YtegbgnjmkohcfaaDoor.Tbl
set_option linter.unusedVariables false
open Go.ChangeShapes Go.WideShapes Go.ChangeAt Go.RowKit
open Go.Mem RecM
/-- what find tells -/
def FoundS (E : Nat → Prop) (w : World) (t : Tb.TabD) (id : Int) (e : Ending) (w' : World) : Prop := Below w.heap.size w w' ∧
  ((∃ o A C, ∃ k : Nat, o ∈ t.objs ∧ k < o.stripes.length ∧ id = 16 * o.id + k ∧ e = .returned (.tuple #[.agg #[.string o.key, .int .i64 o.id, .int .i64 o.size, .slice A o.stripes.length C], .int .i64 k, .bool true]) ∧ On E w' (fun w'' => ObjIs w'' (.agg #[.string o.key, .int .i64 o.id, .int .i64 o.size, .slice A o.stripes.length C]) o)) ∨
   ((∀ o ∈ t.objs, ∀ k : Nat, k < o.stripes.length → id ≠ 16 * o.id + k) ∧ e = .returned (.tuple #[.agg #[.string ⟨#[]⟩, .int .i64 0, .int .i64 0, .slice none 0 0], .int .i64 0, .bool false])))
theorem idOk {t : Tb.TabD} (hok : t.Ok) {o : ObjD} (ho : o ∈ t.objs) : 1 ≤ o.id ∧ o.id ≤ 33554432 ∧ o.stripes.length ≤ 12 :=
  ⟨(hok.all.1 o ho).1.2.2.1, (hok.all.1 o ho).1.2.2.2.1, Tb.few_stripes hok.k1 (hok.all.1 o ho).1⟩
set_option maxRecDepth 100000 in
set_option maxHeartbeats 4000000 in
theorem findNeg {w : World} {E : Nat → Prop} {p : Nat} {M : Option Nat} {A : Option Addr} {C : Nat} {t : Tb.TabD} (h : TAt w E p M (.slice A t.states.length C) t) (hok : t.Ok) (id : Int) (hid : I64 id) (hneg : id < 0) :
    Calls Tryd.prog 15 #[.pointer (some ⟨p, 0, none⟩), .int .i64 id] w (FoundS E w t id) := by
  obtain ⟨w1, hw1⟩ : ∃ w1, w.alloc (.cells #[.string ⟨#[]⟩, .int .i64 0, .int .i64 0, .slice none 0 0] TObj) = w1 := ⟨_, rfl⟩
  have hx : Below w.heap.size w w1 := by rw [← hw1]; exact (Below.refl _ _).alloc (Nat.le_refl _) _
  obtain ⟨B, hB⟩ : ∃ B, w.heap.size = B := ⟨_, rfl⟩
  have hrow : w1.rowIs B TObj 4 (fun i => #[Value.string ⟨#[]⟩, .int .i64 0, .int .i64 0, .slice none 0 0].getD i undef) := by rw [← hw1, ← hB]; exact row_of w _ _
  have hsz : w1.heap.size = B + 1 := by rw [← hw1, ← hB]; simp
  have HT := Lib.hid (h.below hx)
  have HX := Lib.hid hx
  have HROW := Lib.hid hrow
  have HSZ := Lib.hid hsz
  have HW1 := Lib.hid hw1
  have HBE := Lib.hid hB
  have HLT := Lib.hid (hB ▸ h.lt)
  have HOK := Lib.hid hok
  obtain ⟨i1, i2⟩ := hid
  clear h hx hrow hsz hw1 hB hok
  go_enter Tryd.func15, Tryd.ntmps15
  go_wp2_with fail
  rw [HW1.out, HBE.out]
  refine (byIDC HT.out (id.tdiv 16)).mono ?_
  rintro _ w2 ⟨hb2, hfd⟩
  have HB2 := Lib.hid (HX.out.trans (hb2.mono HX.out.size))
  have HR2 := Lib.hid (HROW.out.of_block (hb2.block B (by rw [HSZ.out]; omega)))
  clear hb2
  rcases hfd with ⟨o, A2, C2, ho, hoi, rfl, -⟩ | ⟨hno, rfl⟩
  · exfalso
    have h1 := (idOk HOK.out ho).1
    have h2 : id.tdiv 16 ≤ 0 := by
      rw [show id = -(-id) by omega, Int.neg_tdiv]
      have := Int.tdiv_nonneg (show 0 ≤ -id by omega) (show (0 : Int) ≤ 16 by omega)
      omega
    omega
  · have HNO := Lib.hid (show ∀ o ∈ t.objs, ∀ k : Nat, k < o.stripes.length → id ≠ 16 * o.id + k from fun o ho k hk e => by
      have := (idOk HOK.out ho).1
      omega)
    clear hno
    have y0 := HR2.out.cell (i := 0) (by omega)
    have y1 := HR2.out.cell (i := 1) (by omega)
    have y2 := HR2.out.cell (i := 2) (by omega)
    have y3 := HR2.out.cell (i := 3) (by omega)
    have j0 := HR2.out.frozen 0
    have j1 := HR2.out.frozen 1
    have j2 := HR2.out.frozen 2
    have j3 := HR2.out.frozen 3
    have hz := ((((HR2.out.set 0 (.string ⟨#[]⟩)).set 1 (.int .i64 0)).set 2 (.int .i64 0)).set 3 (.slice none 0 0))
    have HW3 := Lib.hid (show ∃ wz, ((((w2.setCell ⟨B, 0, none⟩ (.string ⟨#[]⟩)).setCell ⟨B, 1, none⟩ (.int .i64 0)).setCell ⟨B, 2, none⟩ (.int .i64 0)).setCell ⟨B, 3, none⟩ (.slice none 0 0)) = wz ∧ wz.cell? ⟨B, 0, none⟩ = some (.string ⟨#[]⟩) ∧ wz.cell? ⟨B, 1, none⟩ = some (.int .i64 0) ∧ wz.cell? ⟨B, 2, none⟩ = some (.int .i64 0) ∧ wz.cell? ⟨B, 3, none⟩ = some (.slice none 0 0) ∧ Turned (fun y => y = B) w2 wz ∧ wz.rowIs B TObj 4 (fun i => #[Value.string ⟨#[]⟩, .int .i64 0, .int .i64 0, .slice none 0 0].getD i undef) from
      ⟨_, rfl, hz.cell (i := 0) (by omega), hz.cell (i := 1) (by omega), hz.cell (i := 2) (by omega), hz.cell (i := 3) (by omega), ((((Turned.set (F := fun y => y = B) (b := B) _ rfl).trans (Turned.set (F := fun y => y = B) (b := B) _ rfl) (Grown.refl _ _)).trans (Turned.set (F := fun y => y = B) (b := B) _ rfl) (Grown.refl _ _)).trans (Turned.set (F := fun y => y = B) (b := B) _ rfl) (Grown.refl _ _)), hz.congr (fun i hi => by rcases (by omega : i = 0 ∨ i = 1 ∨ i = 2 ∨ i = 3) with rfl | rfl | rfl | rfl <;> rfl)⟩)
    clear hz
    obtain ⟨w3, hw3, x0, x1, x2, x3, ht3, hr3⟩ := HW3.out
    have HW := Lib.hid hw3
    have HT3 := Lib.hid ht3
    have HR3 := Lib.hid hr3
    clear hw3 ht3 hr3 HW3 x0 x1 x2 x3
    go_upto_region 2 with fail
    rw [HW.out]
    clear y0 y1 y2 y3 j0 j1 j2 j3
    have y0 := HR3.out.cell (i := 0) (by omega)
    have y1 := HR3.out.cell (i := 1) (by omega)
    have y2 := HR3.out.cell (i := 2) (by omega)
    have y3 := HR3.out.cell (i := 3) (by omega)
    have j0 := HR3.out.frozen 0
    have j1 := HR3.out.frozen 1
    have j2 := HR3.out.frozen 2
    have j3 := HR3.out.frozen 3
    have hz := ((((HR3.out.set 0 (.string ⟨#[]⟩)).set 1 (.int .i64 0)).set 2 (.int .i64 0)).set 3 (.slice none 0 0))
    have HW4 := Lib.hid (show ∃ wz, ((((w3.setCell ⟨B, 0, none⟩ (.string ⟨#[]⟩)).setCell ⟨B, 1, none⟩ (.int .i64 0)).setCell ⟨B, 2, none⟩ (.int .i64 0)).setCell ⟨B, 3, none⟩ (.slice none 0 0)) = wz ∧ wz.cell? ⟨B, 0, none⟩ = some (.string ⟨#[]⟩) ∧ wz.cell? ⟨B, 1, none⟩ = some (.int .i64 0) ∧ wz.cell? ⟨B, 2, none⟩ = some (.int .i64 0) ∧ wz.cell? ⟨B, 3, none⟩ = some (.slice none 0 0) ∧ Turned (fun y => y = B) w3 wz ∧ wz.rowIs B TObj 4 (fun i => #[Value.string ⟨#[]⟩, .int .i64 0, .int .i64 0, .slice none 0 0].getD i undef) from
      ⟨_, rfl, hz.cell (i := 0) (by omega), hz.cell (i := 1) (by omega), hz.cell (i := 2) (by omega), hz.cell (i := 3) (by omega), ((((Turned.set (F := fun y => y = B) (b := B) _ rfl).trans (Turned.set (F := fun y => y = B) (b := B) _ rfl) (Grown.refl _ _)).trans (Turned.set (F := fun y => y = B) (b := B) _ rfl) (Grown.refl _ _)).trans (Turned.set (F := fun y => y = B) (b := B) _ rfl) (Grown.refl _ _)), hz.congr (fun i hi => by rcases (by omega : i = 0 ∨ i = 1 ∨ i = 2 ∨ i = 3) with rfl | rfl | rfl | rfl <;> rfl)⟩)
    clear hz
    go_wp2
    obtain ⟨wz, hwz, z0, z1, z2, z3, htz, -⟩ := HW4.out
    rw [hwz]
    exact bodyPost_ret (v := .tuple #[.agg #[.string ⟨#[]⟩, .int .i64 0, .int .i64 0, .slice none 0 0], .int .i64 0, .bool false]) (by simp [results, Tryd.results15, go_sem, z0, z1, z2, z3]) rfl ⟨(HB2.out.trans (HT3.out.below (fun y q => by rw [q, HBE.out]; exact Nat.le_refl _) HB2.out.size)).trans (htz.below (fun y q => by rw [q, HBE.out]; exact Nat.le_refl _) (Nat.le_trans HB2.out.size HT3.out.size)), .inr ⟨HNO.out, rfl⟩⟩
set_option maxRecDepth 100000 in
set_option maxHeartbeats 4000000 in
theorem findPos {w : World} {E : Nat → Prop} {p : Nat} {M : Option Nat} {A : Option Addr} {C : Nat} {t : Tb.TabD} (h : TAt w E p M (.slice A t.states.length C) t) (hok : t.Ok) (id : Int) (hid : I64 id) (hpos : 0 ≤ id) :
    Calls Tryd.prog 15 #[.pointer (some ⟨p, 0, none⟩), .int .i64 id] w (FoundS E w t id) := by
  obtain ⟨w1, hw1⟩ : ∃ w1, w.alloc (.cells #[.string ⟨#[]⟩, .int .i64 0, .int .i64 0, .slice none 0 0] TObj) = w1 := ⟨_, rfl⟩
  have hx : Below w.heap.size w w1 := by rw [← hw1]; exact (Below.refl _ _).alloc (Nat.le_refl _) _
  obtain ⟨B, hB⟩ : ∃ B, w.heap.size = B := ⟨_, rfl⟩
  have hrow : w1.rowIs B TObj 4 (fun i => #[Value.string ⟨#[]⟩, .int .i64 0, .int .i64 0, .slice none 0 0].getD i undef) := by rw [← hw1, ← hB]; exact row_of w _ _
  have hsz : w1.heap.size = B + 1 := by rw [← hw1, ← hB]; simp
  have HT := Lib.hid (h.below hx)
  have HX := Lib.hid hx
  have HROW := Lib.hid hrow
  have HSZ := Lib.hid hsz
  have HW1 := Lib.hid hw1
  have HBE := Lib.hid hB
  have HLT := Lib.hid (hB ▸ h.lt)
  have HOK := Lib.hid hok
  obtain ⟨i1, i2⟩ := hid
  clear h hx hrow hsz hw1 hB hok
  go_enter Tryd.func15, Tryd.ntmps15
  go_wp2_with fail
  rw [HW1.out, HBE.out]
  refine (byIDC HT.out (id / 16)).mono ?_
  rintro _ w2 ⟨hb2, hfd⟩
  have HB2 := Lib.hid (HX.out.trans (hb2.mono HX.out.size))
  have HR2 := Lib.hid (HROW.out.of_block (hb2.block B (by rw [HSZ.out]; omega)))
  clear hb2
  rcases hfd with ⟨o, A2, C2, ho, hoi, rfl, hon⟩ | ⟨hno, rfl⟩
  · obtain ⟨k, hk⟩ : ∃ k : Nat, id % 16 = k := ⟨(id % 16).toNat, by omega⟩
    have hek : id = 16 * o.id + k := by omega
    have HEK := Lib.hid hek
    have HK := Lib.hid hk
    have HO := Lib.hid ho
    have HON := Lib.hid hon
    have hfew := (idOk HOK.out ho).2.2
    obtain ⟨N, hN⟩ : ∃ N, o.stripes.length = N := ⟨_, rfl⟩
    have HN := Lib.hid hN
    rw [hN] at hfew ⊢
    clear hek hk ho hon hoi hN
    have y0 := HR2.out.cell (i := 0) (by omega)
    have y1 := HR2.out.cell (i := 1) (by omega)
    have y2 := HR2.out.cell (i := 2) (by omega)
    have y3 := HR2.out.cell (i := 3) (by omega)
    have j0 := HR2.out.frozen 0
    have j1 := HR2.out.frozen 1
    have j2 := HR2.out.frozen 2
    have j3 := HR2.out.frozen 3
    have hz := ((((HR2.out.set 0 (.string o.key)).set 1 (.int .i64 o.id)).set 2 (.int .i64 o.size)).set 3 (.slice A2 N C2))
    have HW3 := Lib.hid (show ∃ wz, ((((w2.setCell ⟨B, 0, none⟩ (.string o.key)).setCell ⟨B, 1, none⟩ (.int .i64 o.id)).setCell ⟨B, 2, none⟩ (.int .i64 o.size)).setCell ⟨B, 3, none⟩ (.slice A2 N C2)) = wz ∧ wz.cell? ⟨B, 0, none⟩ = some (.string o.key) ∧ wz.cell? ⟨B, 1, none⟩ = some (.int .i64 o.id) ∧ wz.cell? ⟨B, 2, none⟩ = some (.int .i64 o.size) ∧ wz.cell? ⟨B, 3, none⟩ = some (.slice A2 N C2) ∧ Turned (fun y => y = B) w2 wz ∧ wz.rowIs B TObj 4 (fun i => #[Value.string o.key, .int .i64 o.id, .int .i64 o.size, .slice A2 N C2].getD i undef) from
      ⟨_, rfl, hz.cell (i := 0) (by omega), hz.cell (i := 1) (by omega), hz.cell (i := 2) (by omega), hz.cell (i := 3) (by omega), ((((Turned.set (F := fun y => y = B) (b := B) _ rfl).trans (Turned.set (F := fun y => y = B) (b := B) _ rfl) (Grown.refl _ _)).trans (Turned.set (F := fun y => y = B) (b := B) _ rfl) (Grown.refl _ _)).trans (Turned.set (F := fun y => y = B) (b := B) _ rfl) (Grown.refl _ _)), hz.congr (fun i hi => by rcases (by omega : i = 0 ∨ i = 1 ∨ i = 2 ∨ i = 3) with rfl | rfl | rfl | rfl <;> rfl)⟩)
    clear hz
    obtain ⟨w3, hw3, x0, x1, x2, x3, ht3, hr3⟩ := HW3.out
    have HW := Lib.hid hw3
    have HT3 := Lib.hid ht3
    have HR3 := Lib.hid hr3
    clear hw3 ht3 hr3 HW3
    have X0 := Lib.hid x0
    have X1 := Lib.hid x1
    have X2 := Lib.hid x2
    have X3 := Lib.hid x3
    clear x0 x1 x2 x3
    go_upto_region 3 with fail
    rw [HW.out, HK.out]
    clear y0 y1 y2 y3 j0 j1 j2 j3
    have x0 := X0.out
    have x1 := X1.out
    have x2 := X2.out
    have x3 := X3.out
    by_cases hlt : k < N
    · have d1 : decide (N ≤ k) = false := by simpa using hlt
      have d2 : decide ((N : Int) ≤ (k : Int)) = false := by simp; omega
      have HLT2 := Lib.hid hlt
      clear hlt
      have y0 := HR3.out.cell (i := 0) (by omega)
      have y1 := HR3.out.cell (i := 1) (by omega)
      have y2 := HR3.out.cell (i := 2) (by omega)
      have y3 := HR3.out.cell (i := 3) (by omega)
      have j0 := HR3.out.frozen 0
      have j1 := HR3.out.frozen 1
      have j2 := HR3.out.frozen 2
      have j3 := HR3.out.frozen 3
      have hz := ((((HR3.out.set 0 (.string o.key)).set 1 (.int .i64 o.id)).set 2 (.int .i64 o.size)).set 3 (.slice A2 N C2))
      have HW4 := Lib.hid (show ∃ wz, ((((w3.setCell ⟨B, 0, none⟩ (.string o.key)).setCell ⟨B, 1, none⟩ (.int .i64 o.id)).setCell ⟨B, 2, none⟩ (.int .i64 o.size)).setCell ⟨B, 3, none⟩ (.slice A2 N C2)) = wz ∧ wz.cell? ⟨B, 0, none⟩ = some (.string o.key) ∧ wz.cell? ⟨B, 1, none⟩ = some (.int .i64 o.id) ∧ wz.cell? ⟨B, 2, none⟩ = some (.int .i64 o.size) ∧ wz.cell? ⟨B, 3, none⟩ = some (.slice A2 N C2) ∧ Turned (fun y => y = B) w3 wz ∧ wz.rowIs B TObj 4 (fun i => #[Value.string o.key, .int .i64 o.id, .int .i64 o.size, .slice A2 N C2].getD i undef) from
        ⟨_, rfl, hz.cell (i := 0) (by omega), hz.cell (i := 1) (by omega), hz.cell (i := 2) (by omega), hz.cell (i := 3) (by omega), ((((Turned.set (F := fun y => y = B) (b := B) _ rfl).trans (Turned.set (F := fun y => y = B) (b := B) _ rfl) (Grown.refl _ _)).trans (Turned.set (F := fun y => y = B) (b := B) _ rfl) (Grown.refl _ _)).trans (Turned.set (F := fun y => y = B) (b := B) _ rfl) (Grown.refl _ _)), hz.congr (fun i hi => by rcases (by omega : i = 0 ∨ i = 1 ∨ i = 2 ∨ i = 3) with rfl | rfl | rfl | rfl <;> rfl)⟩)
      clear hz
      go_wp2
      obtain ⟨wz, hwz, z0, z1, z2, z3, htz, -⟩ := HW4.out
      rw [hwz]
      exact bodyPost_ret (v := .tuple #[.agg #[.string o.key, .int .i64 o.id, .int .i64 o.size, .slice A2 N C2], .int .i64 (k : Nat), .bool true]) (by simp [results, Tryd.results15, go_sem, z0, z1, z2, z3]) rfl ⟨(HB2.out.trans (HT3.out.below (fun y q => by rw [q, HBE.out]; exact Nat.le_refl _) HB2.out.size)).trans (htz.below (fun y q => by rw [q, HBE.out]; exact Nat.le_refl _) (Nat.le_trans HB2.out.size HT3.out.size)), .inl ⟨o, A2, C2, k, HO.out, by rw [HN.out]; exact HLT2.out, HEK.out, by rw [HN.out], (HON.out.turned HT3.out (fun y q z => by subst q; exact Nat.lt_irrefl _ (HLT.out _ z))).turned htz (fun y q z => by subst q; exact Nat.lt_irrefl _ (HLT.out _ z))⟩⟩
    · have d1 : decide (N ≤ k) = true := by simp; omega
      have d2 : decide ((N : Int) ≤ (k : Int)) = true := by simp; omega
      have HNO := Lib.hid (show ∀ o ∈ t.objs, ∀ k : Nat, k < o.stripes.length → id ≠ 16 * o.id + k from fun o' ho' k' hk' e => by
        have h1 := idOk HOK.out ho'
        have h2 := HEK.out
        have h3 : o'.id = o.id := by have := HK.out; omega
        have h4 := Tb.uniq_id HOK.out.all.2.2 o' ho' o HO.out h3
        subst h4
        rw [HN.out] at hk'
        omega)
      clear hlt
      have y0 := HR3.out.cell (i := 0) (by omega)
      have y1 := HR3.out.cell (i := 1) (by omega)
      have y2 := HR3.out.cell (i := 2) (by omega)
      have y3 := HR3.out.cell (i := 3) (by omega)
      have j0 := HR3.out.frozen 0
      have j1 := HR3.out.frozen 1
      have j2 := HR3.out.frozen 2
      have j3 := HR3.out.frozen 3
      have hz := ((((HR3.out.set 0 (.string ⟨#[]⟩)).set 1 (.int .i64 0)).set 2 (.int .i64 0)).set 3 (.slice none 0 0))
      have HW4 := Lib.hid (show ∃ wz, ((((w3.setCell ⟨B, 0, none⟩ (.string ⟨#[]⟩)).setCell ⟨B, 1, none⟩ (.int .i64 0)).setCell ⟨B, 2, none⟩ (.int .i64 0)).setCell ⟨B, 3, none⟩ (.slice none 0 0)) = wz ∧ wz.cell? ⟨B, 0, none⟩ = some (.string ⟨#[]⟩) ∧ wz.cell? ⟨B, 1, none⟩ = some (.int .i64 0) ∧ wz.cell? ⟨B, 2, none⟩ = some (.int .i64 0) ∧ wz.cell? ⟨B, 3, none⟩ = some (.slice none 0 0) ∧ Turned (fun y => y = B) w3 wz ∧ wz.rowIs B TObj 4 (fun i => #[Value.string ⟨#[]⟩, .int .i64 0, .int .i64 0, .slice none 0 0].getD i undef) from
        ⟨_, rfl, hz.cell (i := 0) (by omega), hz.cell (i := 1) (by omega), hz.cell (i := 2) (by omega), hz.cell (i := 3) (by omega), ((((Turned.set (F := fun y => y = B) (b := B) _ rfl).trans (Turned.set (F := fun y => y = B) (b := B) _ rfl) (Grown.refl _ _)).trans (Turned.set (F := fun y => y = B) (b := B) _ rfl) (Grown.refl _ _)).trans (Turned.set (F := fun y => y = B) (b := B) _ rfl) (Grown.refl _ _)), hz.congr (fun i hi => by rcases (by omega : i = 0 ∨ i = 1 ∨ i = 2 ∨ i = 3) with rfl | rfl | rfl | rfl <;> rfl)⟩)
      clear hz
      go_wp2
      obtain ⟨wz, hwz, z0, z1, z2, z3, htz, -⟩ := HW4.out
      rw [hwz]
      exact bodyPost_ret (v := .tuple #[.agg #[.string ⟨#[]⟩, .int .i64 0, .int .i64 0, .slice none 0 0], .int .i64 0, .bool false]) (by simp [results, Tryd.results15, go_sem, z0, z1, z2, z3]) rfl ⟨(HB2.out.trans (HT3.out.below (fun y q => by rw [q, HBE.out]; exact Nat.le_refl _) HB2.out.size)).trans (htz.below (fun y q => by rw [q, HBE.out]; exact Nat.le_refl _) (Nat.le_trans HB2.out.size HT3.out.size)), .inr ⟨HNO.out, rfl⟩⟩
  · have HNO := Lib.hid (show ∀ o ∈ t.objs, ∀ k : Nat, k < o.stripes.length → id ≠ 16 * o.id + k from fun o ho k hk e => by
      have h1 := idOk HOK.out ho
      exact hno o ho (by omega))
    clear hno
    have y0 := HR2.out.cell (i := 0) (by omega)
    have y1 := HR2.out.cell (i := 1) (by omega)
    have y2 := HR2.out.cell (i := 2) (by omega)
    have y3 := HR2.out.cell (i := 3) (by omega)
    have j0 := HR2.out.frozen 0
    have j1 := HR2.out.frozen 1
    have j2 := HR2.out.frozen 2
    have j3 := HR2.out.frozen 3
    have hz := ((((HR2.out.set 0 (.string ⟨#[]⟩)).set 1 (.int .i64 0)).set 2 (.int .i64 0)).set 3 (.slice none 0 0))
    have HW3 := Lib.hid (show ∃ wz, ((((w2.setCell ⟨B, 0, none⟩ (.string ⟨#[]⟩)).setCell ⟨B, 1, none⟩ (.int .i64 0)).setCell ⟨B, 2, none⟩ (.int .i64 0)).setCell ⟨B, 3, none⟩ (.slice none 0 0)) = wz ∧ wz.cell? ⟨B, 0, none⟩ = some (.string ⟨#[]⟩) ∧ wz.cell? ⟨B, 1, none⟩ = some (.int .i64 0) ∧ wz.cell? ⟨B, 2, none⟩ = some (.int .i64 0) ∧ wz.cell? ⟨B, 3, none⟩ = some (.slice none 0 0) ∧ Turned (fun y => y = B) w2 wz ∧ wz.rowIs B TObj 4 (fun i => #[Value.string ⟨#[]⟩, .int .i64 0, .int .i64 0, .slice none 0 0].getD i undef) from
      ⟨_, rfl, hz.cell (i := 0) (by omega), hz.cell (i := 1) (by omega), hz.cell (i := 2) (by omega), hz.cell (i := 3) (by omega), ((((Turned.set (F := fun y => y = B) (b := B) _ rfl).trans (Turned.set (F := fun y => y = B) (b := B) _ rfl) (Grown.refl _ _)).trans (Turned.set (F := fun y => y = B) (b := B) _ rfl) (Grown.refl _ _)).trans (Turned.set (F := fun y => y = B) (b := B) _ rfl) (Grown.refl _ _)), hz.congr (fun i hi => by rcases (by omega : i = 0 ∨ i = 1 ∨ i = 2 ∨ i = 3) with rfl | rfl | rfl | rfl <;> rfl)⟩)
    clear hz
    obtain ⟨w3, hw3, x0, x1, x2, x3, ht3, hr3⟩ := HW3.out
    have HW := Lib.hid hw3
    have HT3 := Lib.hid ht3
    have HR3 := Lib.hid hr3
    clear hw3 ht3 hr3 HW3 x0 x1 x2 x3
    go_upto_region 2 with fail
    rw [HW.out]
    clear y0 y1 y2 y3 j0 j1 j2 j3
    have y0 := HR3.out.cell (i := 0) (by omega)
    have y1 := HR3.out.cell (i := 1) (by omega)
    have y2 := HR3.out.cell (i := 2) (by omega)
    have y3 := HR3.out.cell (i := 3) (by omega)
    have j0 := HR3.out.frozen 0
    have j1 := HR3.out.frozen 1
    have j2 := HR3.out.frozen 2
    have j3 := HR3.out.frozen 3
    have hz := ((((HR3.out.set 0 (.string ⟨#[]⟩)).set 1 (.int .i64 0)).set 2 (.int .i64 0)).set 3 (.slice none 0 0))
    have HW4 := Lib.hid (show ∃ wz, ((((w3.setCell ⟨B, 0, none⟩ (.string ⟨#[]⟩)).setCell ⟨B, 1, none⟩ (.int .i64 0)).setCell ⟨B, 2, none⟩ (.int .i64 0)).setCell ⟨B, 3, none⟩ (.slice none 0 0)) = wz ∧ wz.cell? ⟨B, 0, none⟩ = some (.string ⟨#[]⟩) ∧ wz.cell? ⟨B, 1, none⟩ = some (.int .i64 0) ∧ wz.cell? ⟨B, 2, none⟩ = some (.int .i64 0) ∧ wz.cell? ⟨B, 3, none⟩ = some (.slice none 0 0) ∧ Turned (fun y => y = B) w3 wz ∧ wz.rowIs B TObj 4 (fun i => #[Value.string ⟨#[]⟩, .int .i64 0, .int .i64 0, .slice none 0 0].getD i undef) from
      ⟨_, rfl, hz.cell (i := 0) (by omega), hz.cell (i := 1) (by omega), hz.cell (i := 2) (by omega), hz.cell (i := 3) (by omega), ((((Turned.set (F := fun y => y = B) (b := B) _ rfl).trans (Turned.set (F := fun y => y = B) (b := B) _ rfl) (Grown.refl _ _)).trans (Turned.set (F := fun y => y = B) (b := B) _ rfl) (Grown.refl _ _)).trans (Turned.set (F := fun y => y = B) (b := B) _ rfl) (Grown.refl _ _)), hz.congr (fun i hi => by rcases (by omega : i = 0 ∨ i = 1 ∨ i = 2 ∨ i = 3) with rfl | rfl | rfl | rfl <;> rfl)⟩)
    clear hz
    go_wp2
    obtain ⟨wz, hwz, z0, z1, z2, z3, htz, -⟩ := HW4.out
    rw [hwz]
    exact bodyPost_ret (v := .tuple #[.agg #[.string ⟨#[]⟩, .int .i64 0, .int .i64 0, .slice none 0 0], .int .i64 0, .bool false]) (by simp [results, Tryd.results15, go_sem, z0, z1, z2, z3]) rfl ⟨(HB2.out.trans (HT3.out.below (fun y q => by rw [q, HBE.out]; exact Nat.le_refl _) HB2.out.size)).trans (htz.below (fun y q => by rw [q, HBE.out]; exact Nat.le_refl _) (Nat.le_trans HB2.out.size HT3.out.size)), .inr ⟨HNO.out, rfl⟩⟩
theorem findC {w : World} {E : Nat → Prop} {p : Nat} {M : Option Nat} {A : Option Addr} {C : Nat} {t : Tb.TabD} (h : TAt w E p M (.slice A t.states.length C) t) (hok : t.Ok) (id : Int) (hid : I64 id) :
    Calls Tryd.prog 15 #[.pointer (some ⟨p, 0, none⟩), .int .i64 id] w (FoundS E w t id) := by
  by_cases hp : 0 ≤ id
  · exact findPos h hok id hid hp
  · exact findNeg h hok id hid (by omega)
end Go.Proofs.YtegbgnjmkohcfaaDoor.Tbl
