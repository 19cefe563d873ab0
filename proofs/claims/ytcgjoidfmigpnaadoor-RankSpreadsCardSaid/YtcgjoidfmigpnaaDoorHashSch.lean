/- The words that a block gives to the rounds, as a walk. -/
import Derived.Test.YtcgjoidfmigpnaaDoorHashRnd
import Derived.Test.YtcgjoidfmigpnaaDoorShaPart
import Derived.StillTailTactics
namespace Go.Proofs.YtcgjoidfmigpnaaDoor.Hash
set_option linter.unusedVariables false
open Go.ChangeShapes Go.WideShapes Go.ChangeAt Go.RowKit
open Go.Mem Sha
/-- what the function holds in memory: its words, its result -/
structure Sch (w wr : World) (F : Nat → Nat) : Prop where
  words : Words wr (w.heap.size + 1) 53 64 F
  res : ∃ cs, wr.heap[w.heap.size]? = some (.cells cs 53 (0, 0)) ∧ cs.size = 64
  bel : Below w.heap.size w wr
theorem Sch.start (w : World) (M : List Nat) : Sch w ((w.alloc (.cells z64 53)).alloc (.cells z64 53)) (pF M 0) := by
  have s1 : (w.alloc (.cells z64 53)).heap.size = w.heap.size + 1 := by simp
  refine ⟨Words.of_block (c := z64) ?_ z64_size (fun i hi => by rw [pF_zero]; unfold z64; simp [hi]), ⟨z64, ?_, z64_size⟩, ((Below.refl _ _).alloc (Nat.le_refl _) _).alloc (by simp) _⟩
  · rw [← s1]; exact heap_alloc_new _ _
  · rw [heap_alloc_old _ _ (by rw [s1]; omega)]; exact heap_alloc_new _ _
theorem Sch.set {w wr : World} {F G : Nat → Nat} {k x : Nat} (h : Sch w wr F) (hG : ∀ i, G i = if i = k then x else F i) : Sch w (wr.setCell ⟨w.heap.size + 1, k, none⟩ (.int .u32 (x : Nat))) G := by
  obtain ⟨cs, hc, hs⟩ := h.res
  exact ⟨(h.words.set k x).congr fun i _ => hG i, ⟨cs, (heap_setCell_other _ _ _ _ (by show w.heap.size ≠ w.heap.size + 1; omega)).trans hc, hs⟩, h.bel.setCell (by show w.heap.size ≤ w.heap.size + 1; omega) _⟩
theorem Sch.congr {w wr : World} {F G : Nat → Nat} (h : Sch w wr F) (e : ∀ i, i < 64 → G i = F i) : Sch w wr G := ⟨h.words.congr e, h.res, h.bel⟩
theorem Sch.go {w wr wx : World} {F : Nat → Nat} (h : Sch w wr F) (hb : Below wr.heap.size wr wx) : Sch w wx F := by
  obtain ⟨cs, hc, hs⟩ := h.res
  have hl : w.heap.size < wr.heap.size := (Array.getElem?_eq_some_iff.1 hc).1
  exact ⟨h.words.below hb, ⟨cs, (hb.block _ hl).trans hc, hs⟩, h.bel.trans (hb.mono h.bel.size)⟩
theorem Sch.drew {w wr : World} {F : Nat → Nat} (h : Sch w wr F) : Sch w wr.drew F := h.go (below_drewN _ _ 1)
/-- the words of the rounds, as they stand in memory -/
def wArr (m : Nat → Nat) : Array Value := ((List.range 64).map fun i => Value.int .u32 (wF m 64 i : Nat)).toArray
theorem wArr_size (m : Nat → Nat) : (wArr m).size = 64 := by simp [wArr]
theorem wArr_one (m : Nat → Nat) : (wArr m).all (·.oneCell') = true := by simp [wArr, Value.oneCell']
theorem wArr_info (m : Nat → Nat) : (Tryd.prog.info? 53).map (·.size) = some (wArr m).size := by
  rw [wArr_size]; kernel_rfl
set_option maxRecDepth 100000 in
set_option maxHeartbeats 4000000 in
theorem scheduleC (M : List Nat) (v : Value) (w : World) (hM : Bytes w v M) (h64 : M.length = 64) :
    Calls Tryd.prog 51 #[v] w fun e w' => e = .returned (.agg (wArr fun j => word M (0 + 4 * j))) ∧ Below w.heap.size w w' := by
  obtain ⟨A, C, rfl, h1, h2, _⟩ := hM.shape
  obtain ⟨b, o, rfl, -, -⟩ := hM.at (i := 0) (by omega)
  rw [h64] at hM h1 ⊢
  have HM := Lib.hid hM
  have H64 := Lib.hid h64
  have HMB := Lib.hid (show ∀ x ∈ M, x < 256 from fun x hx => by
    obtain ⟨i, hi, rfl⟩ := List.getElem_of_mem hx
    exact (HM.out.here hi).2)
  clear hM h64
  have hz := z64_run
  have hne := z64_ne
  have hst := Sch.start w M
  obtain ⟨m, hm⟩ : ∃ m : Nat → Nat, m = fun j => word M (0 + 4 * j) := ⟨_, rfl⟩
  have HML := Lib.hid (show ∀ j, m j < 4294967296 from fun j => by rw [hm]; exact word_lt HMB.out _)
  have HPE := Lib.hid (show ∀ i, i < 64 → wF m 16 i = pF M 64 i from fun i _ => by rw [pF_end, hm])
  rw [← hm]
  clear hm
  go_enter Tryd.func51, Tryd.ntmps51
  go_upto_region 2 with (fail)
  generalize hw3 : ((w.alloc (.cells z64 53)).alloc (.cells z64 53)) = w3
  have HS := Lib.hid (show Sch w w3 (pF M 0) by rw [← hw3]; exact hst)
  clear hst hw3
  go_wp2_with fail
  go_loopw [10] (fun c wr => ∃ k : Nat, k ≤ 64 ∧ c = .int .i64 k ∧ Sch w wr (pF M k)) (fun c _ => 64 - (intOf c).toNat)
  case atStart => exact ⟨0, Nat.zero_le _, rfl, HS.out⟩
  case round =>
    obtain ⟨k, hk, rfl, hmem⟩ := hrel
    by_cases hlt : k < 64
    · have HMEM := Lib.hid hmem
      have hc0 := ((HM.out.below hmem.bel).here (i := k) (by rw [H64.out]; omega)).1
      have hx := ((HM.out.below hmem.bel).here (i := k) (by rw [H64.out]; omega)).2
      have HG := Lib.hid (show M.getD k 0 = M[k]'(by rw [H64.out]; omega) by simp [H64.out, hlt])
      obtain ⟨x, hxe⟩ : ∃ x, M[k]'(by rw [H64.out]; omega) = x := ⟨_, rfl⟩
      rw [hxe] at hc0 hx HG
      obtain ⟨q, hq⟩ : ∃ q : Nat, q = k / 4 := ⟨_, rfl⟩
      have hcw := hmem.words.cell (i := q) (by omega)
      have hfw := hmem.words.free q
      have hy : pF M k q < 16777216 := hq ▸ pF_lt HMB.out k
      have HN := Lib.hid (show ∀ i, pF M (k + 1) i = if i = q then pF M k q * 256 + x else pF M k i from fun i => by rw [pF_next, HG.out, hq])
      obtain ⟨y, hye⟩ : ∃ y, pF M k q = y := ⟨_, rfl⟩
      rw [hye] at hcw hy HN
      obtain ⟨p, hp⟩ : ∃ p : Nat, p = y * 256 := ⟨_, rfl⟩
      have HV := Lib.hid (show p ||| x = y * 256 + x by rw [hp]; exact shl_or32 hx)
      have o1 := u32_or_nat p x (by omega) (by omega)
      rw [HV.out] at o1
      have HS2 := Lib.hid (HMEM.out.set HN.out)
      obtain ⟨z, hze⟩ : ∃ z, y * 256 + x = z := ⟨_, rfl⟩
      rw [hze] at o1 HS2
      have d1 : (k : Int) / 4 = (q : Int) := by omega
      have d3 : IntKind.i64.wrap (q : Int) = (q : Int) := by rw [IntKind.wrap_i64]; omega
      have l1 : (q : Int) < 64 := by omega
      have m0 : (y : Int) * 256 = (p : Int) := by omega
      have n0 : IntKind.u32.wrap (p : Int) = (p : Int) := by rw [IntKind.wrap_u32']; omega
      have w0 : IntKind.u32.wrap (x : Int) = (x : Int) := by rw [IntKind.wrap_u32']; omega
      clear hmem hxe hye hq hp hze
      go_upto_region 5 with (fail)
      go_still_tail 14, (by kernel_rfl)
      change wpList _ _ _ _ _ wr.drew
      go_wp2
      go_roundw
      case rel => exact ⟨k + 1, by omega, by go_num, HS2.out.drew⟩
      case measure => simp [intOf]; omega
    · have hk64 : k = 64 := by omega
      have HS16 := Lib.hid (show Sch w wr (wF m 16) from Sch.congr (hk64 ▸ hmem) HPE.out)
      clear hmem hk64
      go_wp2_with fail
      go_loopw [5] (fun c wx => ∃ i : Nat, 16 ≤ i ∧ i ≤ 64 ∧ c = .int .i64 i ∧ Sch w wx (wF m i)) (fun c _ => 64 - (intOf c).toNat)
      case atStart => exact ⟨16, by omega, by omega, rfl, HS16.out⟩
      case round =>
        obtain ⟨i, hi1, hi2, rfl, hmem⟩ := hrel
        by_cases hli : i < 64
        · have HMEM := Lib.hid hmem
          have hc2 := hmem.words.cell (i := i - 2) (by omega)
          have hc15 := hmem.words.cell (i := i - 15) (by omega)
          have hx16 := wF_lt HML.out i (i - 16)
          have hx7 := wF_lt HML.out i (i - 7)
          have hx15 := wF_lt HML.out i (i - 15)
          have hx2 := wF_lt HML.out i (i - 2)
          have HNW := Lib.hid (show nextW (sched m i) i = (wF m i (i - 16) + wF m i (i - 7) + s0 (wF m i (i - 15)) + s1 (wF m i (i - 2))) % 4294967296 from rfl)
          obtain ⟨a2, h2e⟩ : ∃ a : Nat, a = i - 2 := ⟨_, rfl⟩
          obtain ⟨a15, h15e⟩ : ∃ a : Nat, a = i - 15 := ⟨_, rfl⟩
          obtain ⟨a16, h16e⟩ : ∃ a : Nat, a = i - 16 := ⟨_, rfl⟩
          obtain ⟨a7, h7e⟩ : ∃ a : Nat, a = i - 7 := ⟨_, rfl⟩
          rw [← h2e] at hc2 hx2 HNW
          rw [← h15e] at hc15 hx15 HNW
          rw [← h16e] at hx16 HNW
          rw [← h7e] at hx7 HNW
          obtain ⟨x2, hx2e⟩ : ∃ x, wF m i a2 = x := ⟨_, rfl⟩
          obtain ⟨x15, hx15e⟩ : ∃ x, wF m i a15 = x := ⟨_, rfl⟩
          rw [hx2e] at hc2 hx2 HNW
          rw [hx15e] at hc15 hx15 HNW
          have e2 : ((i : Nat) : Int) - 2 = (a2 : Nat) := by omega
          have l2 : (a2 : Int) < 64 := by omega
          have r2 : IntKind.i64.wrap (a2 : Int) = (a2 : Int) := by rw [IntKind.wrap_i64]; omega
          have e15 : ((i : Nat) : Int) - 15 = (a15 : Nat) := by omega
          have l15 : (a15 : Int) < 64 := by omega
          have r15 : IntKind.i64.wrap (a15 : Int) = (a15 : Int) := by rw [IntKind.wrap_i64]; omega
          have HI16 := Lib.hid hi1
          have HE16 := Lib.hid (show ((i : Nat) : Int) - 16 = (a16 : Nat) by omega)
          have HE7 := Lib.hid (show ((i : Nat) : Int) - 7 = (a7 : Nat) by omega)
          have HL16 := Lib.hid (show a16 < 64 by omega)
          have HL7 := Lib.hid (show a7 < 64 by omega)
          clear hmem h2e h15e h16e h7e hx2e hx15e
          go_upto_region 10 with (fail)
          go_quiet (fail)
          clear e2 l2 r2 e15 l15 r15 hc2 hc15
          go_upto_region 11 with (fail)
          refine gen_drew1 fun w9 h9 => ?_
          have HM9 := Lib.hid (show Sch w w9 (wF m i) by obtain ⟨n9, e9⟩ := h9; rw [e9]; exact HMEM.out.go (below_drewN _ _ _))
          clear h9
          go_upto_region 13 with (go_at_call 54; refine (turnedC _ _ (by omega) (by omega) (by omega) _).mono ?_; rintro _ _ ⟨rfl, rfl⟩)
          rw [s0_raw hx15, s1_raw hx2]
          have hs0 := s0_lt hx15
          have hs1 := s1_lt hx2
          obtain ⟨t0, ht0⟩ : ∃ t, s0 x15 = t := ⟨_, rfl⟩
          obtain ⟨t1, ht1⟩ : ∃ t, s1 x2 = t := ⟨_, rfl⟩
          rw [ht0] at hs0 HNW ⊢
          rw [ht1] at hs1 HNW ⊢
          have c16 := HM9.out.words.cell (i := a16) HL16.out
          have c7 := HM9.out.words.cell (i := a7) HL7.out
          have ci := HM9.out.words.cell (i := i) (by omega)
          have fi := HM9.out.words.free i
          obtain ⟨x16, hx16e⟩ : ∃ x, wF m i a16 = x := ⟨_, rfl⟩
          obtain ⟨x7, hx7e⟩ : ∃ x, wF m i a7 = x := ⟨_, rfl⟩
          rw [hx16e] at c16 hx16 HNW
          rw [hx7e] at c7 hx7 HNW
          have HS5 := Lib.hid (HM9.out.set (G := wF m (i + 1)) (k := i) (x := (x16 + t0 + x7 + t1) % 4294967296) (fun c => by rw [wF_succ, if_neg (show ¬ i < 16 by have := HI16.out; omega), HNW.out, show x16 + t0 + x7 + t1 = x16 + x7 + t0 + t1 by omega]))
          have e16 := HE16.out
          have e7 := HE7.out
          have l16 : (a16 : Int) < 64 := by have := HL16.out; omega
          have l7 : (a7 : Int) < 64 := by have := HL7.out; omega
          have l0 : (i : Int) < 64 := by omega
          have r16 : IntKind.i64.wrap (a16 : Int) = (a16 : Int) := by rw [IntKind.wrap_i64]; omega
          have r7 : IntKind.i64.wrap (a7 : Int) = (a7 : Int) := by rw [IntKind.wrap_i64]; omega
          have HNR := Lib.hid (next_raw2 x16 t0 x7 t1)
          clear ht0 ht1 hx16e hx7e
          go_still_tail 15, (by kernel_rfl)
          change wpList _ _ _ _ _ w9.drew
          go_wp2
          go_roundw
          case rel => exact ⟨i + 1, by omega, by omega, by go_num, by rw [HNR.out]; exact HS5.out.drew⟩
          case measure => simp [intOf]; omega
        · have HMEM := Lib.hid (show Sch w wr (wF m 64) by rw [show 64 = i by omega]; exact hmem)
          clear hmem
          obtain ⟨cs, hcs, hcl⟩ := HMEM.out.res
          have HA := Lib.hid (show wr.heap[w.heap.size + 1]? = some (.cells (wArr m) 53 (0, 0)) from HMEM.out.words.arr)
          have HRES := Lib.hid hcs
          have HCL := Lib.hid (show cs.size = (wArr m).size by rw [hcl, wArr_size])
          have HI := Lib.hid (wArr_info m)
          clear hcs hcl
          go_wp2_with (first
            | (refine wpList_load_row rfl 53 (.tmp 3) rfl (w.heap.size + 1) rfl 53 (wArr m) (0, 0) _ HA.out Tryd.underlying53 rfl HI.out ?_)
            | (refine wpList_store_rowTo rfl 53 (.tmp 2) (.tmp 71) rfl rfl w.heap.size (wArr m) rfl rfl 53 cs HRES.out HI.out HCL.out (wArr_one m) ?_))
          refine bodyPost_ret (v := .agg (wArr m)) ?_ rfl ⟨rfl, below_setRow HMEM.out.bel (Nat.le_refl _) _⟩
          exact results_cell_row rfl _ _ w.heap.size 53 (wArr m) (0, 0) _ rfl (setRow_heap _ _ _ _ _ _ HRES.out) Tryd.underlying53 rfl HI.out
end Go.Proofs.YtcgjoidfmigpnaaDoor.Hash
