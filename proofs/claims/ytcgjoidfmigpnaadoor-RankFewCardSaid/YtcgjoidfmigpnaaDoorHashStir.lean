/- Blocks stirred into a state one behind the other, as a walk. -/
import Derived.Test.YtcgjoidfmigpnaaDoorHashMix
namespace Sha
/-- the state behind n blocks, from any one on -/
def blocksFrom (M : List Nat) (s : St) : Nat → St
  | 0 => s
  | n + 1 => block M (64 * n) (blocksFrom M s n)
theorem blocksFrom_ok {M : List Nat} {s : St} (h : s.ok) : ∀ n, (blocksFrom M s n).ok
  | 0 => h
  | _ + 1 => addSt_ok _ _
theorem blocksFrom_begun (M : List Nat) : ∀ n, blocksFrom M begun n = blocks M n
  | 0 => rfl
  | n + 1 => by rw [blocksFrom, blocks, blocksFrom_begun M n]
/-- a block hangs on its own bytes alone -/
theorem block_same {M M' : List Nat} {o o' : Nat} (s : St) (h : (M.drop o).take 64 = (M'.drop o').take 64) : block M o s = block M' o' s := by
  rw [← block_drop M, ← block_drop M', h]
theorem blocksFrom_left {M N : List Nat} {s : St} : ∀ n, 64 * n ≤ M.length → blocksFrom (M ++ N) s n = blocksFrom M s n
  | 0, _ => rfl
  | n + 1, h => by
    rw [blocksFrom, blocksFrom, blocksFrom_left n (by omega)]
    refine block_same _ ?_
    rw [List.drop_append_of_le_length (by omega), List.take_append_of_le_length (by simp; omega)]
theorem blocksFrom_right {M N : List Nat} {s : St} {q : Nat} (hq : M.length = 64 * q) : ∀ n, blocksFrom (M ++ N) s (q + n) = blocksFrom N (blocksFrom M s q) n
  | 0 => by rw [Nat.add_zero, blocksFrom_left q (by omega)]; rfl
  | n + 1 => by
    rw [← Nat.add_assoc, blocksFrom, blocksFrom, blocksFrom_right hq n]
    refine block_same _ ?_
    rw [List.drop_append, show 64 * (q + n) - M.length = 64 * n by omega, List.drop_of_length_le (by omega), List.nil_append]
end Sha
namespace Go.Proofs.YtcgjoidfmigpnaaDoor.Hash
set_option linter.unusedVariables false
open Go.ChangeShapes Go.WideShapes Go.ChangeAt Go.RowKit
open Go.Mem Sha
theorem block_bytes {w : World} {b n C o P : Nat} {M : List Nat} (h : Bytes w (.slice (some ⟨b, o, none⟩) n C) M) (ho : P + 64 ≤ M.length) : Bytes w (.slice (some ⟨b, o + P, none⟩) 64 (C - P)) ((M.drop P).take 64) := by
  have h1 := h.drop (j := P) (by omega)
  exact Bytes.take h1 (j := 64) (by simp; omega)
theorem grown_setRow (w : World) (g : Nat) (cs : Array Value) : w.grownBy (w.setRow g cs) (some g) := ⟨rfl, rfl, rfl, by simp, fun i _ hne => setRow_other _ _ _ _ (fun e => hne (by rw [e]))⟩
set_option maxRecDepth 100000 in
set_option maxHeartbeats 4000000 in
theorem stirredC (s : St) (hok : s.ok) (M : List Nat) (v : Value) (w : World) (NB : Nat) (hM : Bytes w v M) (hNB : M.length = 64 * NB) (hN : NB ≤ 10000) (hT : Tabs w) :
    Calls Tryd.prog 30 #[.agg (stArr s), v] w fun e w' => e = .returned (.agg (stArr (blocksFrom M s NB))) ∧ Below w.heap.size w w' := by
  obtain ⟨A, C, rfl, h1, h2, _⟩ := hM.shape
  rw [hNB] at hM h1 ⊢
  have HM := Lib.hid hM
  have HPL := Lib.hid hNB
  have HT := Lib.hid hT
  have hst := Two.start w s
  clear hM hNB hT
  go_enter Tryd.func30, Tryd.ntmps30
  go_upto_region 1 with (fail)
  generalize hw3 : ((w.alloc (.cells (stArr s) 54)).alloc (.cells #[.int .u32 0, .int .u32 0, .int .u32 0, .int .u32 0, .int .u32 0, .int .u32 0, .int .u32 0, .int .u32 0] 54)) = w3
  have HS := Lib.hid (show Two w w3 s by rw [← hw3]; exact hst)
  clear hst hw3
  go_wp2_with fail
  go_loopw [5] (fun c wr => ∃ q : Nat, q ≤ NB ∧ c = .int .i64 (64 * (q : Int)) ∧ Two w wr (blocksFrom M s q)) (fun c _ => 64 * NB - (intOf c).toNat)
  case atStart => exact ⟨0, Nat.zero_le _, by simp, HS.out⟩
  case round =>
    obtain ⟨q, hq, rfl, htwo⟩ := hrel
    by_cases hlt : q < NB
    · have HTW := Lib.hid htwo
      have hmr := HM.out.below htwo.bel
      obtain ⟨b, o, rfl, -, -⟩ := hmr.at (i := 64 * q) (by rw [HPL.out]; omega)
      have HNX := Lib.hid (show blocksFrom M s (q + 1) = Sha.block ((M.drop (64 * q)).take 64) 0 (blocksFrom M s q) by rw [block_drop]; rfl)
      have hokR := blocksFrom_ok (M := M) hok q
      obtain ⟨R, hR⟩ : ∃ R, blocksFrom M s q = R := ⟨_, rfl⟩
      rw [hR] at HTW HNX hokR
      obtain ⟨a, b', c, d, e, f, g, g8⟩ := R
      have HOKR := Lib.hid hokR
      have c0 : wr.cell? ⟨w.heap.size, 0, none⟩ = some (.int .u32 (a : Nat)) := HTW.out.old.cell (i := 0) (by omega)
      have c1 : wr.cell? ⟨w.heap.size, 1, none⟩ = some (.int .u32 (b' : Nat)) := HTW.out.old.cell (i := 1) (by omega)
      have c2 : wr.cell? ⟨w.heap.size, 2, none⟩ = some (.int .u32 (c : Nat)) := HTW.out.old.cell (i := 2) (by omega)
      have c3 : wr.cell? ⟨w.heap.size, 3, none⟩ = some (.int .u32 (d : Nat)) := HTW.out.old.cell (i := 3) (by omega)
      have c4 : wr.cell? ⟨w.heap.size, 4, none⟩ = some (.int .u32 (e : Nat)) := HTW.out.old.cell (i := 4) (by omega)
      have c5 : wr.cell? ⟨w.heap.size, 5, none⟩ = some (.int .u32 (f : Nat)) := HTW.out.old.cell (i := 5) (by omega)
      have c6 : wr.cell? ⟨w.heap.size, 6, none⟩ = some (.int .u32 (g : Nat)) := HTW.out.old.cell (i := 6) (by omega)
      have c7 : wr.cell? ⟨w.heap.size, 7, none⟩ = some (.int .u32 (g8 : Nat)) := HTW.out.old.cell (i := 7) (by omega)
      have HBY := Lib.hid (block_bytes hmr (P := 64 * q) (by rw [HPL.out]; omega))
      have HLEN := Lib.hid (show ((M.drop (64 * q)).take 64).length = 64 by simp [HPL.out]; omega)
      obtain ⟨P, hP⟩ : ∃ P : Nat, P = 64 * q := ⟨_, rfl⟩
      have e1 : (64 : Int) * (q : Int) = (P : Int) := by omega
      obtain ⟨Z, hZ⟩ : ∃ Z : Nat, Z = P + 64 := ⟨_, rfl⟩
      have e2 : (P : Int) + 64 = (Z : Int) := by omega
      have e3 : IntKind.i64.wrap (Z : Int) = (Z : Int) := by rw [IntKind.wrap_i64]; omega
      have e4 : (Z : Int) - (P : Int) = 64 := by omega
      have e5 : Z - P = 64 := by omega
      have q1 : (Z : Int) ≤ (C : Int) := by omega
      have q2 : (P : Int) ≤ (Z : Int) := by omega
      have q3 : (P : Int) < 64 * (NB : Int) := by omega
      have q4 : ¬ P = C := by omega
      have q5 : Z ≤ C := by omega
      have q6 : P ≤ Z := by omega
      have HP := Lib.hid hP
      have HZ := Lib.hid hZ
      rw [← hP] at HBY HLEN HNX
      clear hmr htwo hokR hR hP hZ
      go_upto_region 4 with (fail)
      go_still_tail 6, (by kernel_rfl)
      change wpList _ _ _ _ _ wr.drew
      have HDR := Lib.hid (show Below wr.heap.size wr wr.drew from (Below.refl _ _).drew)
      clear e2 e3 e4 e5 q1 q2 q4 q5 q6 c0 c1 c2 c3 c4 c5 c6 c7
      go_wp2_with fail
      refine (mixedC ⟨a, b', c, d, e, f, g, g8⟩ HOKR.out ((M.drop P).take 64) _ wr.drew (HBY.out.below HDR.out) HLEN.out ((HT.out.below HTW.out.bel).below HDR.out)).mono ?_
      rintro _ w6 ⟨rfl, hb6⟩
      have HB6 := Lib.hid hb6
      have HTW6 := Lib.hid ((HTW.out.go HDR.out).go hb6)
      have HST6 := Lib.hid (words_st HTW6.out.old)
      rw [← HNX.out]
      have HI8b := Lib.hid (info8 (blocksFrom M s (q + 1)))
      clear hb6
      go_wp2_with (refine wpList_store_rowTo rfl 54 (.tmp 2) (.tmp 18) rfl rfl w.heap.size (stArr (blocksFrom M s (q + 1))) rfl rfl 54 (stArr ⟨a, b', c, d, e, f, g, g8⟩) HST6.out HI8b.out (size_st _ _) (stArr_one _) ?_)
      go_roundw
      case rel =>
        refine ⟨q + 1, by omega, int_i64 (by have := HP.out; omega), st_words (setRow_heap _ _ _ _ _ _ HST6.out), ?_, below_setRow HTW6.out.bel (Nat.le_refl _) _⟩
        obtain ⟨cs, hc, hs⟩ := HTW6.out.res
        exact ⟨cs, (setRow_other _ _ _ _ (by omega)).trans hc, hs⟩
      case measure => have := HP.out; simp [intOf]; omega
    · have hqn : q = NB := by omega
      have HTW := Lib.hid (hqn ▸ htwo)
      clear htwo
      have HE := Lib.hid (words_st HTW.out.old)
      obtain ⟨cs, hcs, hcl⟩ := HTW.out.res
      have HRES := Lib.hid hcs
      have HCL := Lib.hid (show cs.size = (stArr (blocksFrom M s NB)).size from hcl)
      have HI8b := Lib.hid (info8 (blocksFrom M s NB))
      have q3 : ¬ (64 : Int) * (q : Int) < 64 * (NB : Int) := by omega
      clear hcs hcl hqn
      go_wp2_with (first
        | (refine wpList_load_row rfl 54 (.tmp 2) rfl w.heap.size rfl 54 (stArr (blocksFrom M s NB)) (0, 0) _ HE.out Tryd.underlying54 rfl HI8b.out ?_)
        | (refine wpList_store_rowTo rfl 54 (.tmp 4) (.tmp 19) rfl rfl (w.heap.size + 1) (stArr (blocksFrom M s NB)) rfl rfl 54 cs HRES.out HI8b.out HCL.out (stArr_one _) ?_))
      refine bodyPost_ret (v := .agg (stArr (blocksFrom M s NB))) ?_ rfl ⟨rfl, below_setRow HTW.out.bel (by omega) _⟩
      exact results_cell_row rfl _ _ (w.heap.size + 1) 54 (stArr (blocksFrom M s NB)) (0, 0) _ rfl (setRow_heap _ _ _ _ _ _ HRES.out) Tryd.underlying54 rfl HI8b.out
end Go.Proofs.YtcgjoidfmigpnaaDoor.Hash
