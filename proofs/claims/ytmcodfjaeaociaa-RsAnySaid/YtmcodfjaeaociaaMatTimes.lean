/- What mat.Times returns: the product of two tables, or that there is none. -/
import Derived.Test.YtmcodfjaeaociaaMatAdd
namespace Go.Proofs.Ytmcodfjaeaociaa.Mat
open Go.ChangeShapes Go.WideShapes Go.ChangeAt Go.RowKit
open Go.Mem
open GfPlain Gf
theorem infoRow : (Try.prog.info? 22).map (fun i => (i.zero, i.size, i.bytes)) = some (some (.slice none 0 0), 1, 24) := by kernel_rfl
theorem infoByte : (Try.prog.info? 5).map (fun i => (i.zero, i.size, i.bytes)) = some (some (.int .u8 0), 1, 1) := by kernel_rfl
/-- the first j summands of place c of row r times M -/
def dot (r : List Nat) (M : List (List Nat)) (c : Nat) : Nat → Nat
  | 0 => 0
  | j + 1 => dot r M c j ^^^ mul (r.getD j 0) ((M.getD j []).getD c 0)
def prodF (a b : List (List Nat)) : Nat → Nat → Nat := fun i c => dot (a.getD i []) b c b.length
def times (a b : List (List Nat)) : List (List Nat) := tabOf a.length (width b) (prodF a b)
def canTimes (a b : List (List Nat)) : Bool := fitB a && fitB b && width a == b.length
theorem added_dot (r : List Nat) (M : List (List Nat)) (j n : Nat) (hj : j < r.length) (hjM : j < M.length) (i : Nat) (hi : i < n) :
    dot r M i (j + 1) = added (fun c => dot r M c j) M[j] r[j] n i := by
  unfold added
  rw [if_pos (by omega)]
  show _ ^^^ mul (r.getD j 0) ((M.getD j []).getD i 0) = _
  rw [show r.getD j 0 = r[j] by simp [hj], show M.getD j [] = M[j] by simp [hjM]]
theorem prodF_at {a b : List (List Nat)} {k : Nat} (hk : k < a.length) (hl : a[k].length = b.length) (i : Nat) : prodF a b k i = dot a[k] b i a[k].length := by
  unfold prodF; rw [hl, show a.getD k [] = a[k] by simp [hk]]
set_option maxHeartbeats 1000000 in
theorem timesOk (a b : List (List Nat)) (va vb : Value) (w : World) (ha : Tab w va a) (hb : Tab w vb b) (hok : canTimes a b = true) (hsa : a.length ≤ 4294967296) (hsb : width b ≤ 4294967296) :
    Calls Try.prog 18 #[va, vb] w fun e w' => ∃ v, e = .returned (.tuple #[v, .int .i64 0]) ∧ Tab w' v (times a b) ∧ Below w.heap.size w w' := by
  unfold canTimes at hok
  rw [Bool.and_eq_true, Bool.and_eq_true, beq_iff_eq] at hok
  obtain ⟨⟨fa, fb⟩, hw⟩ := hok
  have wfa := (fitB_iff.1 fa); have wfb := (fitB_iff.1 fb)
  obtain ⟨pa, wa⟩ := wfa; obtain ⟨pb, wb⟩ := wfb
  obtain ⟨A, C, rfl, h1, h2, _⟩ := ha.shape
  obtain ⟨Ab, Cb, rfl, g1, g2, _⟩ := hb.shape
  have hq : ((width a : Int) != (b.length : Int)) = false := by rw [hw]; simp
  have HW := Lib.hid hw; clear hw
  have hmk22 := run_make_row' (P := Try.prog) 24 22 (.slice none 0 0) 24 Try.underlying24 infoRow rfl .i64 .i64 a.length (by omega) (by omega)
  have hmk28 := run_make_row' (P := Try.prog) 22 5 (.int .u8 0) 1 Try.underlying22 infoByte rfl .i64 .i64 (width b) (by omega) (by omega)
  have hpa : (0 : Int) < a.length := by omega
  have hpb : (0 : Int) < b.length := by omega
  go_enter Try.func18, Try.ntmps18
  go_wp2_with fail
  refine (filledC a _ _ ha).mono ?_; rintro e w1 ⟨rfl, hb1⟩
  go_wp2_with fail
  refine (filledC b _ _ (hb.below hb1)).mono ?_; rintro e w2 ⟨rfl, hb2⟩
  have hb12 := hb1.trans (hb2.mono hb1.size)
  obtain ⟨ba, oa, Aa, Ca, rfl, hcaw, hma, _⟩ := ha.at pa
  rw [← width_get pa, Nat.add_zero] at hcaw
  rw [← width_get pa] at hma
  obtain ⟨bb, ob, Abb, Cbb, rfl, hcbw, hmb, _⟩ := hb.at pb
  rw [← width_get pb, Nat.add_zero] at hcbw
  rw [← width_get pb] at hmb
  have hca := below_cell hb12 _ _ hcaw
  have hcb := below_cell hb12 _ _ hcbw
  go_wp2
  go_loopw [33] (fun c wr => ∃ k : Nat, k ≤ a.length ∧ c = .int .i64 k ∧ Fam wr wr.heap.size w2.heap.size 22 a.length (width b) k (prodF a b) ∧ Below w.heap.size w wr) (fun c _ => a.length - (intOf c).toNat)
  case atStart => exact ⟨0, Nat.zero_le _, rfl, by simpa using Fam.start w2 22 a.length (width b) (prodF a b), hb12.alloc hb12.size _⟩
  case round =>
    obtain ⟨k, hk, rfl, hfam, hbr⟩ := hrel
    obtain ⟨wo, rfl⟩ : ∃ wo : World, wo = wr := ⟨_, rfl⟩
    by_cases hlt : k < a.length
    · obtain ⟨Ak, Ck, hck0, hmk, hbk⟩ := ha.here hlt
      have hck := below_cell hbr _ _ hck0
      have hcb' := below_cell hbr _ _ hcbw
      have hlk : a[k].length = width a := wa k hlt hlt
      have HLK := Lib.hid hlk; clear hlk
      obtain ⟨u, hu⟩ := hfam.cell hlt
      have hP := hfam.inside
      have hcu : ∀ o, (wo.alloc o).cell? ⟨w2.heap.size, k, none⟩ = some u := fun o => (World.cell?_alloc_lt _ _ _ hP).trans hu
      have hfu : ∀ o, (wo.alloc o).frozen? ⟨w2.heap.size, k, none⟩ = false := fun o => (World.frozen?_alloc_past _ _ _ hP).trans (hfam.free k)
      have HI := Lib.hid (Inner.start (t' := 5) (m := width b) hfam hlt hbr hb12.size)
      go_wp2
      go_loopw [48] (fun c wi => ∃ j : Nat, j ≤ a[k].length ∧ c = .int .i64 j ∧ Inner w wi wo.heap.size w2.heap.size 22 a.length (width b) k (prodF a b) (fun i => dot a[k] b i j)) (fun c _ => a[k].length - (intOf c).toNat)
      case atStart => exact ⟨0, Nat.zero_le _, rfl, HI.out⟩
      case round =>
        obtain ⟨j, hj, rfl, hin⟩ := hrel
        obtain ⟨wi, rfl⟩ : ∃ wi : World, wi = wr := ⟨_, rfl⟩
        by_cases hjlt : j < a[k].length
        · have hjb : j < b.length := by have := HLK.out; have := HW.out; omega
          obtain ⟨Aj, Cj, hcj0, hmj, hbj⟩ := hb.here hjb
          have hcj := below_cell hin.old _ _ hcj0
          obtain ⟨bk, ok, rfl, hckj, hk256⟩ := (hbk.below hin.old).at hjlt
          have hcur := hin.cur
          go_wp2
          go_still_tail 9, (by kernel_rfl)
          change wpList _ _ _ _ _ wi.drew
          go_wp2_with (go_at_call 30; refine (addTimesC (fun i => dot a[k] b i j) b[j] _ wo.heap.size 0 (width b) (width b) _ _ (by omega) (by omega) (by omega) hin.row.drew ((hbj.below hin.old).below (below_drewN _ _ 1)) (hbj.far hbr.size) (Nat.le_of_eq (wb j hjb hjb))).mono ?_; rintro e w' ⟨rfl, hr', hg'⟩)
          go_roundw
          case rel => exact ⟨j + 1, by omega, by go_num, hin.turn (grown_of_drew hg') (hr'.congr (fun i hi => by rw [Int.toNat_natCast]; exact added_dot a[k] b j b[j].length hjlt hjb i (Nat.lt_of_lt_of_eq hi (wb j hjb hjb).symm)))⟩
          case measure => simp [intOf]; omega
        · obtain rfl : j = a[k].length := by omega
          have HF := Lib.hid (hin.done hlt (fun i _ => prodF_at (a := a) (b := b) hlt (HLK.out.trans HW.out) i))
          go_wp2
          go_roundw
          case rel => exact ⟨k + 1, by omega, by go_num, HF.out, hin.old⟩
          case measure => simp [intOf]; omega
    · obtain rfl : k = a.length := by omega
      have HT := Lib.hid (hfam.tab (by omega) (by omega))
      go_wp2
      go_ret2
      exact ⟨_, rfl, HT.out, hbr⟩
end Go.Proofs.Ytmcodfjaeaociaa.Mat
