/- What mat.unit makes. -/
import Derived.Test.YtmcodfjaeaociaaRefMat
namespace Go.Proofs.Ytmcodfjaeaociaa.Mat
open Go.ChangeShapes Go.WideShapes Go.ChangeAt Go.RowKit
open Go.Mem
open GfPlain Gf
set_option maxHeartbeats 1000000 in
theorem unitC (n : Nat) (w : World) (hn : n ≤ 4294967296) :
    Calls Try.prog 26 #[.int .i64 n] w fun e w' => e = .returned (.slice (some ⟨w.heap.size, 0, none⟩) n n) ∧ Fam w' w'.heap.size w.heap.size 22 n n n unitF ∧ Below w.heap.size w w' := by
  have hmk22 := run_make_row' (P := Try.prog) 24 22 (.slice none 0 0) 24 Try.underlying24 infoRow rfl .i64 .i64 n (by omega) (by omega)
  have hmk28 := run_make_row' (P := Try.prog) 22 5 (.int .u8 0) 1 Try.underlying22 infoByte rfl .i64 .i64 n (by omega) (by omega)
  go_enter Try.func26, Try.ntmps26
  go_wp2
  go_loopw [9] (fun c wr => ∃ k : Nat, k ≤ n ∧ c = .int .i64 k ∧ Fam wr wr.heap.size w.heap.size 22 n n k unitF ∧ Below w.heap.size w wr) (fun c _ => n - (intOf c).toNat)
  case atStart => exact ⟨0, Nat.zero_le _, rfl, by simpa using Fam.start w 22 n n unitF, (Below.refl _ _).alloc (Nat.le_refl _) _⟩
  case round =>
    obtain ⟨k, hk, rfl, hfam, hbr⟩ := hrel
    by_cases hlt : k < n
    · obtain ⟨u, hu⟩ := hfam.cell hlt
      have hP := hfam.inside
      have hcu : ∀ o, (wr.alloc o).cell? ⟨w.heap.size, k, none⟩ = some u := fun o => (World.cell?_alloc_lt _ _ _ hP).trans hu
      have hfu : ∀ o, (wr.alloc o).frozen? ⟨w.heap.size, k, none⟩ = false := fun o => (World.frozen?_alloc_past _ _ _ hP).trans (hfam.free k)
      have hin := Inner.startWith (t' := 5) (c := madeCells #[.int .u8 0] n) hfam hlt hbr (Nat.le_refl _) (by rw [size_madeCells]) (fun i hi => made_get hi) (fun _ _ => by omega)
      have hcn := hin.row.cell k hlt
      rw [Nat.zero_add] at hcn
      have hin1 := Inner.startWith (t' := 5) (c := (madeCells #[.int .u8 0] n).setIfInBounds k (.int .u8 1)) hfam hlt hbr (Nat.le_refl _) (made_size _ _ _) (fun i hi => made_set (x := 1) hi) (fun i _ => by split <;> omega)
      have HF := Lib.hid (hin1.done hlt (fun i _ => rfl))
      have HB := Lib.hid hin1.old
      clear hin hin1
      go_wp2
      go_roundw
      case rel => exact ⟨k + 1, by omega, by go_num, HF.out, HB.out⟩
      case measure => simp [intOf]; omega
    · obtain rfl : k = n := by omega
      go_wp2
      go_ret
      exact ⟨rfl, hfam, hbr⟩
end Go.Proofs.Ytmcodfjaeaociaa.Mat
