/- Where mat.Times says that there is no product. -/
import Derived.Test.YtmcodfjaeaociaaMatTimes
namespace Go.Proofs.Ytmcodfjaeaociaa.Mat
open Go.ChangeShapes Go.WideShapes Go.ChangeAt Go.RowKit
open Go.Mem
open GfPlain Gf
set_option maxHeartbeats 1000000 in
theorem timesNo (a b : List (List Nat)) (va vb : Value) (w : World) (ha : Tab w va a) (hb : Tab w vb b) (hno : canTimes a b = false) :
    Calls Try.prog 18 #[va, vb] w fun e w' => e = .returned (.tuple #[.slice none 0 0, .int .i64 1]) ∧ Below w.heap.size w w' := by
  obtain ⟨A, C, rfl, h1, h2, _⟩ := ha.shape
  obtain ⟨Ab, Cb, rfl, g1, g2, _⟩ := hb.shape
  by_cases fa : fitB a = true
  · by_cases fb : fitB b = true
    · have hw : ¬ width a = b.length := fun e => by
        unfold canTimes at hno; rw [fa, fb, e] at hno; simp at hno
      have hq : ((width a : Int) != (b.length : Int)) = true := by rw [bne_iff_ne]; omega
      obtain ⟨pa, _⟩ := fitB_iff.1 fa
      obtain ⟨pb, _⟩ := fitB_iff.1 fb
      have hpa : (0 : Int) < a.length := by omega
      obtain ⟨ba, oa, Aa, Ca, rfl, hcaw, hma, _⟩ := ha.at pa
      rw [← width_get pa, Nat.add_zero] at hcaw
      rw [← width_get pa] at hma
      clear hno
      go_enter Try.func18, Try.ntmps18
      go_wp2_with fail
      refine (filledC a _ _ ha).mono ?_; rintro e w1 ⟨rfl, hb1⟩
      go_wp2_with fail
      refine (filledC b _ _ (hb.below hb1)).mono ?_; rintro e w2 ⟨rfl, hb2⟩
      have hb12 := hb1.trans (hb2.mono hb1.size)
      have hca := below_cell hb12 _ _ hcaw
      go_wp2
      go_ret2
      exact ⟨rfl, hb12⟩
    · have fb' : fitB b = false := by simpa using fb
      clear fb hno
      go_enter Try.func18, Try.ntmps18
      go_wp2_with fail
      refine (filledC a _ _ ha).mono ?_; rintro e w1 ⟨rfl, hb1⟩
      go_wp2_with fail
      refine (filledC b _ _ (hb.below hb1)).mono ?_; rintro e w2 ⟨rfl, hb2⟩
      have hb12 := hb1.trans (hb2.mono hb1.size)
      go_wp2
      go_ret2
      exact ⟨rfl, hb12⟩
  · have fa' : fitB a = false := by simpa using fa
    clear fa hno
    go_enter Try.func18, Try.ntmps18
    go_wp2_with fail
    refine (filledC a _ _ ha).mono ?_; rintro e w1 ⟨rfl, hb1⟩
    go_wp2
    go_ret2
    exact ⟨rfl, hb1⟩
end Go.Proofs.Ytmcodfjaeaociaa.Mat
