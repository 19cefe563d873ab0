/- rs.Decode: where there is none. -/
import Derived.Test.YtmcodfjaeaociaaRsDec2
namespace Go.Proofs.Ytmcodfjaeaociaa.Rs
open Go.RowKit Go.Shelf
open Go.Mem Mat
def NoDec (k m : Int) (S : List (List Nat)) : Prop := NoCode k m ∨ ¬ ((S.length : Int) = k + m) ∨ rightAll S = false
set_option maxHeartbeats 1000000 in
theorem decodeNo (k m : Int) (S : List (List Nat)) (v : Value) (w : World) (hS : Tab w v S) (h : NoDec k m S) :
    Calls Try.prog 13 #[.int .i64 k, .int .i64 m, v] w fun e w' => e = .returned (.tuple #[.slice none 0 0, .int .i64 1]) ∧ Below w.heap.size w w' := by
  obtain ⟨A, C, rfl, h1, h2, _⟩ := hS.shape
  have hBk : Below w.heap.size w (w.alloc (.cells #[.int .i64 k] 3)) := (Below.refl _ w).alloc (Nat.le_refl _) _
  by_cases hno : NoCode k m
  · have HN := Lib.hid hno
    clear h hno
    go_enter Try.func13, Try.ntmps13
    go_wp2_with fail
    refine (codeNo k m _ HN.out).mono ?_
    rintro _ w1 ⟨rfl, rfl⟩
    go_wp2_with fail
    go_ret2
    exact ⟨rfl, hBk.alloc (by simp) _⟩
  · have hne : ¬ ((S.length : Int) = k + m) ∨ rightAll S = false := by rcases h with h | h; exact absurd h hno; exact h
    clear h
    unfold NoCode at hno
    obtain ⟨K, rfl⟩ := Int.eq_ofNat_of_zero_le (show 0 ≤ k by omega)
    obtain ⟨M, rfl⟩ := Int.eq_ofNat_of_zero_le (show 0 ≤ m by omega)
    have hK0 : 1 ≤ K := by omega
    have hK : K ≤ 4 := by omega
    have hM : M ≤ 3 := by omega
    clear hno
    have q3 : ¬ ((K : Int) + (M : Int) = 0) := by omega
    by_cases hl : (S.length : Int) = (K : Int) + (M : Int)
    · have hra : rightAll S = false := by rcases hne with h | h; exact absurd hl h; exact h
      have hlen : S.length = K + M := by omega
      clear hne hl
      rw [hlen] at h1 ⊢
      go_enter Try.func13, Try.ntmps13
      go_wp2_with fail
      refine (codeC K M _ hK0 hK hM).mono ?_
      rintro _ w1 ⟨v1, rfl, hT1, hB1⟩
      obtain ⟨A1, C1, rfl, g1, g2, _⟩ := hT1.shape
      clear hT1
      rw [codeT_len] at g1 ⊢
      go_wp2_with fail
      have hBa : Below w.heap.size w (w1.alloc (.cells #[.slice A1 (K + M) C1] 24)) := (hBk.trans (hB1.mono hBk.size)).alloc (by have := hBk.size; have := hB1.size; omega) _
      refine (wrongAnyC S _ _ (by have h := hS.below hBa; rwa [hlen] at h)).mono ?_
      rw [hra]
      rintro _ w2 ⟨rfl, rfl⟩
      go_wp2_with fail
      go_ret2
      exact ⟨rfl, hBa⟩
    · clear hne
      obtain ⟨L, hL⟩ : ∃ L, S.length = L := ⟨_, rfl⟩
      rw [hL] at h1 hl ⊢
      have q4 : ((L : Int) != (K : Int) + (M : Int)) = true := by simpa using hl
      go_enter Try.func13, Try.ntmps13
      go_wp2_with fail
      refine (codeC K M _ hK0 hK hM).mono ?_
      rintro _ w1 ⟨v1, rfl, hT1, hB1⟩
      obtain ⟨A1, C1, rfl, g1, g2, _⟩ := hT1.shape
      clear hT1
      rw [codeT_len] at g1 ⊢
      go_wp2_with fail
      have hBa : Below w.heap.size w (w1.alloc (.cells #[.slice A1 (K + M) C1] 24)) := (hBk.trans (hB1.mono hBk.size)).alloc (by have := hBk.size; have := hB1.size; omega) _
      go_ret2
      exact ⟨rfl, hBa⟩
end Go.Proofs.Ytmcodfjaeaociaa.Rs
