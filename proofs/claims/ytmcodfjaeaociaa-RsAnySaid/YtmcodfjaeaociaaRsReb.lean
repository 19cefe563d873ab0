/- rs.Rebuild -/
import Derived.Test.YtmcodfjaeaociaaRsMath2
import Derived.Test.YtmcodfjaeaociaaRsDec3
namespace Go.Proofs.Ytmcodfjaeaociaa.Rs
open Go.RowKit Go.Shelf
open Go.Mem Mat
/-- what Rebuild answers -/
def RebPost (K M : Nat) (S : List (List Nat)) (p : Int) (e : Ending) (w' : World) : Prop :=
  ((idx S S.length).length < K ∧ e = .returned (.tuple #[.slice none 0 0, .int .i64 8])) ∨
  (K ≤ (idx S S.length).length ∧ (p < 0 ∨ (K : Int) + (M : Int) ≤ p) ∧ e = .returned (.tuple #[.slice none 0 0, .int .i64 1])) ∨
  (K ≤ (idx S S.length).length ∧ ∃ i : Nat, p = i ∧ i < K + M ∧ ∃ u B, e = .returned (.tuple #[u, .int .i64 0]) ∧ Undoes (rowsAt (codeT K M) (firstK S K)) B K ∧ Bytes w' u ((encT K M (catTo (times B (rowsAt S (firstK S K))) K)).getD i []))
theorem right_first {S : List (List Nat)} {K : Nat} (hra : rightAll S = true) : ∀ i ∈ firstK S K, (S.getD i []).length = 8 := fun i hi => rightAll_len hra i (first_mem hi).2
theorem encT_len (K M : Nat) (d : List Nat) : (encT K M d).length = K + M := by unfold encT; rw [times_len, codeT_len]
theorem Tab.get {w : World} {b o n C : Nat} {T : List (List Nat)} (h : Tab w (.slice (some ⟨b, o, none⟩) n C) T) {i : Nat} (hi : i < T.length) : ∃ A' L C', w.cell? ⟨b, o + i, none⟩ = some (.slice A' L C') ∧ Bytes w (.slice A' L C') (T.getD i []) := by
  obtain ⟨A', C', h1, h2, h3⟩ := h.here hi
  exact ⟨A', _, C', h1, by rw [show T.getD i [] = T[i] by simp [hi]]; exact h3⟩
set_option maxHeartbeats 500000 in
theorem rebuildYes (K M : Nat) (S : List (List Nat)) (v : Value) (p : Int) (w : World) (hS : Tab w v S) (hK0 : 1 ≤ K) (hK : K ≤ 4) (hM : M ≤ 3) (hlen : S.length = K + M) (hra : rightAll S = true) :
    Calls Try.prog 15 #[.int .i64 K, .int .i64 M, v, .int .i64 p] w fun e w' => Below w.heap.size w w' ∧ RebPost K M S p e w' := by
  obtain ⟨A, C, rfl, h1, h2, _⟩ := hS.shape
  have HS := Lib.hid (Tab_bd hS)
  rw [hlen] at hS h1 ⊢
  go_enter Try.func15, Try.ntmps15
  go_wp2_with fail
  refine (decodeYes K M S _ w hS hK0 hK hM hlen hra).mono ?_
  rintro e w1 ⟨hB1, hp⟩
  rcases hp with ⟨hfew, rfl⟩ | ⟨hle, u, B, rfl, hu, hbu⟩
  · have HX := Lib.hid hfew
    clear hfew
    go_wp2_with fail
    go_ret2
    exact ⟨hB1, .inl ⟨HX.out, rfl⟩⟩
  · have HX := Lib.hid hle
    have HU := Lib.hid hu
    obtain ⟨d, hd⟩ : ∃ d, catTo (times B (rowsAt S (firstK S K))) K = d := ⟨_, rfl⟩
    have HD := Lib.hid (show d.length = 8 * K from hd ▸ (dec_enc hK0 HS.out hlen (right_first hra) hle hu).1)
    rw [hd] at hbu
    have HDD := Lib.hid hd
    have HBU := Lib.hid hbu
    obtain ⟨A2, L2, C2, rfl⟩ : ∃ A2 L2 C2, u = .slice A2 L2 C2 := by
      obtain ⟨A2, C2, rfl, _⟩ := hbu.shape
      exact ⟨_, _, _, rfl⟩
    clear hle hu hbu hra hd
    by_cases hin : p < 0 ∨ (K : Int) + (M : Int) ≤ p
    · have HI := Lib.hid hin
      rcases hin with h | h
      · go_wp2_with fail
        go_ret2
        exact ⟨hB1, .inr (.inl ⟨HX.out, HI.out, rfl⟩)⟩
      · have h' : ¬ p < 0 := by omega
        go_wp2_with fail
        go_ret2
        exact ⟨hB1, .inr (.inl ⟨HX.out, HI.out, rfl⟩)⟩
    · obtain ⟨i, rfl⟩ := Int.eq_ofNat_of_zero_le (show 0 ≤ p by omega)
      have hi : i < K + M := by omega
      have q1 : ¬ ((i : Int) < 0) := by omega
      have q2 : (i : Int) < (K : Int) + (M : Int) := by omega
      clear hin
      go_wp2_with fail
      refine (encodeYes K M _ _ w1 HBU.out hK0 hK hM HD.out).mono ?_
      rintro _ w2 ⟨v2, rfl, hT2, hB2⟩
      have HT2 := Lib.hid hT2
      have hT2l := hT2.shape
      obtain ⟨A3, C3, rfl, _, _, _⟩ := hT2l
      clear hT2
      rw [encT_len] at HT2 ⊢
      cases A3 with
      | none =>
        obtain ⟨_, _, _, _, e, -⟩ := HT2.out.at (i := i) (by rw [encT_len]; exact hi)
        cases e
      | some ad =>
        obtain ⟨b, o, _, _, e, -⟩ := HT2.out.at (i := i) (by rw [encT_len]; exact hi)
        cases e
        obtain ⟨A4, L4, C4, hc4, hb4⟩ := Tab.get HT2.out (i := i) (by rw [encT_len]; exact hi)
        have HB4 := Lib.hid hb4
        clear hb4
        go_wp2_with fail
        go_ret2
        exact ⟨hB1.trans (hB2.mono hB1.size), .inr (.inr ⟨HX.out, i, rfl, hi, _, B, rfl, HU.out, by rw [HDD.out]; exact HB4.out⟩)⟩
set_option maxHeartbeats 1000000 in
theorem rebuildNo (k m : Int) (S : List (List Nat)) (v : Value) (p : Int) (w : World) (hS : Tab w v S) (h : NoDec k m S) :
    Calls Try.prog 15 #[.int .i64 k, .int .i64 m, v, .int .i64 p] w fun e w' => e = .returned (.tuple #[.slice none 0 0, .int .i64 1]) ∧ Below w.heap.size w w' := by
  obtain ⟨A, C, rfl, h1, h2, _⟩ := hS.shape
  have HN := Lib.hid h
  clear h
  go_enter Try.func15, Try.ntmps15
  go_wp2_with fail
  refine (decodeNo k m S _ w hS HN.out).mono ?_
  rintro e w1 ⟨rfl, hB1⟩
  go_wp2_with fail
  go_ret2
  exact ⟨rfl, hB1⟩
end Go.Proofs.Ytmcodfjaeaociaa.Rs
