/- The laws of layer 3: what a program that does nothing does not answer. -/
import Derived.Test.YtmcodfjaeaociaaRsReb
import Derived.Laws.BytesArg
import Derived.Lib.SlBytesConst
namespace Go.Proofs.Ytmcodfjaeaociaa.Rs
open Go.RowKit Go.Shelf
open Go.Mem Mat
def abc : List Nat := [97, 98, 99, 100, 101, 102, 103, 104]
theorem abc_bytes (w : World) (t : Nat) : Bytes (w.alloc (.cells #[.int .u8 97, .int .u8 98, .int .u8 99, .int .u8 100, .int .u8 101, .int .u8 102, .int .u8 103, .int .u8 104] t (8, 9))) (.slice (some ⟨w.heap.size, 0, none⟩) 8 8) abc := by
  refine ⟨some ⟨w.heap.size, 0, none⟩, 8, 8, rfl, rfl, Nat.le_refl _, by unfold maxLen; omega, (fun e => by cases e), fun i hi => ⟨w.heap.size, 0, .int .u8 (abc[i] : Nat), rfl, ?_, rfl, ?_⟩⟩
  · have h := World.alloc_heap_new w (.cells #[.int .u8 97, .int .u8 98, .int .u8 99, .int .u8 100, .int .u8 101, .int .u8 102, .int .u8 103, .int .u8 104] t (8, 9))
    have hi' : i < 8 := hi
    rcases (by omega : i = 0 ∨ i = 1 ∨ i = 2 ∨ i = 3 ∨ i = 4 ∨ i = 5 ∨ i = 6 ∨ i = 7) with rfl | rfl | rfl | rfl | rfl | rfl | rfl | rfl <;> (unfold World.cell?; dsimp only; rw [h]; rfl)
  · exact (show ∀ x ∈ abc, x < 256 by decide) _ (List.getElem_mem hi)
theorem bytes_nil (w : World) : Bytes w (.slice none 0 0) [] := ⟨none, 0, 0, rfl, rfl, Nat.le_refl _, Nat.zero_le _, fun _ => rfl, fun i hi => absurd hi (by simp)⟩
theorem abc_str {w : World} {A : Option Addr} {n C : Nat} (h : Bytes w (.slice A n C) abc) : (convert 22 9 (.slice A n C)).run Try.prog w = .ok (.string { data := #[97, 98, 99, 100, 101, 102, 103, 104] }) w := by
  have h0 := h
  obtain ⟨A', n', C', e, e2, _, _, _, _⟩ := h0
  cases e
  obtain ⟨b, o, rfl, _, _⟩ := Bytes.at h (i := 0) (by decide)
  have := run_convert_bytes_arg (P := Try.prog) w 22 5 Try.underlying22 Try.underlying5 b o n C (abc.map fun x : Nat => (x : Int)) (by rw [e2]; rfl)
    (fun i hi => by
      rw [e2] at hi
      have h1 := (Bytes.here h hi).1
      rw [h1]
      have hi' : i < 8 := hi
      rcases (by omega : i = 0 ∨ i = 1 ∨ i = 2 ∨ i = 3 ∨ i = 4 ∨ i = 5 ∨ i = 6 ∨ i = 7) with rfl | rfl | rfl | rfl | rfl | rfl | rfl | rfl <;> rfl) 9 Try.underlying9
  exact this
theorem abc_enc : encT 1 1 abc = [abc, abc] := by decide +kernel
theorem abc_idx : idx [[], abc] 2 = [1] := by decide
set_option maxHeartbeats 1000000 in
theorem answersC (w : World) :
    Calls Try.prog 9 #[] w fun e w' => e = .returned (.bool true) ∧ Below w.heap.size w w' := by
  have kc := fun (w : World) (C : Array Value) (n c : Nat) => Lib.run_convert_bytes_const (P := Try.prog) w 22 5 C n c Try.underlying22 Try.underlying5
  go_enter Try.func9, Try.ntmps9
  go_wp2_with fail
  have ha := abc_bytes w 5
  have hal : Below w.heap.size w (w.alloc (.cells #[.int .u8 97, .int .u8 98, .int .u8 99, .int .u8 100, .int .u8 101, .int .u8 102, .int .u8 103, .int .u8 104] 5 (8, 9))) := (Below.refl _ _).alloc (Nat.le_refl _) _
  generalize w.alloc (.cells #[.int .u8 97, .int .u8 98, .int .u8 99, .int .u8 100, .int .u8 101, .int .u8 102, .int .u8 103, .int .u8 104] 5 (8, 9)) = wa at *
  refine (encodeYes 1 1 abc _ wa ha (by omega) (by omega) (by omega) rfl).mono ?_
  rintro _ w1 ⟨v1, rfl, hT1, hB1⟩
  rw [abc_enc] at hT1
  have hb1 := hal.trans (hB1.mono hal.size)
  have HT1 := Lib.hid hT1
  clear ha hal hB1
  obtain ⟨A1, C1, rfl, _, _, _⟩ := hT1.shape
  clear hT1
  go_wp2_with fail
  have ha := abc_bytes w1 5
  have hal : Below w1.heap.size w1 (w1.alloc (.cells #[.int .u8 97, .int .u8 98, .int .u8 99, .int .u8 100, .int .u8 101, .int .u8 102, .int .u8 103, .int .u8 104] 5 (8, 9))) := (Below.refl _ _).alloc (Nat.le_refl _) _
  have hsz : (w1.alloc (.cells #[.int .u8 97, .int .u8 98, .int .u8 99, .int .u8 100, .int .u8 101, .int .u8 102, .int .u8 103, .int .u8 104] 5 (8, 9))).heap.size = w1.heap.size + 1 := by simp
  generalize w1.alloc (.cells #[.int .u8 97, .int .u8 98, .int .u8 99, .int .u8 100, .int .u8 101, .int .u8 102, .int .u8 103, .int .u8 104] 5 (8, 9)) = wb at *
  have ht := Tab_two 22 (bytes_nil wb) ha
  rw [hsz] at ht
  have hal2 := hal.alloc (by omega) (.cells #[.slice none 0 0, .slice (some ⟨w1.heap.size, 0, none⟩) 8 8] 22)
  generalize wb.alloc (.cells #[.slice none 0 0, .slice (some ⟨w1.heap.size, 0, none⟩) 8 8] 22) = wc at *
  refine (decodeYes 1 1 [[], abc] _ wc ht (by omega) (by omega) (by omega) rfl rfl).mono ?_
  rintro e w2 ⟨hB2, hp⟩
  rcases hp with ⟨hfew, _⟩ | ⟨hle, u, B, rfl, hu, hbu⟩
  · exact absurd hfew (by rw [show ([[], abc] : List (List Nat)).length = 2 from rfl, abc_idx]; decide)
  · rw [enc_dec (K := 1) (M := 1) (S := [[], abc]) (d := abc) (by omega) (by decide) rfl rfl (fun i hi => by
      have : i = 1 := by
        have h := List.mem_of_mem_take hi
        rw [show ([[], abc] : List (List Nat)).length = 2 from rfl, abc_idx] at h
        simpa using h
      subst this; rw [abc_enc]; rfl) hle hu] at hbu
    have hb2 := (hb1.trans (hal2.mono hb1.size)).trans (hB2.mono (Nat.le_trans hb1.size hal2.size))
    have hT2 := (HT1.out.below hal2).below hB2
    obtain ⟨b, o, _, _, rfl, -⟩ := hT2.at (i := 1) (by decide)
    obtain ⟨A3, L3, C3, hc3, hb3⟩ := Tab.get hT2 (i := 1) (by decide)
    have hs3 := abc_str hb3
    obtain ⟨A4, L4, C4, rfl⟩ : ∃ A L C, u = .slice A L C := by
      obtain ⟨A, C, rfl, _⟩ := hbu.shape
      exact ⟨_, _, _, rfl⟩
    have hs4 := abc_str hbu
    clear ha hal hal2 ht HT1 hu hle hT2 hb3 hbu hB2 hb1
    go_wp2_with fail
    go_ret
    exact ⟨rfl, hb2⟩
end Go.Proofs.Ytmcodfjaeaociaa.Rs
