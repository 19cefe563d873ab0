/- The law's own answers. -/
import Derived.Test.YtegnheonncoodaaDoorScPr
import Derived.Test.YtegnheonncoodaaDoorScPs
import Derived.Deep.QuietTactic
import Derived.BigQuiet
namespace Go.Proofs.YtegnheonncoodaaDoor.Scr
set_option linter.unusedVariables false
open Go.ChangeShapes Go.WideShapes Go.ChangeAt Go.RowKit
open Go.Mem Sc
def x0 : SD := ⟨1, -2, [107], [], 7⟩
theorem x0_ok : x0.Ok := ⟨by unfold I6 x0; decide, by unfold I6 x0; decide, by unfold x0; decide⟩
theorem text0 : textOf [x0] = [49, 32, 45, 50, 32, 55, 32, 120, 54, 98, 32, 120, 10] := by
  simp [textOf, lineOf, x0, Lib.itoa, Lib.decDigits, dig, hexL, hex2, hexd, hexDigits]
theorem parse0 : parseL [] (lines (textOf [x0])) = .ok [x0] := parse_text (by intro x hx; rw [List.mem_singleton.1 hx]; exact x0_ok)
/-- a list of steps, fresh -/
theorem steps_new (w : World) (n : Nat) (L : List SD) (cs : Array Value) (hn : L.length = n) (T : Nat × Nat) (h5 : n ≤ 1000)
    (h : ∀ i (h : i < L.length), ∃ v, (cs[i * 5]? = some (.int .i64 L[i].kind) ∧ cs[i * 5 + 1]? = some (.int .i64 L[i].a) ∧ cs[i * 5 + 2]? = some (.string (str L[i].key)) ∧ cs[i * 5 + 3]? = some v ∧ cs[i * 5 + 4]? = some (.int .u64 (L[i].keep : Nat))) ∧ Bytes w v (nums L[i].data) ∧ L[i].Ok) :
    Steps (w.alloc (.cells cs TStep T)) (.slice (some ⟨w.heap.size, 0, none⟩) n n) L := by
  refine ⟨_, n, n, rfl, hn.symm, Nat.le_refl _, by unfold maxLen; omega, (fun e => by cases e), fun i hi => ?_⟩
  obtain ⟨v, ⟨c0, c1, c2, c3, c4⟩, hb, ok⟩ := h i hi
  have hbl : Below w.heap.size w (w.alloc (.cells cs TStep T)) := (Below.refl _ _).alloc (Nat.le_refl _) _
  refine ⟨w.heap.size, 0, five (.int .i64 L[i].kind) (.int .i64 L[i].a) (.string (str L[i].key)) v (.int .u64 (L[i].keep : Nat)), rfl, fun j hj => ?_, ⟨rfl, rfl, rfl, hb.below hbl, rfl, ok⟩⟩
  have hob : (w.alloc (.cells cs TStep T)).heap[w.heap.size]? = some (.cells cs TStep T) := by
    show (w.heap.push _)[w.heap.size]? = _
    simp
  unfold World.cell?
  dsimp only
  rw [hob]
  dsimp only
  rw [Nat.zero_add]
  rcases five_cases hj with rfl | rfl | rfl | rfl | rfl
  · exact c0
  · exact c1
  · exact c2
  · exact c3
  · exact c4
theorem bytes_none (w : World) : Bytes w (.slice none 0 0) (nums []) := Bytes.nil w
theorem parse_ok {t : List UInt8} {L : List SD} {w w' : World} {e : Ending} (h : ParseP t w e w') (hp : parseL [] (lines t) = .ok L) : ∃ A C, e = .returned (.tuple #[.slice A L.length C, .int .i64 0, .int .i64 0]) ∧ Steps w' (.slice A L.length C) L ∧ Below w.heap.size w w' := by
  obtain ⟨h1, h2⟩ := h
  rw [hp] at h2
  obtain ⟨V, h3, h4⟩ := h2
  obtain ⟨A, C, rfl, _⟩ := h4.shape
  exact ⟨A, C, h3, h4, h1⟩
theorem parse_no {t : List UInt8} {n : Nat} {w w' : World} {e : Ending} (h : ParseP t w e w') (hp : parseL [] (lines t) = .bad n) : e = .returned (.tuple #[.slice none 0 0, .int .i64 (n : Nat), .int .i64 13]) ∧ Below w.heap.size w w' := by
  obtain ⟨h1, h2⟩ := h
  rw [hp] at h2
  exact ⟨h2, h1⟩
set_option maxHeartbeats 8000000 in
set_option maxRecDepth 100000 in
theorem answersC (w : World) (hT : Tabs w) : Calls Tryd.prog 9 #[] w fun e w' => e = .returned (.bool true) ∧ Below w.heap.size w w' := by
  obtain ⟨wa, hwa⟩ : ∃ wa, w.alloc (.cells #[.int .i64 1, .int .i64 (-2), .string ⟨#[107]⟩, .slice none 0 0, .int .u64 7] TStep) = wa := ⟨_, rfl⟩
  have HBA : Hid (Below w.heap.size w wa) := by rw [← hwa]; exact (Below.refl _ _).alloc (Nat.le_refl _) _
  have HST : Hid (Steps wa (.slice (some ⟨w.heap.size, 0, none⟩) 1 1) [x0]) := by
    rw [← hwa]
    exact steps_new w 1 [x0] _ rfl _ (by omega) (fun i hi => by
      obtain rfl : i = 0 := by simpa using hi
      exact ⟨_, ⟨rfl, rfl, rfl, rfl, rfl⟩, bytes_none w, x0_ok⟩)
  have HT := Lib.hid hT
  clear hT
  go_enter Tryd.func9, Tryd.ntmps9
  go_wp2_with fail
  refine (printC [x0] _ _ HST.out (fun i hi => by
    obtain rfl : i = 0 := by simpa using hi
    exact (⟨by show 1 ≤ 1000000; decide, by show 0 ≤ 1000000; decide⟩ : Small x0)) (by rw [text0]; decide) (HT.out.below HBA.out)).mono ?_
  rintro e w1 ⟨rfl, hb1⟩
  have HB1 : Hid (Below w.heap.size w w1) := HBA.out.trans (hb1.mono HBA.out.size)
  clear hb1
  rw [text0]
  go_wp2_with fail
  refine (parseC [49, 32, 45, 50, 32, 55, 32, 120, 54, 98, 32, 120, 10] (by decide) _ (HT.out.below HB1.out)).mono ?_
  intro e w2 hp
  obtain ⟨A, C, rfl, hst, hb2⟩ := parse_ok hp (text0 ▸ parse0)
  have HB2 : Hid (Below w.heap.size w w2) := HB1.out.trans (hb2.mono HB1.out.size)
  obtain ⟨b, o, A1, C1, rfl, c0, c1, c2, c3, c4, hby, hok⟩ := hst.at (i := 0) (by decide)
  clear hp hst hb2 hby hok c0 c1 c2 c3
  rw [show ([x0] : List SD).length = 1 from rfl]
  have c4 : w2.cell? ⟨b, o + 4, none⟩ = some (.int .u64 7) := c4
  have hq : ((str [49, 32, 45, 50, 32, 55, 32, 120, 54, 98, 32, 120, 10]).toList == [49, 32, 45, 50, 32, 55, 32, 120, 54, 98, 32, 120, 10]) = true := by decide +kernel
  go_wp2
  go_ret
  exact ⟨rfl, HB2.out⟩
end Go.Proofs.YtegnheonncoodaaDoor.Scr
