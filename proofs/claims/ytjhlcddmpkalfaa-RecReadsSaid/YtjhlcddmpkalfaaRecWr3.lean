/- The program's own writer of records' bytes: keys, lists of numbers. -/
import Derived.Test.YtjhlcddmpkalfaaRecWr2
namespace Go.Proofs.Ytjhlcddmpkalfaa.Rec
set_option linter.unusedVariables false
open Go.ChangeShapes Go.WideShapes Go.ChangeAt Go.RowKit
open Go.Mem RecM
theorem string_bytes (w : World) (s : ByteArray) (hs : s.size ≤ 1000) :
    ∃ C w', (convert 9 29 (.string s)).run Try.prog w = .ok (.slice (some ⟨w.heap.size, 0, none⟩) s.size C) w' ∧ Bytes w' (.slice (some ⟨w.heap.size, 0, none⟩) s.size C) (strB s) ∧ Below w.heap.size w w' := by
  have h := run_bytes_of_string (P := Try.prog) w 9 29 5 s Try.underlying9 Try.underlying29 Try.underlying5
  have hge := grownCap_ge w s.size 0 5
  have hle := grownCap_le_maxLen w s.size 0 5 (by unfold maxLen; omega)
  generalize grownCap w s.size 0 5 = C at h hge hle
  refine ⟨C, _, h, ⟨_, s.size, C, rfl, (strB_len s).symm, hge, hle, (fun e => by cases e), fun i hi => ⟨w.heap.size, 0, .int .u8 ((strB s)[i] : Nat), rfl, ?_, rfl, strB_bd _ (List.getElem_mem hi)⟩⟩, ?_⟩
  · have hb : (w.drew.alloc (.cells (bytesRow s C) 5 ((bytesRow s C).size, (bytesRow s C).size + 1))).heap[w.heap.size]? = some (.cells (bytesRow s C) 5 ((bytesRow s C).size, (bytesRow s C).size + 1)) := by
      show (w.heap.push _)[w.heap.size]? = _
      simp
    have hi2 : i < s.size := by rw [strB_len] at hi; exact hi
    have hi3 : i < s.data.size := hi2
    unfold World.cell?
    dsimp only
    rw [hb]
    unfold bytesRow
    dsimp only
    rw [Array.getElem?_append_left (by simpa using hi3)]
    simp [strB]
    exact ⟨s.data[i], Array.getElem?_eq_getElem hi3, rfl⟩
  · exact ((Below.refl w.heap.size w).drew).alloc (Nat.le_refl _) _
set_option maxHeartbeats 1000000 in
theorem wkeyC {S : Nat → Prop} {Ws w : World} {p : Nat} {q : Out} (h : WRun S Ws p q w) (hq : q.l.length ≤ 8208) (s : ByteArray) (hs : KeyOk s) :
    Calls Try.prog 31 #[.pointer (some ⟨p, 0, none⟩), .string s] w (WDid S Ws p q (s.size ≤ 16) (keyE s)) := by
  have H := Lib.hid h
  unfold KeyOk at hs
  clear h
  go_enter Try.func31, Try.ntmps31
  go_wp2_with fail
  refine (putC H.out hq s.size 0 16 1 (by unfold Most; omega) ⟨by omega, by omega⟩ (by omega) (by omega)).mono ?_
  rintro _ w1 ⟨rfl, q1, hr, hd⟩
  obtain ⟨c1, f1⟩ := hr.fl
  have HR := Lib.hid hr
  have HD := Lib.hid hd
  have HL := Lib.hid (hd.len hq)
  cases hb : q1.bad with
  | true =>
    rw [hb] at c1
    have HX := Lib.hid (show WDid S Ws p q (s.size ≤ 16) (keyE s) (.returned (.tuple #[])) w1 from ⟨rfl, q1, hr, (hd.comp (Did.still (E := strB s) hb)).same ⟨(fun x => by omega), (fun x => ⟨by omega, trivial⟩)⟩ (by unfold keyE; rw [Int.toNat_natCast])⟩)
    clear hr hd hb
    go_wp2
    go_end0
    exact HX.out
  | false =>
    rw [hb] at c1
    have hsz : s.size ≤ 16 := by have := (hd.was hb).2; omega
    obtain ⟨C, w2, hcv, hby, hbl⟩ := string_bytes w1 s (by omega)
    have HBY := Lib.hid hby
    have HBL := Lib.hid hbl
    clear hr hd hb hby hbl
    go_wp2_with fail
    refine (addC (HR.out.below HBL.out) (strB s) _ HBY.out HL.out (by rw [strB_len]; exact hsz)).mono ?_
    rintro _ w3 ⟨rfl, hr3⟩
    have HX := Lib.hid (show WDid S Ws p q (s.size ≤ 16) (keyE s) (.returned (.tuple #[])) w3 from ⟨rfl, _, hr3, (HD.out.comp (padd_did (m := strB s) (by rw [strB_len]; exact hsz))).same ⟨(fun x => by omega), (fun x => ⟨by omega, trivial⟩)⟩ (by unfold keyE; rw [Int.toNat_natCast])⟩)
    clear hr3 hcv
    go_wp2
    go_end0
    exact HX.out
/-- in the midst of a list -/
def EachMid {α : Type} (S : Nat → Prop) (Ws : World) (p : Nat) (q1 : Out) (ok : α → Prop) (E : α → List Nat) (l : List α) (j : Nat) (w : World) : Prop :=
  ∃ q', WRun S Ws p q' w ∧ Did q1 (∀ x ∈ l.take j, ok x) ((l.take j).flatMap E) q'
section
variable {α : Type} {S : Nat → Prop} {Ws w w' : World} {p : Nat} {q q1 q' q2 : Out} {ok : α → Prop} {E : α → List Nat} {l : List α} {j : Nat}
theorem EachMid.start (h : WRun S Ws p q1 w) : EachMid S Ws p q1 ok E l 0 w := ⟨q1, h, by rw [List.take_zero]; exact Did.none.same ⟨fun _ x hx => (by cases hx), fun _ => trivial⟩ rfl⟩
theorem EachMid.next (hj : j < l.length) (hd : Did q1 (∀ x ∈ l.take j, ok x) ((l.take j).flatMap E) q') (h2 : Did q' (ok l[j]) (E l[j]) q2) (hr : WRun S Ws p q2 w') : EachMid S Ws p q1 ok E l (j + 1) w' := by
  refine ⟨q2, hr, (hd.comp h2).same ?_ ?_⟩
  · rw [List.take_succ_eq_append_getElem hj]
    simp only [List.mem_append, List.mem_singleton, or_imp, forall_and, forall_eq]
  · rw [List.take_succ_eq_append_getElem hj, List.flatMap_append]; simp
theorem Did.rest (hd : Did q1 (∀ x ∈ l.take j, ok x) ((l.take j).flatMap E) q') (hj : l.length ≤ j ∨ q'.bad = true) : Did q1 (∀ x ∈ l, ok x) (l.flatMap E) q' := by
  rcases hj with hj | hb
  · rw [List.take_of_length_le hj] at hd; exact hd
  · have key : q1.bad = true ∨ ¬ ∀ x ∈ l, ok x := (hd.bad.1 hb).imp id fun hn ha => hn fun x hx => ha x (List.mem_of_mem_take hx)
    refine ⟨⟨fun _ => key, fun _ => hb⟩, fun h1 h2 => ?_, fun h1 h2 => ?_, hd.len⟩
    · rcases key with x | x
      · rw [h1] at x; cases x
      · exact absurd h2 x
    · rcases key with x | x
      · rw [h1] at x; cases x
      · exact absurd h2 x
end
set_option maxHeartbeats 2000000 in
theorem eachInts {S : Nat → Prop} {Ws W0 w : World} {p : Nat} {q : Out} (h : WRun S Ws p q w) (hS : ∀ b, b < W0.heap.size → S b) (h0 : Below W0.heap.size W0 Ws) (hq : q.l.length ≤ 8208) (l : List Int) (v : Value) (hI : Ints W0 v l) (hn : LenOk l.length) :
    Calls Try.prog 50 #[.pointer (some ⟨p, 0, none⟩), .int .i64 255, v, .func (.func 30) #[.pointer (some ⟨p, 0, none⟩)] #[]] w (WDid S Ws p q (okInts l) (intsE l)) := by
  obtain ⟨A, C, rfl, g1, g2, -⟩ := hI.shape
  unfold LenOk at hn
  have HI := Lib.hid hI
  have H := Lib.hid h
  have HFIN := Lib.hid (fun q1 q2 (w' : World) (hd1 : Did q (0 ≤ ((l.length : Nat) : Int) ∧ ((l.length : Nat) : Int) ≤ 255) (Sha.numB ((l.length : Nat) : Int).toNat 1) q1) (hd2 : Did q1 (∀ x ∈ l, okNum x) (l.flatMap numE) q2) (hr : WRun S Ws p q2 w') =>
    (show WDid S Ws p q (okInts l) (intsE l) (.returned (.tuple #[])) w' from ⟨rfl, q2, hr, hd1.comp hd2⟩))
  obtain ⟨L, hL⟩ : ∃ L, l.length = L := ⟨_, rfl⟩
  have HL := Lib.hid hL
  rw [hL] at g1 hn HI HFIN ⊢
  clear hL hI h
  go_enter Try.func50, Try.ntmps50
  go_wp2_with fail
  refine (putC H.out hq L 0 255 1 (by unfold Most; omega) ⟨by omega, by omega⟩ (by omega) (by omega)).mono ?_
  rintro _ w1 ⟨rfl, q1, hr1, hd1⟩
  have HQ1 := Lib.hid (hd1.len hq)
  have HST := Lib.hid (EachMid.start (ok := okNum) (E := numE) (l := l) hr1)
  have HD1 := Lib.hid hd1
  clear hr1 hd1 H
  go_wp2
  go_loopw [17] (fun c wr => ∃ k : Nat, k ≤ L ∧ c = .int .i64 k ∧ EachMid S Ws p q1 okNum numE l k wr) (fun c _ => L - (intOf c).toNat)
  case atStart => exact ⟨0, Nat.zero_le _, rfl, HST.out⟩
  case round =>
    obtain ⟨k, hk, rfl, q', hr', hd'⟩ := hrel
    have HR := Lib.hid hr'
    obtain ⟨c1, f1⟩ := hr'.fl
    have HQ := Lib.hid (hd'.len HQ1.out)
    by_cases hlt : k < L
    · have hk' : k < l.length := by rw [HL.out]; exact hlt
      have hbel := h0.trans (hr'.bel hS)
      obtain ⟨b, oo, rfl, hcc, hz⟩ := HI.out.at hk'
      have hc := below_cell hbel _ _ hcc
      have HN := Lib.hid (fun (w' : World) q2 => EachMid.next (S := S) (Ws := Ws) (w' := w') (p := p) (q2 := q2) hk' hd')
      obtain ⟨x, hx⟩ : ∃ x, l[k] = x := ⟨_, rfl⟩
      rw [hx] at hc hz HN
      have q3 : (0 : Int) ≤ (k : Int) := by omega
      have q4 : (k : Int) < (L : Int) := by omega
      cases hb : q'.bad with
      | true =>
        rw [hb] at c1
        have HX := Lib.hid (HFIN.out q1 q' wr HD1.out (hd'.rest (.inr hb)) hr')
        clear hr' hd' hb hbel hcc hx
        go_wp2
        go_end0
        exact HX.out
      | false =>
        rw [hb] at c1
        clear hr' hd' hb hbel hcc hx
        go_wp2_with fail
        refine (numC4 HR.out HQ.out x hz).mono ?_
        rintro _ w2 ⟨rfl, q2, hr2, hd2⟩
        have HX := Lib.hid (HN.out w2 q2 hd2 hr2)
        clear hr2 hd2
        go_wp2
        go_roundw
        case rel => exact ⟨k + 1, by omega, by go_num, HX.out⟩
        case measure => simp [intOf]; omega
    · obtain rfl : k = L := by omega
      have HX := Lib.hid (HFIN.out q1 q' wr HD1.out (hd'.rest (.inl (Nat.le_of_eq HL.out))) hr')
      clear hr' hd'
      go_wp2
      go_end0
      exact HX.out
theorem wdrivesC {S : Nat → Prop} {Ws W0 w : World} {p : Nat} {q : Out} (h : WRun S Ws p q w) (hS : ∀ b, b < W0.heap.size → S b) (h0 : Below W0.heap.size W0 Ws) (hq : q.l.length ≤ 8208) (l : List Int) (v : Value) (hI : Ints W0 v l) (hn : LenOk l.length) :
    Calls Try.prog 35 #[.pointer (some ⟨p, 0, none⟩), v] w (WDid S Ws p q (okInts l) (intsE l)) := by
  have H := Lib.hid h
  have HI := Lib.hid hI
  have HN := Lib.hid hn
  clear h hI hn
  go_enter Try.func35, Try.ntmps35
  go_wp2_with fail
  refine (eachInts H.out hS h0 hq l _ HI.out HN.out).mono ?_
  rintro _ w2 ⟨rfl, hx⟩
  have HX := Lib.hid hx
  clear hx
  go_wp2
  go_end0
  exact ⟨rfl, HX.out⟩
end Go.Proofs.Ytjhlcddmpkalfaa.Rec
