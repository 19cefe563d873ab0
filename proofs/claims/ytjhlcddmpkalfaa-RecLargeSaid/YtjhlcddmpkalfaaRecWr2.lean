/- The program's own writer of records' bytes: numbers. -/
import Derived.Test.YtjhlcddmpkalfaaRecWr
import Derived.Test.YtjhlcddmpkalfaaWrites
import Derived.StillTailTactics
namespace Go.Proofs.Ytjhlcddmpkalfaa.Rec
set_option linter.unusedVariables false
open Go.ChangeShapes Go.WideShapes Go.ChangeAt Go.RowKit
open Go.Mem RecM
theorem WrAt.flag {w : World} {F : Nat → Prop} {p : Nat} {v : Value} {o : Out} (h : WrAt w F p v o) (b : Bool) : Wrot F p ⟨o.l, b⟩ w (w.setCell ⟨p, 1, none⟩ (.bool b)) := by
  have hot : ∀ b', b' ≠ p → (w.setCell ⟨p, 1, none⟩ (.bool b)).heap[b']? = w.heap[b']? := fun b' hb => Below.heap_setCell _ _ _ _ (fun q => hb q)
  refine ⟨F, ⟨v, (h.head.set 1 (.bool b)).congr fun i hi => ?_, built_same h.row (fun b' hb => hot b' (fun e => h.ne (by rw [hb, e]))), h.ne, h.fp, h.own, (fun b' hb => by simpa [World.setCell] using h.lt b' hb)⟩, Turned.set _ h.fp, Grown.refl _ _⟩
  unfold ofld
  rcases (by omega : i = 0 ∨ i = 1) with rfl | rfl <;> rfl
theorem WRun.flag {S : Nat → Prop} {Ws w : World} {p : Nat} {q : Out} (h : WRun S Ws p q w) (b : Bool) : WRun S Ws p ⟨q.l, b⟩ (w.setCell ⟨p, 1, none⟩ (.bool b)) := by
  obtain ⟨⟨F, ⟨v, h1⟩, h2⟩, h3, h4⟩ := h
  have hz := h3.size
  obtain ⟨F', k1, k2, k3⟩ := h1.flag b
  refine ⟨⟨F', k1, fun x hS hF' => ?_⟩, ⟨k2.os.trans h3.os, k2.tape.trans h3.tape, k2.output.trans h3.output, Nat.le_trans hz k2.size, fun x hb => absurd hb (by omega)⟩, fun x hS => ⟨(h4 x hS).1, ?_⟩⟩
  · rcases k3 x hF' with y | y
    · exact h2 x hS y
    · have := (h4 x hS).1; omega
  · have hb := (h4 x hS).1
    exact (k2.block x (Nat.lt_of_lt_of_le hb hz) (h2 x hS)).trans (h4 x hS).2
theorem WRun.fl {S : Nat → Prop} {Ws w : World} {p : Nat} {q : Out} (h : WRun S Ws p q w) : w.cell? ⟨p, 1, none⟩ = some (.bool q.bad) ∧ w.frozen? ⟨p, 1, none⟩ = false := by
  obtain ⟨⟨F, ⟨v, h1⟩, h2⟩, h3, h4⟩ := h
  exact ⟨h1.cells.2, h1.free 1⟩
/-- behind the flag -/
theorem Did.flagged {q q' : Out} {ok : Prop} {b : Bool} {E : List Nat} (h : Did ⟨q.l, b⟩ True E q') (hb : b = true ↔ q.bad = true ∨ ¬ ok) : Did q ok E q' := by
  refine ⟨?_, fun h1 h2 h3 => ?_, fun h1 h2 h3 => ?_, h.len⟩
  · rw [h.bad, ← hb]; simp
  · have : b = false := by cases hbb : b with
      | false => rfl
      | true => rcases hb.1 hbb with x | x; rw [h1] at x; cases x; exact absurd h2 x
    exact h.fit this trivial h3
  · have : b = false := by cases hbb : b with
      | false => rfl
      | true => rcases hb.1 hbb with x | x; rw [h1] at x; cases x; exact absurd h2 x
    exact h.big this trivial h3
theorem Did.none {q : Out} : Did q True [] q := ⟨by simp, fun _ _ _ => by simp, fun _ _ hl => by simpa using hl, id⟩
theorem Did.still {q : Out} {E : List Nat} (h : q.bad = true) : Did q True E q := ⟨by simp, (fun hb => by rw [h] at hb; cases hb), (fun hb => by rw [h] at hb; cases hb), id⟩
theorem numB_el (v k i : Nat) (h : i < (Sha.numB v k).length) : (Sha.numB v k)[i] = v / 256 ^ (k - 1 - i) % 256 := by simp [Sha.numB]
theorem numB_get (v k i : Nat) (hi : i < k) : (Sha.numB v k).take (k - i) = (Sha.numB v k).take (k - (i + 1)) ++ [v / 256 ^ i % 256] := by
  have hl : k - (i + 1) < (Sha.numB v k).length := by rw [Sha.numB_len]; omega
  rw [show k - i = k - (i + 1) + 1 by omega, List.take_succ_eq_append_getElem hl]
  rw [numB_el, show k - 1 - (k - (i + 1)) = i by omega]
theorem one_byte (w : World) (t : Nat) (x : Nat) (hx : x < 256) : Bytes (w.alloc (.cells #[.int .u8 (x : Nat)] t)) (.slice (some ⟨w.heap.size, 0, none⟩) 1 1) [x] := by
  have h := Row.new (w := w) (t := t) (n := 1) (c := #[.int .u8 (x : Nat)]) (g := fun _ => x) rfl (fun i hi => by rw [show i = 0 by omega]; rfl) (fun _ _ => hx)
  exact h.bytes (Nat.le_refl _) (by omega)
def PutMid (S : Nat → Prop) (Ws : World) (p : Nat) (q1 : Out) (V k j : Nat) (w : World) : Prop := ∃ q', WRun S Ws p q' w ∧ Did q1 True ((Sha.numB V k).take (k - j)) q'
theorem Did.was {q q' : Out} {ok : Prop} {E : List Nat} (h : Did q ok E q') (hb : q'.bad = false) : q.bad = false ∧ ok := by
  have := h.bad
  rw [hb] at this
  have h2 : ¬ (q.bad = true ∨ ¬ ok) := fun x => by have := this.2 x; cases this
  exact ⟨by cases hq : q.bad with
    | false => rfl
    | true => exact absurd (.inl hq) h2, Classical.byContradiction fun x => h2 (.inr x)⟩
theorem byte_at (V i : Nat) : (V : Int) / 2 ^ (8 * i) % 256 = ((V / 256 ^ i % 256 : Nat) : Int) := by
  have h : (256 : Nat) ^ i = 2 ^ (8 * i) := by rw [Nat.pow_mul]
  rw [h, Int.natCast_emod, Int.natCast_ediv, Int.natCast_pow]
  rfl
theorem PutMid.next {S : Nat → Prop} {Ws w' : World} {p : Nat} {q1 q' : Out} {V k i : Nat} (hi : i < k) (hd : Did q1 True ((Sha.numB V k).take (k - (i + 1))) q') {q2 : Out} (h2 : Did q' True [V / 256 ^ i % 256] q2) (hr : WRun S Ws p q2 w') : PutMid S Ws p q1 V k i w' :=
  ⟨q2, hr, (hd.comp h2).same ⟨fun _ => trivial, fun _ => ⟨trivial, trivial⟩⟩ (numB_get V k i hi).symm⟩
set_option maxHeartbeats 4000000 in
set_option maxRecDepth 100000 in
theorem putAt {S : Nat → Prop} {Ws w : World} {p : Nat} {q : Out} (h : WRun S Ws p q w) (hq : q.l.length ≤ 8208) (n least most : Int) (k : Nat) (hm : Most most k) (hn : I64 n) (hl : 0 ≤ least) (hl1 : least ≤ 1) (b : Bool)
    (hcase : (q.bad = true ∧ b = true) ∨ (q.bad = false ∧ n < least ∧ b = true) ∨ (q.bad = false ∧ least ≤ n ∧ most < n ∧ b = true) ∨ (q.bad = false ∧ least ≤ n ∧ n ≤ most ∧ b = false)) :
    Calls Try.prog 29 #[.pointer (some ⟨p, 0, none⟩), .int .i64 n, .int .i64 least, .int .i64 most] w (WDid S Ws p q (least ≤ n ∧ n ≤ most) (Sha.numB n.toNat k)) := by
  have HBAD := Lib.hid (show b = true ↔ q.bad = true ∨ ¬ (least ≤ n ∧ n ≤ most) by
    rcases hcase with ⟨h1, h2⟩ | ⟨h1, h3, h2⟩ | ⟨h1, h3, h4, h2⟩ | ⟨h1, h3, h4, h2⟩
    · simp [h1, h2]
    · simp only [h1, h2, true_iff]; right; omega
    · simp only [h1, h2, true_iff]; right; omega
    · simp only [h1, h2]; simp; omega)
  obtain ⟨q1, hq1⟩ : ∃ q1 : Out, q1 = ⟨q.l, b⟩ := ⟨_, rfl⟩
  obtain ⟨c1, f1⟩ := h.fl
  have hf := h.flag b
  rw [← hq1] at hf
  have HQL := Lib.hid (show q1.l.length ≤ 8208 by rw [hq1]; exact hq)
  have HQ1 := Lib.hid hq1
  have HST := Lib.hid (show PutMid S Ws p q1 n.toNat k k (w.setCell ⟨p, 1, none⟩ (.bool b)) from ⟨q1, hf, by rw [Nat.sub_self, List.take_zero]; exact Did.none⟩)
  have HOK := Lib.hid (show q1.bad = false → least ≤ n ∧ n ≤ most by
    intro hx
    rw [hq1] at hx
    have hx' : b = false := hx
    rcases hcase with ⟨h1, h2⟩ | ⟨h1, h3, h2⟩ | ⟨h1, h3, h4, h2⟩ | ⟨h1, h3, h4, h2⟩
    · rw [h2] at hx'; cases hx'
    · rw [h2] at hx'; cases hx'
    · rw [h2] at hx'; cases hx'
    · exact ⟨h3, h4⟩)
  obtain ⟨n0, n1⟩ := hn
  obtain ⟨m0, m1, k0, k1, -⟩ := hm.le
  have HM := Lib.hid hm
  clear h hf hq1 hm hq
  rcases hcase with ⟨hqb, rfl⟩ | ⟨hqb, hd, rfl⟩ | ⟨hqb, hd, hd2, rfl⟩ | ⟨hqb, hd, hd2, rfl⟩
  all_goals
    rw [hqb] at c1
    clear hqb
    try have hdd : decide (n < least) = false := by simpa using hd
    try have hdd2 : decide (most < n) = false := by simpa using hd2
    go_enter Try.func29, Try.ntmps29
    go_wp2_with fail
    refine (widthC most k _ HM.out).mono ?_
    rintro _ _ ⟨rfl, rfl⟩
    go_wp2
    go_loopw [8] (fun a wr => ∃ j : Nat, j ≤ k ∧ a = .int .i64 ((j : Int) - 1) ∧ PutMid S Ws p q1 n.toNat k j wr) (fun a _ => (intOf a + 1).toNat)
    case atStart => exact ⟨k, Nat.le_refl _, rfl, HST.out⟩
    case round =>
      obtain ⟨j, hj, rfl, hmid⟩ := hrel
      rcases j with _ | i
      · have HMI := Lib.hid hmid
        rw [show ((0 : Nat) : Int) - 1 = -1 by omega]
        clear hmid
        go_wp2
        go_end0
        obtain ⟨q', hr', hd'⟩ := HMI.out
        rw [Nat.sub_zero, List.take_of_length_le (by rw [Sha.numB_len]; exact Nat.le_refl _)] at hd'
        refine ⟨rfl, q', hr', ?_⟩
        have h9 := HQ1.out
        subst h9
        exact hd'.flagged (by simpa using HBAD.out)
      · rw [show ((i + 1 : Nat) : Int) - 1 = (i : Int) by omega]
        have hi : i < k := by omega
        have hi4 : i < 4 := by omega
        obtain ⟨q', hr', hd'⟩ := hmid
        have HR := Lib.hid hr'
        have HN := Lib.hid (fun (w' : World) q2 => PutMid.next (S := S) (Ws := Ws) (w' := w') (p := p) (q2 := q2) hi hd')
        have HL := Lib.hid (hd'.len HQL.out)
        cases hb' : q'.bad with
        | true =>
          have HBB := Lib.hid hb'
          clear hr' hd' hb'
          go_wp2_with fail
          refine (addNo (HR.out.below ((Below.refl _ _).alloc (Nat.le_refl _) _)) _ HBB.out).mono ?_
          rintro _ w2 ⟨rfl, hw2⟩
          have HX := Lib.hid (HN.out w2 q' (Did.still HBB.out) hw2)
          clear hw2
          go_wp2
          go_roundw
          case rel => exact ⟨i, by omega, by go_num, HX.out⟩
          case measure => simp [intOf]
        | false =>
          have hok := HOK.out (hd'.was hb').1
          obtain ⟨V, rfl⟩ := Int.eq_ofNat_of_zero_le (show 0 ≤ n by omega)
          have HBY := Lib.hid (one_byte wr 5 (V / 256 ^ i % 256) (Nat.mod_lt _ (by decide)))
          rw [← byte_at V i] at HBY
          clear hr' hd' hb' hok
          go_wp2_with fail
          refine (addC (HR.out.below ((Below.refl _ _).alloc (Nat.le_refl _) _)) [V / 256 ^ i % 256] _ HBY.out HL.out (by simp)).mono ?_
          rintro _ w2 ⟨rfl, hw2⟩
          have HX := Lib.hid (HN.out w2 _ (padd_did (by simp)) hw2)
          clear hw2
          go_wp2
          go_roundw
          case rel => exact ⟨i, by omega, by go_num, HX.out⟩
          case measure => simp [intOf]
theorem putC {S : Nat → Prop} {Ws w : World} {p : Nat} {q : Out} (h : WRun S Ws p q w) (hq : q.l.length ≤ 8208) (n least most : Int) (k : Nat) (hm : Most most k) (hn : I64 n) (hl : 0 ≤ least) (hl1 : least ≤ 1) :
    Calls Try.prog 29 #[.pointer (some ⟨p, 0, none⟩), .int .i64 n, .int .i64 least, .int .i64 most] w (WDid S Ws p q (least ≤ n ∧ n ≤ most) (Sha.numB n.toNat k)) := by
  cases hb : q.bad with
  | true => exact putAt h hq n least most k hm hn hl hl1 true (.inl ⟨hb, rfl⟩)
  | false =>
    by_cases h1 : n < least
    · exact putAt h hq n least most k hm hn hl hl1 true (.inr (.inl ⟨hb, h1, rfl⟩))
    · by_cases h2 : most < n
      · exact putAt h hq n least most k hm hn hl hl1 true (.inr (.inr (.inl ⟨hb, by omega, h2, rfl⟩)))
      · exact putAt h hq n least most k hm hn hl hl1 false (.inr (.inr (.inr ⟨hb, by omega, by omega, rfl⟩)))
/-- a number of four bytes -/
theorem numC4 {S : Nat → Prop} {Ws w : World} {p : Nat} {q : Out} (h : WRun S Ws p q w) (hq : q.l.length ≤ 8208) (n : Int) (hn : I64 n) :
    Calls Try.prog 30 #[.pointer (some ⟨p, 0, none⟩), .int .i64 n] w (WDid S Ws p q (okNum n) (numE n)) := by
  have H := Lib.hid h
  go_enter Try.func30, Try.ntmps30
  go_wp2_with fail
  refine (putC H.out hq n 0 1073741824 4 (by unfold Most; omega) hn (by omega) (by omega)).mono ?_
  rintro _ w2 ⟨rfl, q2, hr, hd⟩
  have HX := Lib.hid (show WDid S Ws p q (okNum n) (numE n) (.returned (.tuple #[])) w2 from ⟨rfl, q2, hr, hd⟩)
  clear hr hd h
  go_wp2
  go_end0
  exact HX.out
end Go.Proofs.Ytjhlcddmpkalfaa.Rec
