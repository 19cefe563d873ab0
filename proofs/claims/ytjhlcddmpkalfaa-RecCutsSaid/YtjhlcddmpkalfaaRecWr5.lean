/- The program's own writer of records' bytes: a record; Encode. -/
import Derived.Test.YtjhlcddmpkalfaaRecWr4
namespace Go.Proofs.Ytjhlcddmpkalfaa.Rec
set_option linter.unusedVariables false
open Go.ChangeShapes Go.WideShapes Go.ChangeAt Go.RowKit
open Go.Mem RecM
theorem fits_iff (r : RecD) : ((((((((1 ≤ r.kind ∧ r.kind ≤ 5) ∧ okNum r.id) ∧ okNum r.size) ∧ r.key.size ≤ 16) ∧ okStps r.stripes) ∧ okObjs r.objects) ∧ okInts r.drives)) ↔ Fits r := by
  unfold Fits okRec okHead
  constructor
  · rintro ⟨⟨⟨⟨⟨⟨⟨a, b⟩, c⟩, d⟩, e⟩, f⟩, g⟩, h⟩
    exact ⟨a, ⟨⟨⟨⟨⟨⟨by omega, b⟩, c⟩, d⟩, e⟩, f⟩, g⟩, h⟩
  · rintro ⟨a, ⟨⟨⟨⟨⟨⟨_, b⟩, c⟩, d⟩, e⟩, f⟩, g⟩, h⟩
    exact ⟨⟨⟨⟨⟨⟨⟨a, b⟩, c⟩, d⟩, e⟩, f⟩, g⟩, h⟩
set_option maxHeartbeats 4000000 in
theorem wrecC {S : Nat → Prop} {Ws W0 w : World} {p : Nat} {q : Out} (h : WRun S Ws p q w) (hS : ∀ b, b < W0.heap.size → S b) (h0 : Below W0.heap.size W0 Ws) (hq : q.l.length ≤ 8208) (r : RecD) (As Ao Ad : Option Addr) (Cs Co Cd : Nat) (hr : RecIs W0 r As Ao Ad Cs Co Cd) :
    Calls Try.prog 16 #[.pointer (some ⟨p, 0, none⟩), .agg #[.int .i64 r.kind, .int .i64 r.id, .int .i64 r.size, .string r.key, .slice As r.stripes.length Cs, .slice Ao r.objects.length Co, .slice Ad r.drives.length Cd]] w (WDid S Ws p q (Fits r) (recE r)) := by
  have HBX := Lib.hid (show Below w.heap.size w (w.alloc (.cells #[.int .i64 r.kind, .int .i64 r.id, .int .i64 r.size, .string r.key, .slice As r.stripes.length Cs, .slice Ao r.objects.length Co, .slice Ad r.drives.length Cd] 26)) from (Below.refl _ _).alloc (Nat.le_refl _) _)
  have hxc := row_cells w #[.int .i64 r.kind, .int .i64 r.id, .int .i64 r.size, .string r.key, .slice As r.stripes.length Cs, .slice Ao r.objects.length Co, .slice Ad r.drives.length Cd] 26
  have HC1 := Lib.hid (hxc 1 (by simp))
  have HC2 := Lib.hid (hxc 2 (by simp))
  have HC3 := Lib.hid (hxc 3 (by simp))
  have HC4 := Lib.hid (hxc 4 (by simp))
  have HC5 := Lib.hid (hxc 5 (by simp))
  have HC6 := Lib.hid (hxc 6 (by simp))
  have HX := Lib.hid (h.beside HBX.out (g := w.heap.size) (Nat.le_refl _) (by simp))
  have HX1 := Lib.hid (h.below HBX.out)
  have HS2 := Lib.hid (show ∀ b, b < W0.heap.size → (S b ∨ b = w.heap.size) from fun b hb => .inl (hS b hb))
  have HB2 := Lib.hid (show Below W0.heap.size W0 (w.alloc (.cells #[.int .i64 r.kind, .int .i64 r.id, .int .i64 r.size, .string r.key, .slice As r.stripes.length Cs, .slice Ao r.objects.length Co, .slice Ad r.drives.length Cd] 26)) from h0.trans ((h.below HBX.out).bel hS))
  have HR := Lib.hid hr
  have HQ := Lib.hid hq
  clear hxc h hq hr
  go_enter Try.func16, Try.ntmps16
  go_wp2_with fail
  refine (putC HX.out HQ.out r.kind 1 5 1 (by unfold Most; omega) HR.out.k0 (by omega) (by omega)).mono ?_
  rintro _ w1 ⟨rfl, q1, h1, d1⟩
  have H1 := Lib.hid h1
  have D1 := Lib.hid d1
  have HQ1 := Lib.hid (d1.len HQ.out)
  have k1 := wkept h1 (.inr rfl) HC1.out
  clear h1 d1
  go_wp2_with fail
  refine (numC4 H1.out HQ1.out r.id HR.out.k1).mono ?_
  rintro _ w2 ⟨rfl, q2, h2, d2⟩
  have H2 := Lib.hid h2
  have D2 := Lib.hid (D1.out.comp d2)
  have HQ2 := Lib.hid (d2.len HQ1.out)
  clear k1
  have k1 := wkept h2 (.inr rfl) HC2.out
  clear h2 d2
  go_wp2_with fail
  refine (numC4 H2.out HQ2.out r.size HR.out.k2).mono ?_
  rintro _ w3 ⟨rfl, q3, h3, d3⟩
  have H3 := Lib.hid h3
  have D3 := Lib.hid (D2.out.comp d3)
  have HQ3 := Lib.hid (d3.len HQ2.out)
  clear k1
  have k1 := wkept h3 (.inr rfl) HC3.out
  clear h3 d3
  go_wp2_with fail
  refine (wkeyC H3.out HQ3.out r.key HR.out.k3).mono ?_
  rintro _ w4 ⟨rfl, q4, h4, d4⟩
  have H4 := Lib.hid h4
  have D4 := Lib.hid (D3.out.comp d4)
  have HQ4 := Lib.hid (d4.len HQ3.out)
  clear k1
  have k1 := wkept h4 (.inr rfl) HC4.out
  clear h4 d4
  go_wp2_with fail
  refine (wstpsC H4.out HS2.out HB2.out HQ4.out r.stripes _ HR.out.s HR.out.ls).mono ?_
  rintro _ w5 ⟨rfl, q5, h5, d5⟩
  have H5 := Lib.hid h5
  have D5 := Lib.hid (D4.out.comp d5)
  have HQ5 := Lib.hid (d5.len HQ4.out)
  clear k1
  have k1 := wkept h5 (.inr rfl) HC5.out
  clear h5 d5
  go_wp2_with fail
  refine (eachObjs H5.out HS2.out HB2.out HQ5.out r.objects _ HR.out.o HR.out.lo).mono ?_
  rintro _ w6 ⟨rfl, q6, h6, d6⟩
  have H6 := Lib.hid h6
  have D6 := Lib.hid (D5.out.comp d6)
  have HQ6 := Lib.hid (d6.len HQ5.out)
  clear k1
  have k1 := wkept h6 (.inr rfl) HC6.out
  clear h6 d6
  go_wp2_with fail
  refine (wdrivesC H6.out HS2.out HB2.out HQ6.out r.drives _ HR.out.d HR.out.ld).mono ?_
  rintro _ w7 ⟨rfl, q7, h7, d7⟩
  have HF := Lib.hid (show WDid S Ws p q (Fits r) (recE r) (.returned (.tuple #[])) w7 from ⟨rfl, q7, HX1.out.back h7, (D6.out.comp d7).same (fits_iff r) rfl⟩)
  clear h7 d7 k1
  go_wp2
  go_end0
  exact HF.out
theorem enc_bad {r : RecD} {q : Out} (hd : Did o0 (Fits r) (recE r) q) (hb : q.bad = true) : encE r = 2 ∧ encB r = [] := by
  have hn : ¬ Fits r := by
    rcases hd.bad.1 hb with x | x
    · cases x
    · exact x
  unfold Fits at hn
  by_cases hk : r.kind < 1
  · exact encE_kind hk
  · have : ¬ okRec r := fun x => hn ⟨by omega, x⟩
    exact encE_bad hk (out_bad.2 this)
theorem enc_long {r : RecD} {q : Out} (hd : Did o0 (Fits r) (recE r) q) (hb : q.bad = false) (hl : 8192 < q.l.length) : encE r = 4 ∧ encB r = [] := by
  have hf := (hd.was hb).2
  have ho := out_ok hf.2
  refine encE_long (by have := hf.1; omega) (by rw [ho]) ?_
  rw [ho]
  show 8192 < (recE r).length
  refine Nat.lt_of_not_le fun hx => ?_
  have e := hd.fit rfl hf (by show 0 + _ ≤ _; omega)
  rw [e] at hl
  simp [o0] at hl
  omega
theorem enc_good {r : RecD} {q : Out} (hd : Did o0 (Fits r) (recE r) q) (hb : q.bad = false) (hl : ¬ 8192 < q.l.length) : encE r = 0 ∧ encB r = q.l := by
  have hf := (hd.was hb).2
  have ho := out_ok hf.2
  have hle : (recE r).length ≤ 8192 := Nat.le_of_not_lt fun hx => hl (hd.big rfl hf (by show 8192 < 0 + _; omega))
  have e := hd.fit rfl hf (by show 0 + _ ≤ _; omega)
  have := encE_good (r := r) (by have := hf.1; omega) (by rw [ho]) (by rw [ho]; show ¬ 8192 < (recE r).length; omega)
  refine ⟨this.1, this.2.trans ?_⟩
  rw [ho, e]
  rfl
set_option maxHeartbeats 4000000 in
theorem encodeC {W : World} {V : Value} {r : RecD} (h : RecV W V r) :
    Calls Try.prog 10 #[V] W (Enced W r) := by
  obtain ⟨As, Ao, Ad, Cs, Co, Cd, rfl, h⟩ := h
  unfold recVal
  obtain ⟨W1, hW1⟩ : ∃ W1, W.alloc (.cells #[.int .i64 r.kind, .int .i64 r.id, .int .i64 r.size, .string r.key, .slice As r.stripes.length Cs, .slice Ao r.objects.length Co, .slice Ad r.drives.length Cd] 26) = W1 := ⟨_, rfl⟩
  have hbw : Below W.heap.size W W1 := by rw [← hW1]; exact (Below.refl _ _).alloc (Nat.le_refl _) _
  have hsz : W1.heap.size = W.heap.size + 1 := by rw [← hW1]; simp
  have hrf : WRun (fun b => b < W.heap.size + 1) W1 (W.heap.size + 1) o0 ((W.alloc (.cells #[.int .i64 r.kind, .int .i64 r.id, .int .i64 r.size, .string r.key, .slice As r.stripes.length Cs, .slice Ao r.objects.length Co, .slice Ad r.drives.length Cd] 26)).alloc (.cells #[.slice none 0 0, .bool false] 47)) := by
    have := WRun.fresh W1
    rw [hsz] at this
    rw [hW1]
    exact this
  have HRF := Lib.hid hrf
  have HR := Lib.hid (h.below hbw)
  have HS := Lib.hid (show ∀ b, b < W1.heap.size → b < W.heap.size + 1 from fun b q => by omega)
  have HBW := Lib.hid (show ∀ q w', WRun (fun b => b < W.heap.size + 1) W1 (W.heap.size + 1) q w' → Below W.heap.size W w' from fun q w' hx => hbw.trans (hx.bel (B := W.heap.size) (fun b hb => by omega)))
  clear hrf h hbw hsz hW1
  go_enter Try.func10, Try.ntmps10
  go_wp2_with fail
  refine (wrecC HRF.out HS.out (Below.refl _ _) (by show 0 ≤ _; omega) r As Ao Ad Cs Co Cd HR.out).mono ?_
  rintro _ w1 ⟨rfl, q, hq, hd⟩
  obtain ⟨A, C, c0, c1, hby, hp⟩ := hq.open
  have HB := Lib.hid (HBW.out _ _ hq)
  have HBY := Lib.hid hby
  have HD := Lib.hid hd
  obtain ⟨M, hM⟩ : ∃ M, q.l.length = M := ⟨_, rfl⟩
  rw [hM] at c0 HBY
  have HM := Lib.hid hM
  cases hb : q.bad with
  | true =>
    have HE := Lib.hid (enc_bad hd hb)
    rw [hb] at c1
    clear hq hby hd hb hM
    go_wp2
    go_ret2
    exact ⟨.slice none 0 0, by rw [HE.out.1]; rfl, by rw [HE.out.2]; exact bytes_nil _, HB.out⟩
  | false =>
    rw [hb] at c1
    by_cases hl : 8192 < M
    · have HE := Lib.hid (enc_long hd hb (by rw [hM]; exact hl))
      have hdd : decide (8192 < M) = true := by simpa using hl
      clear hq hby hd hb hM
      go_wp2
      go_ret2
      exact ⟨.slice none 0 0, by rw [HE.out.1]; rfl, by rw [HE.out.2]; exact bytes_nil _, HB.out⟩
    · have HE := Lib.hid (enc_good hd hb (by rw [hM]; exact hl))
      have hdd : decide (8192 < M) = false := by simpa using hl
      have hl2 : M ≤ 8192 := by omega
      clear hq hby hd hb hM hl
      go_wp2
      go_ret2
      exact ⟨.slice A M C, by rw [HE.out.1]; rfl, by rw [HE.out.2]; exact HBY.out, HB.out⟩
end Go.Proofs.Ytjhlcddmpkalfaa.Rec
