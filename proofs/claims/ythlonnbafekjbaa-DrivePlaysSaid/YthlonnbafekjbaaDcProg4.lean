/- .. Flush and Crash, a drive that is none, and all that the laws ask. -/
import Derived.Test.YthlonnbafekjbaaDcProg3
namespace Go.Proofs.Ythlonnbafekjbaa.Drive
set_option linter.unusedVariables false
open Go.ChangeShapes Go.WideShapes Go.ChangeAt Go.RowKit
open Go.Mem Drv
def doneTo (f : Ce → Ce) (C : Nat → Ce) (k : Nat) : Nat → Ce := fun j => if j < k then f (C j) else C j
theorem doneTo_at (f : Ce → Ce) (C : Nat → Ce) (k : Nat) : doneTo f C k k = C k := if_neg (by omega)
theorem doneTo_succ (f : Ce → Ce) (C : Nat → Ce) (k : Nat) : upd (doneTo f C k) k (f (doneTo f C k k)) = doneTo f C (k + 1) := by
  rw [doneTo_at]
  funext j
  unfold upd doneTo
  by_cases e : j = k
  · subst e; rw [if_pos rfl, if_pos (by omega)]
  · rw [if_neg e]
    by_cases h : j < k
    · rw [if_pos h, if_pos (by omega)]
    · rw [if_neg h, if_neg (by omega)]
/-- a drive in the midst of a loop over its cells -/
structure MidD (w wr : World) (p : Nat) (F R : Nat → Prop) (S : Value) (n : Nat) (C : Nat → Ce) (cnt : Nat) (lost : Bool) : Prop where
  ex : ∃ F' N L W X, CAt wr p F' R S N L W X n C cnt lost ∧ Turned F w wr ∧ Grown F F' w
theorem MidD.step {w wr w' : World} {p : Nat} {F F' R : Nat → Prop} {bs n : Nat} {D : Nat → Ce} {cnt : Nat} {lost : Bool} (ht : Turned F w wr) (hg : Grown F F' w) (h : CellDoes wr p F' R bs n D cnt lost w') : MidD w w' p F R (.slice (some ⟨bs, 0, none⟩) n n) n D cnt lost := by
  obtain ⟨F2, N, L, W, X, h1, h2, h3⟩ := h
  exact ⟨F2, N, L, W, X, h1, ht.trans h2 hg, hg.trans h3 ht.size⟩
theorem flush_PDc {w wr : World} {F R : Nat → Prop} {p : Nat} {s : St} {S : Value} (hok : s.ok) (hl : s.lost = false) (h : MidD w wr p F R S s.slots.length (doneTo Ce.flush s.cell s.slots.length) s.loose.length s.lost) :
    Does PDc F p s.flush w (wr.setCell ⟨p, 1, none⟩ (.int .i64 0)) := by
  obtain ⟨F', N, L, W, X, h1, h2, h3⟩ := h.ex
  have e : s.flush = ⟨s.flushN s.loose.length, [], false⟩ := by unfold St.flush; rw [if_neg (by simp [hl])]
  refine ⟨F', ⟨flush_ok hok, R, S, N, L, W, X, ?_⟩, h2.trans (Turned.set _ h1.fp) (fun b hb => (h3 b hb)), h3⟩
  have h4 := h1.setCnt 0
  have e1 : s.flush.slots.length = s.slots.length := by rw [e]; exact flushN_len _ _
  have e2 : s.flush.loose.length = 0 := by rw [e]; rfl
  have e3 : s.flush.lost = s.lost := by rw [e, hl]
  rw [e1, e2, e3]
  refine h4.congr fun i hi => ?_
  rw [cell_flush hok hl]
  exact if_pos hi
theorem crash_PDc {w wr : World} {F R : Nat → Prop} {p : Nat} {s : St} {S : Value} (hok : s.ok) (keep : Nat) (h : MidD w wr p F R S s.slots.length (doneTo (Ce.crash · keep) s.cell s.slots.length) s.loose.length s.lost) :
    Does PDc F p (s.crash keep) w (wr.setCell ⟨p, 1, none⟩ (.int .i64 0)) := by
  obtain ⟨F', N, L, W, X, h1, h2, h3⟩ := h.ex
  refine ⟨F', ⟨crash_ok hok keep, R, S, N, L, W, X, ?_⟩, h2.trans (Turned.set _ h1.fp) (fun b hb => (h3 b hb)), h3⟩
  have h4 := h1.setCnt 0
  have e1 : (s.crash keep).slots.length = s.slots.length := crashN_len _ _ _
  have e2 : (s.crash keep).loose.length = 0 := rfl
  have e3 : (s.crash keep).lost = s.lost := rfl
  rw [e1, e2, e3]
  refine h4.congr fun i hi => ?_
  rw [cell_crash hok]
  exact if_pos hi
set_option maxHeartbeats 4000000 in
theorem flushC {w : World} {F : Nat → Prop} {p : Nat} {s : St} (h : PDc w F p s) (hsm : s.loose.length ≤ 1000) :
    Calls Try.prog 13 #[.pointer (some ⟨p, 0, none⟩)] w fun e w' => e = .returned (.int .i64 s.flushE) ∧ Does PDc F p s.flush w w' := by
  have h0 := h
  obtain ⟨hok, R, S, N, L, W, X, h⟩ := h
  obtain ⟨c0, c1, c2⟩ := h.cells
  by_cases hlo : s.lost = true
  · have HE := Lib.hid (show s.flushE = 8 by unfold St.flushE; rw [if_pos hlo])
    have HS := Lib.hid (show s.flush = s by unfold St.flush; rw [if_pos hlo])
    have H0 := Lib.hid h0
    rw [hlo] at c2
    have C2 := Lib.hid c2
    clear hlo h h0 c0 c1 c2 hok
    go_enter Try.func13, Try.ntmps13
    go_wp2_with fail
    refine (worksC C2.out).mono ?_
    rintro _ w1 ⟨rfl, rfl⟩
    rw [show ifLost true = 8 from rfl]
    go_wp2_with fail
    go_ret
    exact ⟨by rw [HE.out]; rfl, F, by rw [HS.out]; exact H0.out, Turned.refl _ _, Grown.refl _ _⟩
  · have hlo' : s.lost = false := by simpa using hlo
    have HE := Lib.hid (show s.flushE = 0 by unfold St.flushE; rw [if_neg hlo])
    have H0 := Lib.hid (show MidD w w p F R S s.slots.length (doneTo Ce.flush s.cell 0) s.loose.length s.lost from ⟨F, N, L, W, X, h.congr (fun i _ => rfl), Turned.refl _ _, Grown.refl _ _⟩)
    obtain ⟨A, hSe, hA⟩ := h.shape
    have hsl := hok.sm
    have HF := Lib.hid (fun (wr : World) => flush_PDc (w := w) (wr := wr) (F := F) (R := R) (p := p) (S := S) hok hlo')
    obtain ⟨n, hn⟩ : ∃ n, s.slots.length = n := ⟨_, rfl⟩
    rw [hn] at hSe hA hsl H0 HF
    subst hSe
    rw [hlo'] at c2
    have C2 := Lib.hid c2
    have HA := Lib.hid hA
    clear hlo hlo' h h0 hA hn c1 c2 hok
    go_enter Try.func13, Try.ntmps13
    go_wp2_with fail
    refine (worksC C2.out).mono ?_
    rintro _ w1 ⟨rfl, rfl⟩
    rw [show ifLost false = 0 from rfl]
    go_wp2_with fail
    clear c0
    go_loopw [4, 15] (fun _ c wr => ∃ k : Nat, k ≤ n ∧ c = .int .i64 k ∧ MidD w wr p F R (.slice A n n) n (doneTo Ce.flush s.cell k) s.loose.length s.lost) (fun _ c _ => n - (intOf c).toNat)
    case atStart => exact ⟨0, Nat.zero_le _, rfl, H0.out⟩
    case round =>
      obtain ⟨k, hk, rfl, hmid⟩ := hrel
      by_cases hlt : k < n
      · skip
        obtain ⟨F', N', L', W', X', hat, ht, hg⟩ := hmid.ex
        obtain ⟨bs, hbe⟩ := HA.out (by omega)
        subst hbe
        obtain ⟨c0, _, _⟩ := hat.cells
        have HCF := Lib.hid (cflushC hat hlt hsl)
        have HT := Lib.hid ht
        have HG := Lib.hid hg
        have l1 : (k : Int) < (n : Int) := by omega
        clear hmid hat ht hg
        go_wp2_with fail
        refine HCF.out.mono ?_
        rintro _ w2 ⟨rfl, hcd⟩
        have HST := Lib.hid (MidD.step HT.out HG.out hcd)
        rw [doneTo_succ] at HST
        clear hcd c0
        go_wp2_with fail
        go_roundw
        case rel => exact ⟨k + 1, by omega, by go_num, HST.out⟩
        case measure => simp [intOf]; omega
      · obtain rfl : k = n := by omega
        obtain ⟨F', N', L', W', X', hat, _, _⟩ := hmid.ex
        obtain ⟨_, c1, _⟩ := hat.cells
        have f1 := hat.free 1
        have HD := Lib.hid (HF.out _ hmid)
        clear hmid hat
        go_wp2_with fail
        go_ret
        exact ⟨by rw [HE.out]; rfl, HD.out⟩
set_option maxHeartbeats 4000000 in
theorem crashC {w : World} {F : Nat → Prop} {p : Nat} {s : St} (h : PDc w F p s) (hsm : s.loose.length ≤ 1000) (keep : Nat) (hkp : keep < 18446744073709551616) :
    Calls Try.prog 15 #[.pointer (some ⟨p, 0, none⟩), .int .u64 keep] w fun e w' => e = .returned (.tuple #[]) ∧ Does PDc F p (s.crash keep) w w' := by
  have h0 := h
  obtain ⟨hok, R, S, N, L, W, X, h⟩ := h
  obtain ⟨c0, c1, c2⟩ := h.cells
  by_cases hlo : s.lost = true
  · have hn0 := hok.em hlo
    have hll : s.loose = [] := by
      rcases hz : s.loose with _ | ⟨x, t⟩
      · rfl
      · have := hok.lt 0 (by rw [hz]; simp); omega
    have HS := Lib.hid (show s.crash keep = s by
      unfold St.crash
      rw [hll]
      show St.mk s.slots [] s.lost = s
      rcases s with ⟨a, b, c⟩
      simp only at hll
      rw [hll])
    have H0 := Lib.hid h0
    rw [hlo] at c2
    have C2 := Lib.hid c2
    clear hlo h h0 c0 c1 c2 hok hll hn0
    go_enter Try.func15, Try.ntmps15
    go_wp2_with fail
    refine (worksC C2.out).mono ?_
    rintro _ w1 ⟨rfl, rfl⟩
    rw [show ifLost true = 8 from rfl]
    go_wp2_with fail
    refine bodyPost_ret (results_none rfl _ _ _) rfl ?_
    exact ⟨rfl, F, by rw [HS.out]; exact H0.out, Turned.refl _ _, Grown.refl _ _⟩
  · have hlo' : s.lost = false := by simpa using hlo
    have H0 := Lib.hid (show MidD w w p F R S s.slots.length (doneTo (Ce.crash · keep) s.cell 0) s.loose.length s.lost from ⟨F, N, L, W, X, h.congr (fun i _ => rfl), Turned.refl _ _, Grown.refl _ _⟩)
    obtain ⟨A, hSe, hA⟩ := h.shape
    have hsl := hok.sm
    have HSM := Lib.hid (fun i => cell_sm hok i)
    have HF := Lib.hid (fun (wr : World) => crash_PDc (w := w) (wr := wr) (F := F) (R := R) (p := p) (S := S) hok keep)
    obtain ⟨n, hn⟩ : ∃ n, s.slots.length = n := ⟨_, rfl⟩
    rw [hn] at hSe hA hsl H0 HF
    subst hSe
    rw [hlo'] at c2
    have C2 := Lib.hid c2
    have HA := Lib.hid hA
    have HKP := Lib.hid hkp
    clear hlo hlo' h h0 hA hn c1 c2 hok hkp
    go_enter Try.func15, Try.ntmps15
    go_wp2_with fail
    refine (worksC C2.out).mono ?_
    rintro _ w1 ⟨rfl, rfl⟩
    rw [show ifLost false = 0 from rfl]
    go_wp2_with fail
    clear c0
    go_loopw [4, 13] (fun _ c wr => ∃ k : Nat, k ≤ n ∧ c = .int .i64 k ∧ MidD w wr p F R (.slice A n n) n (doneTo (Ce.crash · keep) s.cell k) s.loose.length s.lost) (fun _ c _ => n - (intOf c).toNat)
    case atStart => exact ⟨0, Nat.zero_le _, rfl, H0.out⟩
    case round =>
      obtain ⟨k, hk, rfl, hmid⟩ := hrel
      by_cases hlt : k < n
      · skip
        obtain ⟨F', N', L', W', X', hat, ht, hg⟩ := hmid.ex
        obtain ⟨bs, hbe⟩ := HA.out (by omega)
        subst hbe
        obtain ⟨c0, _, _⟩ := hat.cells
        have HCF := Lib.hid (ccrashC hat hlt hsl (by rw [doneTo_at]; have := (HSM.out k).2.2.1; omega) (by rw [doneTo_at]; exact fun x hx => ((HSM.out k).2.2.2 x hx).1) HKP.out)
        have HT := Lib.hid ht
        have HG := Lib.hid hg
        have l1 : (k : Int) < (n : Int) := by omega
        clear hmid hat ht hg
        go_wp2_with fail
        refine HCF.out.mono ?_
        rintro _ w2 ⟨rfl, hcd⟩
        have HST := Lib.hid (MidD.step HT.out HG.out hcd)
        rw [doneTo_succ (Ce.crash · keep)] at HST
        clear hcd c0
        go_wp2_with fail
        go_roundw
        case rel => exact ⟨k + 1, by omega, by go_num, HST.out⟩
        case measure => simp [intOf]; omega
      · obtain rfl : k = n := by omega
        obtain ⟨F', N', L', W', X', hat, _, _⟩ := hmid.ex
        obtain ⟨_, c1, _⟩ := hat.cells
        have f1 := hat.free 1
        have HD := Lib.hid (HF.out _ hmid)
        clear hmid hat
        go_wp2_with fail
        go_end0
        exact ⟨rfl, HD.out⟩
theorem iface : Iface PDc where
  turned h ht hd := PDc.turned h ht hd
  lt h := PDc.lt h
  new n w l u := newC n w l u
  write h i l u l0 u0 hu _ hs := writeC h (by omega) i l0 u0 l u hu
  flush h hs := flushC h hs
  crash h hs keep hk := crashC h hs keep hk
  lose h := loseC h
  lost h := lostC h
  loose h := looseC h
  cap h := capC h
  read h hs i l0 u0 := readC h i l0 u0
  lasts h i l0 u0 := lastsC h i l0 u0
theorem works_nil (w : World) : Calls Try.prog 29 #[.pointer none] w fun e w' => e = .returned (.int .i64 1) ∧ w = w' := by
  go_enter Try.func29, Try.ntmps29
  go_wp2
  go_ret
  exact ⟨rfl, rfl⟩
theorem cell_nil (w : World) (i : Int) : Calls Try.prog 26 #[.pointer none, .int .i64 i] w fun e w' => e = .returned (.tuple #[.pointer none, .int .i64 1]) ∧ w = w' := by
  go_enter Try.func26, Try.ntmps26
  go_wp2_with fail
  refine (works_nil w).mono ?_
  rintro _ w1 ⟨rfl, rfl⟩
  go_wp2_with fail
  go_ret2
  exact ⟨rfl, rfl⟩
theorem none_write (w : World) (i : Int) (u : Value) : Calls Try.prog 11 #[.pointer none, .int .i64 i, u] w fun e w' => e = .returned (.int .i64 1) ∧ Below w.heap.size w w' := by
  go_enter Try.func11, Try.ntmps11
  go_wp2_with fail
  refine (cell_nil w i).mono ?_
  rintro _ w1 ⟨rfl, rfl⟩
  go_wp2_with fail
  go_ret
  exact ⟨rfl, Below.refl _ _⟩
theorem none_flush (w : World) : Calls Try.prog 13 #[.pointer none] w fun e w' => e = .returned (.int .i64 1) ∧ Below w.heap.size w w' := by
  go_enter Try.func13, Try.ntmps13
  go_wp2_with fail
  refine (works_nil w).mono ?_
  rintro _ w1 ⟨rfl, rfl⟩
  go_wp2_with fail
  go_ret
  exact ⟨rfl, Below.refl _ _⟩
theorem none_crash (w : World) (keep : Int) : Calls Try.prog 15 #[.pointer none, .int .u64 keep] w fun e w' => e = .returned (.tuple #[]) ∧ Below w.heap.size w w' := by
  go_enter Try.func15, Try.ntmps15
  go_wp2_with fail
  refine (works_nil w).mono ?_
  rintro _ w1 ⟨rfl, rfl⟩
  go_wp2_with fail
  refine bodyPost_ret (results_none rfl _ _ _) rfl ?_
  exact ⟨rfl, Below.refl _ _⟩
theorem none_lose (w : World) : Calls Try.prog 17 #[.pointer none] w fun e w' => e = .returned (.tuple #[]) ∧ Below w.heap.size w w' := by
  go_enter Try.func17, Try.ntmps17
  go_wp2
  go_end0
  exact ⟨rfl, Below.refl _ _⟩
theorem none_lost (w : World) : Calls Try.prog 18 #[.pointer none] w fun e w' => e = .returned (.bool false) ∧ w = w' := by
  go_enter Try.func18, Try.ntmps18
  go_wp2
  go_ret
  exact ⟨rfl, rfl⟩
theorem none_loose (w : World) : Calls Try.prog 19 #[.pointer none] w fun e w' => e = .returned (.int .i64 0) ∧ w = w' := by
  go_enter Try.func19, Try.ntmps19
  go_wp2
  go_ret
  exact ⟨rfl, rfl⟩
theorem none_cap (w : World) : Calls Try.prog 20 #[.pointer none] w fun e w' => e = .returned (.int .i64 0) ∧ w = w' := by
  go_enter Try.func20, Try.ntmps20
  go_wp2
  go_ret
  exact ⟨rfl, rfl⟩
theorem none_read (w : World) (i : Int) : Calls Try.prog 21 #[.pointer none, .int .i64 i] w fun e w' => ∃ u, e = .returned (.tuple #[u, .int .i64 1]) ∧ Bytes w' u [] ∧ Below w.heap.size w w' := by
  go_enter Try.func21, Try.ntmps21
  go_wp2_with fail
  refine (cell_nil w i).mono ?_
  rintro _ w1 ⟨rfl, rfl⟩
  go_wp2_with fail
  go_ret2
  exact ⟨.slice none 0 0, rfl, (RowIn.nil (fun _ => True) w).1, Below.refl _ _⟩
theorem none_lasts (w : World) (i : Int) : Calls Try.prog 22 #[.pointer none, .int .i64 i] w fun e w' => ∃ u, e = .returned (.tuple #[u, .int .i64 1]) ∧ Bytes w' u [] ∧ Below w.heap.size w w' := by
  go_enter Try.func22, Try.ntmps22
  go_wp2_with fail
  refine (cell_nil w i).mono ?_
  rintro _ w1 ⟨rfl, rfl⟩
  go_wp2_with fail
  go_ret2
  exact ⟨.slice none 0 0, rfl, (RowIn.nil (fun _ => True) w).1, Below.refl _ _⟩
theorem noDrive : NoDrive := ⟨none_write, none_flush, none_crash, none_lose, none_lost, none_loose, none_cap, none_read, none_lasts⟩
end Go.Proofs.Ythlonnbafekjbaa.Drive
