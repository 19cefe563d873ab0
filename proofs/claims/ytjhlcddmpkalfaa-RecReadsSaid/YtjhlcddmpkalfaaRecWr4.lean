/- The program's own writer of records' bytes: stripes, objects, records. -/
import Derived.Test.YtjhlcddmpkalfaaRecWr3
namespace Go.Proofs.Ytjhlcddmpkalfaa.Rec
set_option linter.unusedVariables false
open Go.ChangeShapes Go.WideShapes Go.ChangeAt Go.RowKit
open Go.Mem RecM
set_option maxHeartbeats 2000000 in
theorem wstpC {S : Nat → Prop} {Ws W0 w : World} {p : Nat} {q : Out} (h : WRun S Ws p q w) (hS : ∀ b, b < W0.heap.size → S b) (h0 : Below W0.heap.size W0 Ws) (hq : q.l.length ≤ 8208) (x : StpD) (A : Option Addr) (C : Nat)
    (hI : Ints W0 (.slice A x.locs.length C) x.locs) (z0 : I64 x.id) (z1 : I64 x.ep) (hn : LenOk x.locs.length) :
    Calls Try.prog 49 #[.pointer (some ⟨p, 0, none⟩), .agg #[.int .i64 x.id, .int .i64 x.ep, .slice A x.locs.length C]] w (WDid S Ws p q (okStp x) (stpE x)) := by
  have HBX := Lib.hid (show Below w.heap.size w (w.alloc (.cells #[.int .i64 x.id, .int .i64 x.ep, .slice A x.locs.length C] 41)) from (Below.refl _ _).alloc (Nat.le_refl _) _)
  have hxc := row_cells w #[.int .i64 x.id, .int .i64 x.ep, .slice A x.locs.length C] 41
  have HC1 := Lib.hid (hxc 1 (by simp))
  have HC2 := Lib.hid (hxc 2 (by simp))
  have HX := Lib.hid (h.beside HBX.out (g := w.heap.size) (Nat.le_refl _) (by simp))
  have HX1 := Lib.hid (h.below HBX.out)
  have HS2 := Lib.hid (show ∀ b, b < W0.heap.size → (S b ∨ b = w.heap.size) from fun b hb => .inl (hS b hb))
  have HB2 := Lib.hid (show Below W0.heap.size W0 (w.alloc (.cells #[.int .i64 x.id, .int .i64 x.ep, .slice A x.locs.length C] 41)) from h0.trans ((h.below HBX.out).bel hS))
  have HI := Lib.hid hI
  have HN := Lib.hid hn
  have HQ := Lib.hid hq
  clear hxc h hI hn hq
  go_enter Try.func49, Try.ntmps49
  go_wp2_with fail
  refine (numC4 HX.out HQ.out x.id z0).mono ?_
  rintro _ w1 ⟨rfl, q1, h1, d1⟩
  have H1 := Lib.hid h1
  have D1 := Lib.hid d1
  have HQ1 := Lib.hid (d1.len HQ.out)
  have k1 := wkept h1 (.inr rfl) HC1.out
  clear h1 d1
  go_wp2_with fail
  refine (numC4 H1.out HQ1.out x.ep z1).mono ?_
  rintro _ w2 ⟨rfl, q2, h2, d2⟩
  have H2 := Lib.hid h2
  have D2 := Lib.hid (D1.out.comp d2)
  have HQ2 := Lib.hid (d2.len HQ1.out)
  clear k1
  have k2 := wkept h2 (.inr rfl) HC2.out
  clear h2 d2
  go_wp2_with fail
  refine (wdrivesC H2.out HS2.out HB2.out HQ2.out x.locs _ HI.out HN.out).mono ?_
  rintro _ w3 ⟨rfl, q3, h3, d3⟩
  have HF := Lib.hid (show WDid S Ws p q (okStp x) (stpE x) (.returned (.tuple #[])) w3 from ⟨rfl, q3, HX1.out.back h3, D2.out.comp d3⟩)
  clear h3 d3 k2
  go_wp2
  go_end0
  exact HF.out
set_option maxHeartbeats 2000000 in
theorem eachStps {S : Nat → Prop} {Ws W0 w : World} {p : Nat} {q : Out} (h : WRun S Ws p q w) (hS : ∀ b, b < W0.heap.size → S b) (h0 : Below W0.heap.size W0 Ws) (hq : q.l.length ≤ 8208) (l : List StpD) (v : Value) (hI : Stps W0 v l) (hn : LenOk l.length) :
    Calls Try.prog 48 #[.pointer (some ⟨p, 0, none⟩), .int .i64 255, v, .func (.func 49) #[.pointer (some ⟨p, 0, none⟩)] #[]] w (WDid S Ws p q (okStps l) (stpsE l)) := by
  obtain ⟨A, C, rfl, g1, g2, -⟩ := hI.shape
  unfold LenOk at hn
  have HI := Lib.hid hI
  have H := Lib.hid h
  have HFIN := Lib.hid (fun q1 q2 (w' : World) (hd1 : Did q (0 ≤ ((l.length : Nat) : Int) ∧ ((l.length : Nat) : Int) ≤ 255) (Sha.numB ((l.length : Nat) : Int).toNat 1) q1) (hd2 : Did q1 (∀ x ∈ l, okStp x) (l.flatMap stpE) q2) (hr : WRun S Ws p q2 w') =>
    (show WDid S Ws p q (okStps l) (stpsE l) (.returned (.tuple #[])) w' from ⟨rfl, q2, hr, hd1.comp hd2⟩))
  obtain ⟨L, hL⟩ : ∃ L, l.length = L := ⟨_, rfl⟩
  have HL := Lib.hid hL
  rw [hL] at g1 hn HI HFIN ⊢
  clear hL hI h
  go_enter Try.func48, Try.ntmps48
  go_wp2_with fail
  refine (putC H.out hq L 0 255 1 (by unfold Most; omega) ⟨by omega, by omega⟩ (by omega) (by omega)).mono ?_
  rintro _ w1 ⟨rfl, q1, hr1, hd1⟩
  have HQ1 := Lib.hid (hd1.len hq)
  have HST := Lib.hid (EachMid.start (ok := okStp) (E := stpE) (l := l) hr1)
  have HD1 := Lib.hid hd1
  clear hr1 hd1 H
  go_wp2
  go_loopw [17] (fun c wr => ∃ k : Nat, k ≤ L ∧ c = .int .i64 k ∧ EachMid S Ws p q1 okStp stpE l k wr) (fun c _ => L - (intOf c).toNat)
  case atStart => exact ⟨0, Nat.zero_le _, rfl, HST.out⟩
  case round =>
    obtain ⟨k, hk, rfl, q', hr', hd'⟩ := hrel
    have HR := Lib.hid hr'
    obtain ⟨c1, f1⟩ := hr'.fl
    have hpl : p < wr.heap.size := hr'.open.choose_spec.choose_spec.2.2.2
    have HQ := Lib.hid (hd'.len HQ1.out)
    by_cases hlt : k < L
    · have hk' : k < l.length := by rw [HL.out]; exact hlt
      have hbel := h0.trans (hr'.bel hS)
      obtain ⟨b, oo, A', C', rfl, hc0, hc1, hc2, hi, z0, z1, z2⟩ := HI.out.at hk'
      have HN := Lib.hid (fun (w' : World) q2 => EachMid.next (S := S) (Ws := Ws) (w' := w') (p := p) (q2 := q2) hk' hd')
      obtain ⟨x, hx⟩ : ∃ x, l[k] = x := ⟨_, rfl⟩
      rw [hx] at hc0 hc1 hc2 hi z0 z1 z2 HN
      have g0 := below_cell hbel _ _ hc0
      have g1' := below_cell hbel _ _ hc1
      have g2' := below_cell hbel _ _ hc2
      have HII := Lib.hid hi
      have HZ2 := Lib.hid z2
      have HBX := Lib.hid (show Below wr.heap.size wr (wr.alloc (.cells #[.int .i64 x.id, .int .i64 x.ep, .slice A' x.locs.length C'] 41)) from (Below.refl _ _).alloc (Nat.le_refl _) _)
      have q3 : (0 : Int) ≤ (k : Int) := by omega
      have q4 : (k : Int) < (L : Int) := by omega
      cases hb : q'.bad with
      | true =>
        rw [hb] at c1
        have HX := Lib.hid (HFIN.out q1 q' _ HD1.out (hd'.rest (.inr hb)) (hr'.below HBX.out))
        clear hr' hd' hb hbel hc0 hc1 hc2 hi hx z2
        go_wp2
        go_end0
        exact HX.out
      | false =>
        rw [hb] at c1
        clear hr' hd' hb hbel hc0 hc1 hc2 hi hx z2
        go_wp2_with fail
        refine (wstpC (HR.out.below HBX.out) hS h0 HQ.out x A' C' HII.out z0 z1 HZ2.out).mono ?_
        rintro _ w2 ⟨rfl, q2, hr2, hd2⟩
        have HX := Lib.hid (HN.out w2 q2 hd2 hr2)
        clear hr2 hd2
        go_wp2
        go_roundw
        case rel => exact ⟨k + 1, by omega, by go_num, HX.out⟩
        case measure => simp [intOf]; omega
    · obtain rfl : k = L := by omega
      have HX := Lib.hid (HFIN.out q1 q' wr HD1.out (hd'.rest (.inl (Nat.le_of_eq HL.out))) hr')
      clear hr' hd'
      go_wp2
      go_end0
      exact HX.out
theorem wstpsC {S : Nat → Prop} {Ws W0 w : World} {p : Nat} {q : Out} (h : WRun S Ws p q w) (hS : ∀ b, b < W0.heap.size → S b) (h0 : Below W0.heap.size W0 Ws) (hq : q.l.length ≤ 8208) (l : List StpD) (v : Value) (hI : Stps W0 v l) (hn : LenOk l.length) :
    Calls Try.prog 32 #[.pointer (some ⟨p, 0, none⟩), v] w (WDid S Ws p q (okStps l) (stpsE l)) := by
  have H := Lib.hid h
  have HI := Lib.hid hI
  have HN := Lib.hid hn
  clear h hI hn
  go_enter Try.func32, Try.ntmps32
  go_wp2_with fail
  refine (eachStps H.out hS h0 hq l _ HI.out HN.out).mono ?_
  rintro _ w2 ⟨rfl, hx⟩
  have HX := Lib.hid hx
  clear hx
  go_wp2
  go_end0
  exact ⟨rfl, HX.out⟩
set_option maxHeartbeats 2000000 in
theorem wobjC {S : Nat → Prop} {Ws W0 w : World} {p : Nat} {q : Out} (h : WRun S Ws p q w) (hS : ∀ b, b < W0.heap.size → S b) (h0 : Below W0.heap.size W0 Ws) (hq : q.l.length ≤ 8208) (x : ObjD) (A : Option Addr) (C : Nat)
    (hI : Stps W0 (.slice A x.stripes.length C) x.stripes) (z0 : I64 x.id) (z1 : I64 x.size) (zk : KeyOk x.key) (hn : LenOk x.stripes.length) :
    Calls Try.prog 34 #[.pointer (some ⟨p, 0, none⟩), .agg #[.string x.key, .int .i64 x.id, .int .i64 x.size, .slice A x.stripes.length C]] w (WDid S Ws p q (okObj x) (objE x)) := by
  have HBX := Lib.hid (show Below w.heap.size w (w.alloc (.cells #[.string x.key, .int .i64 x.id, .int .i64 x.size, .slice A x.stripes.length C] 44)) from (Below.refl _ _).alloc (Nat.le_refl _) _)
  have hxc := row_cells w #[.string x.key, .int .i64 x.id, .int .i64 x.size, .slice A x.stripes.length C] 44
  have HC1 := Lib.hid (hxc 1 (by simp))
  have HC2 := Lib.hid (hxc 2 (by simp))
  have HC3 := Lib.hid (hxc 3 (by simp))
  have HX := Lib.hid (h.beside HBX.out (g := w.heap.size) (Nat.le_refl _) (by simp))
  have HX1 := Lib.hid (h.below HBX.out)
  have HS2 := Lib.hid (show ∀ b, b < W0.heap.size → (S b ∨ b = w.heap.size) from fun b hb => .inl (hS b hb))
  have HB2 := Lib.hid (show Below W0.heap.size W0 (w.alloc (.cells #[.string x.key, .int .i64 x.id, .int .i64 x.size, .slice A x.stripes.length C] 44)) from h0.trans ((h.below HBX.out).bel hS))
  have HI := Lib.hid hI
  have HN := Lib.hid hn
  have HQ := Lib.hid hq
  have HZK := Lib.hid zk
  clear hxc h hI hn hq zk
  go_enter Try.func34, Try.ntmps34
  go_wp2_with fail
  refine (wkeyC HX.out HQ.out x.key HZK.out).mono ?_
  rintro _ w1 ⟨rfl, q1, h1, d1⟩
  have H1 := Lib.hid h1
  have D1 := Lib.hid d1
  have HQ1 := Lib.hid (d1.len HQ.out)
  have k1 := wkept h1 (.inr rfl) HC1.out
  clear h1 d1
  go_wp2_with fail
  refine (numC4 H1.out HQ1.out x.id z0).mono ?_
  rintro _ w2 ⟨rfl, q2, h2, d2⟩
  have H2 := Lib.hid h2
  have D2 := Lib.hid (D1.out.comp d2)
  have HQ2 := Lib.hid (d2.len HQ1.out)
  clear k1
  have k2 := wkept h2 (.inr rfl) HC2.out
  clear h2 d2
  go_wp2_with fail
  refine (numC4 H2.out HQ2.out x.size z1).mono ?_
  rintro _ w3 ⟨rfl, q3, h3, d3⟩
  have H3 := Lib.hid h3
  have D3 := Lib.hid (D2.out.comp d3)
  have HQ3 := Lib.hid (d3.len HQ2.out)
  clear k2
  have k3 := wkept h3 (.inr rfl) HC3.out
  clear h3 d3
  go_wp2_with fail
  refine (wstpsC H3.out HS2.out HB2.out HQ3.out x.stripes _ HI.out HN.out).mono ?_
  rintro _ w4 ⟨rfl, q4, h4, d4⟩
  have HF := Lib.hid (show WDid S Ws p q (okObj x) (objE x) (.returned (.tuple #[])) w4 from ⟨rfl, q4, HX1.out.back h4, D3.out.comp d4⟩)
  clear h4 d4 k3
  go_wp2
  go_end0
  exact HF.out
set_option maxHeartbeats 2000000 in
theorem eachObjs {S : Nat → Prop} {Ws W0 w : World} {p : Nat} {q : Out} (h : WRun S Ws p q w) (hS : ∀ b, b < W0.heap.size → S b) (h0 : Below W0.heap.size W0 Ws) (hq : q.l.length ≤ 8208) (l : List ObjD) (v : Value) (hI : Objs W0 v l) (hn : LenOk l.length) :
    Calls Try.prog 33 #[.pointer (some ⟨p, 0, none⟩), .int .i64 65535, v, .func (.func 34) #[.pointer (some ⟨p, 0, none⟩)] #[]] w (WDid S Ws p q (okObjs l) (objsE l)) := by
  obtain ⟨A, C, rfl, g1, g2, -⟩ := hI.shape
  unfold LenOk at hn
  have HI := Lib.hid hI
  have H := Lib.hid h
  have HFIN := Lib.hid (fun q1 q2 (w' : World) (hd1 : Did q (0 ≤ ((l.length : Nat) : Int) ∧ ((l.length : Nat) : Int) ≤ 65535) (Sha.numB ((l.length : Nat) : Int).toNat 2) q1) (hd2 : Did q1 (∀ x ∈ l, okObj x) (l.flatMap objE) q2) (hr : WRun S Ws p q2 w') =>
    (show WDid S Ws p q (okObjs l) (objsE l) (.returned (.tuple #[])) w' from ⟨rfl, q2, hr, hd1.comp hd2⟩))
  obtain ⟨L, hL⟩ : ∃ L, l.length = L := ⟨_, rfl⟩
  have HL := Lib.hid hL
  rw [hL] at g1 hn HI HFIN ⊢
  clear hL hI h
  go_enter Try.func33, Try.ntmps33
  go_wp2_with fail
  refine (putC H.out hq L 0 65535 2 (by unfold Most; omega) ⟨by omega, by omega⟩ (by omega) (by omega)).mono ?_
  rintro _ w1 ⟨rfl, q1, hr1, hd1⟩
  have HQ1 := Lib.hid (hd1.len hq)
  have HST := Lib.hid (EachMid.start (ok := okObj) (E := objE) (l := l) hr1)
  have HD1 := Lib.hid hd1
  clear hr1 hd1 H
  go_wp2
  go_loopw [17] (fun c wr => ∃ k : Nat, k ≤ L ∧ c = .int .i64 k ∧ EachMid S Ws p q1 okObj objE l k wr) (fun c _ => L - (intOf c).toNat)
  case atStart => exact ⟨0, Nat.zero_le _, rfl, HST.out⟩
  case round =>
    obtain ⟨k, hk, rfl, q', hr', hd'⟩ := hrel
    have HR := Lib.hid hr'
    obtain ⟨c1, f1⟩ := hr'.fl
    have hpl : p < wr.heap.size := hr'.open.choose_spec.choose_spec.2.2.2
    have HQ := Lib.hid (hd'.len HQ1.out)
    by_cases hlt : k < L
    · have hk' : k < l.length := by rw [HL.out]; exact hlt
      have hbel := h0.trans (hr'.bel hS)
      obtain ⟨b, oo, A', C', rfl, hc0, hc1, hc2, hc3, hi, z0, z1, zk, z2⟩ := HI.out.at hk'
      have HN := Lib.hid (fun (w' : World) q2 => EachMid.next (S := S) (Ws := Ws) (w' := w') (p := p) (q2 := q2) hk' hd')
      obtain ⟨x, hx⟩ : ∃ x, l[k] = x := ⟨_, rfl⟩
      rw [hx] at hc0 hc1 hc2 hc3 hi z0 z1 zk z2 HN
      have g0 := below_cell hbel _ _ hc0
      have g1' := below_cell hbel _ _ hc1
      have g2' := below_cell hbel _ _ hc2
      have g3' := below_cell hbel _ _ hc3
      have HZK := Lib.hid zk
      have HII := Lib.hid hi
      have HZ2 := Lib.hid z2
      have HBX := Lib.hid (show Below wr.heap.size wr (wr.alloc (.cells #[.string x.key, .int .i64 x.id, .int .i64 x.size, .slice A' x.stripes.length C'] 44)) from (Below.refl _ _).alloc (Nat.le_refl _) _)
      have q3 : (0 : Int) ≤ (k : Int) := by omega
      have q4 : (k : Int) < (L : Int) := by omega
      cases hb : q'.bad with
      | true =>
        rw [hb] at c1
        have HX := Lib.hid (HFIN.out q1 q' _ HD1.out (hd'.rest (.inr hb)) (hr'.below HBX.out))
        clear hr' hd' hb hbel hc0 hc1 hc2 hc3 hi hx z2 zk
        go_wp2
        go_end0
        exact HX.out
      | false =>
        rw [hb] at c1
        clear hr' hd' hb hbel hc0 hc1 hc2 hc3 hi hx z2 zk
        go_wp2_with fail
        refine (wobjC (HR.out.below HBX.out) hS h0 HQ.out x A' C' HII.out z0 z1 HZK.out HZ2.out).mono ?_
        rintro _ w2 ⟨rfl, q2, hr2, hd2⟩
        have HX := Lib.hid (HN.out w2 q2 hd2 hr2)
        clear hr2 hd2
        go_wp2
        go_roundw
        case rel => exact ⟨k + 1, by omega, by go_num, HX.out⟩
        case measure => simp [intOf]; omega
    · obtain rfl : k = L := by omega
      have HX := Lib.hid (HFIN.out q1 q' wr HD1.out (hd'.rest (.inl (Nat.le_of_eq HL.out))) hr')
      clear hr' hd'
      go_wp2
      go_end0
      exact HX.out
end Go.Proofs.Ytjhlcddmpkalfaa.Rec
