/- The program's Check, of calls that are Puts and Gets, each at a moment of its own. -/
import Derived.Test.YtkibnpienbchaaaLnDone
namespace Go.Proofs.Ytkibnpienbchaaa.Lnr
set_option linter.unusedVariables false
open Go.ChangeShapes Go.WideShapes Go.ChangeAt Go.RowKit
open Go.Mem Ln
/-- such a call, in memory -/
structure ClP (w : World) (x : Cl) : Prop where
  ok : ClOk w x
  key : KeyOk x.key
  op : x.op = 1 ∨ x.op = 2
theorem ClP.below {w w' : World} {x : Cl} (h : ClP w x) (hb : Below w.heap.size w w') : ClP w' x := ⟨h.ok.below hb, h.key, h.op⟩
/-- in the midst of Check: i calls are done -/
structure ChMid (W w2 : World) (b : Nat) (V : Value) (S : List Cl) (i : Nat) (m : Mp) (w : World) : Prop where
  map : MapC w b i m
  eq : goes noMap S = goes m (S.drop i)
  mem : ∀ s y, m s = some y → y ∈ S
  bel : Below W.heap.size W w
  tur : Turned (fun y => y = b) w2 w
theorem ChMid.below {W w2 w w' : World} {b : Nat} {V : Value} {S : List Cl} {i : Nat} {m : Mp} (h : ChMid W w2 b V S i m w) (hb : Below w.heap.size w w') : ChMid W w2 b V S i m w' :=
  ⟨h.map.below hb, h.eq, h.mem, h.bel.trans (hb.mono h.bel.size), h.tur.trans (Turned.of_below _ hb) (Grown.refl _ _)⟩
theorem next_mem {m : Mp} {x : Cl} {S : List Cl} (h : ∀ s y, m s = some y → y ∈ S) (hx : x ∈ S) : ∀ s y, next m x s = some y → y ∈ S := by
  intro s y q
  unfold next at q
  split at q
  · split at q
    · unfold put at q
      split at q
      · cases q; exact hx
      · exact h s y q
    · exact h s y q
  · exact h s y q
set_option maxRecDepth 100000 in
set_option maxHeartbeats 4000000 in
theorem checkC {w : World} {V : Value} {L : List Cl} (h : Cls w V L) (hl : L.length ≤ 60) {S : List Cl} (hs : Ord S) (hp : (dones L).Perm S) (hn : S.length ≤ 20) (hS : ∀ x ∈ S, ClP w x) :
    Calls Try.prog 7 #[V] w fun e w' => e = .returned (.bool (goes noMap S)) ∧ Below w.heap.size w w' := by
  have hmk := @run_makeMap Try.prog
  obtain ⟨B, hB⟩ : ∃ B, w.heap.size = B := ⟨_, rfl⟩
  obtain ⟨w1, hw1⟩ : ∃ w1, w.alloc (.map #[] 0) = w1 := ⟨_, rfl⟩
  have hb1 : Below w.heap.size w w1 := by rw [← hw1]; exact alB _ _
  have HM1 := Lib.hid (show MapC w1 B 0 noMap by rw [← hw1, ← hB]; exact MapV.made w)
  have HS1 := Lib.hid (show w1.heap.size = B + 1 by rw [← hw1, ← hB]; simp)
  have HDC := Lib.hid (doneC (h.below hb1) hl (by rw [hp.length_eq]; exact hn))
  have HP := Lib.hid hp
  have HO := Lib.hid hs
  have HN20 := Lib.hid hn
  have HSP := Lib.hid hS
  have HB1 := Lib.hid hb1
  have HW1 := Lib.hid hw1
  have HBE := Lib.hid hB
  obtain ⟨r, hr⟩ : ∃ r, goes noMap S = r := ⟨_, rfl⟩
  have HR := Lib.hid hr
  rw [hr]
  clear h hl hs hp hn hS hb1 hw1 hB hr
  go_enter Try.func7, Try.ntmps7
  go_upto_region 2 with fail
  rw [HW1.out, HBE.out]
  clear hmk
  go_wp2_with fail
  refine HDC.out.mono ?_
  rintro _ w2 ⟨V', L', rfl, hd⟩
  have hLS : L' = S := sort_one HO.out (hd.perm.trans HP.out) hd.ris
  subst hLS
  obtain ⟨A, C, rfl, -⟩ := hd.told.1.here.shape
  have HT := Lib.hid hd.told.1
  have HM := Lib.hid (show ChMid w w2 B (.slice A L'.length C) L' 0 noMap w2 from ⟨HM1.out.below hd.told.2, by rw [List.drop_zero], (fun s y q => by cases q), HB1.out.trans (hd.told.2.mono HB1.out.size), Turned.refl _ _⟩)
  obtain ⟨N, hN⟩ : ∃ N, L'.length = N := ⟨_, rfl⟩
  have HN := Lib.hid hN
  have hn20 : N ≤ 20 := by rw [← hN]; exact HN20.out
  rw [hN] at HM HT ⊢
  clear hd hN
  go_wp2
  go_loopw [10] (fun c wr => ∃ i : Nat, i ≤ N ∧ c = .int .i64 i ∧ ∃ m, ChMid w w2 B (.slice A N C) L' i m wr) (fun c _ => N - (intOf c).toNat)
  case atStart => exact ⟨0, Nat.zero_le _, rfl, _, HM.out⟩
  case round =>
    obtain ⟨i, hi, rfl, m, hm⟩ := hrel
    have HMI := Lib.hid hm
    clear hm
    by_cases hlt : i < N
    · have hil : i < L'.length := by rw [HN.out]; exact hlt
      have hcl := HT.out wr (HMI.out.tur.mono fun y q => by rw [HS1.out]; omega)
      obtain ⟨b, o, rfl, c0, c1, c2, c3, c4, c5, c6, c7, c8, c9⟩ := cls_ten hcl hil
      have HG := Lib.hid (goes_cons (m := m) hil)
      have HXS := Lib.hid (List.getElem_mem hil)
      have HXP := Lib.hid (HSP.out _ (List.getElem_mem hil))
      obtain ⟨x, hx⟩ : ∃ x, L'[i] = x := ⟨_, rfl⟩
      rw [hx] at c0 c1 c2 c3 c4 c5 c6 c7 c8 c9 HG HXS HXP
      obtain ⟨w3, hw3⟩ : ∃ w3, wr.alloc (.cells #[.int .i64 x.task, .int .i64 x.op, .string x.key, .slice x.dA x.data.length x.dC, .int .i64 x.fr, .int .i64 x.to, .int .i64 x.mo, .int .i64 x.e, .slice x.oA x.out.length x.oC, .slice x.kA x.nk x.kC] TCall) = w3 := ⟨_, rfl⟩
      obtain ⟨g, hg⟩ : ∃ g, wr.heap.size = g := ⟨_, rfl⟩
      have hb3 : Below wr.heap.size wr w3 := by rw [← hw3]; exact alB _ _
      have hrw : w3.rowIs g TCall 10 (fun j => #[Value.int .i64 x.task, .int .i64 x.op, .string x.key, .slice x.dA x.data.length x.dC, .int .i64 x.fr, .int .i64 x.to, .int .i64 x.mo, .int .i64 x.e, .slice x.oA x.out.length x.oC, .slice x.kA x.nk x.kC].getD j undef) := by rw [← hw3, ← hg]; exact row_of wr _ _
      have HM3 := Lib.hid (HMI.out.below hb3)
      have HRW := Lib.hid hrw
      have HW3 := Lib.hid hw3
      have HGE := Lib.hid hg
      have HWI := Lib.hid (withinC x w3)
      clear hil hcl hx hw3 hg hb3 hrw
      go_upto_region 5 with fail
      rw [HW3.out, HGE.out]
      clear c0 c1 c2 c3 c4 c5 c6 c7 c8 c9
      have x0 := HRW.out.cell (i := 0) (by omega)
      have x1 := HRW.out.cell (i := 1) (by omega)
      have x2 := HRW.out.cell (i := 2) (by omega)
      have x3 := HRW.out.cell (i := 3) (by omega)
      have x4 := HRW.out.cell (i := 4) (by omega)
      have x5 := HRW.out.cell (i := 5) (by omega)
      have x6 := HRW.out.cell (i := 6) (by omega)
      have x7 := HRW.out.cell (i := 7) (by omega)
      have x8 := HRW.out.cell (i := 8) (by omega)
      have x9 := HRW.out.cell (i := 9) (by omega)
      cases hin : inIt x with
      | false =>
        rw [hin] at HWI
        unfold clVal at HWI
        have HE := Lib.hid (show false = r by rw [← HR.out, HMI.out.eq, HG.out, hin]; rfl)
        clear hin
        go_wp2_with fail
        refine HWI.out.mono ?_
        rintro _ w4 ⟨rfl, hb4⟩
        have HB4 := Lib.hid (HM3.out.below hb4).bel
        clear hb4
        go_wp2
        go_ret
        exact ⟨by rw [← HE.out]; rfl, HB4.out⟩
      | true =>
        rw [hin] at HWI
        unfold clVal at HWI
        have HQ := Lib.hid (show goes m (L'.drop i) = (does m x && goes (next m x) (L'.drop (i + 1))) by rw [HG.out, hin]; rfl)
        clear hin
        go_wp2_with fail
        refine HWI.out.mono ?_
        rintro _ w4 ⟨rfl, hb4⟩
        have HM4 := Lib.hid (HM3.out.below hb4)
        have hr4 := HRW.out.of_block (hb4.block g HRW.out.lt)
        clear x0 x1 x2 x3 x4 x5 x6 x7 x8 x9 hb4
        have x0 := hr4.cell (i := 0) (by omega)
        have x1 := hr4.cell (i := 1) (by omega)
        have x2 := hr4.cell (i := 2) (by omega)
        have x3 := hr4.cell (i := 3) (by omega)
        have x4 := hr4.cell (i := 4) (by omega)
        have x5 := hr4.cell (i := 5) (by omega)
        have x6 := hr4.cell (i := 6) (by omega)
        have x7 := hr4.cell (i := 7) (by omega)
        have x8 := hr4.cell (i := 8) (by omega)
        have x9 := hr4.cell (i := 9) (by omega)
        have HOUT := Lib.hid (SliceOf.mono HXP.out.ok.out (fun a c q => (HM4.out.bel.cell (World.block_lt_of_cell? _ _ q)).trans q) (fun _ _ q => q) : Bytes w4 _ _)
        have HDC := Lib.hid (doC HM4.out.map (by omega) x HXP.out.key HXP.out.op HOUT.out (fun s y q => SliceOf.mono (HSP.out _ (HM4.out.mem s y q)).ok.data (fun a c z => (HM4.out.bel.cell (World.block_lt_of_cell? _ _ z)).trans z) (fun _ _ z => z)))
        clear hr4
        cases hdo : does m x with
        | false =>
          rw [hdo] at HDC HQ
          unfold clVal at HDC
          have HE := Lib.hid (show false = r by rw [← HR.out, HMI.out.eq, HQ.out]; rfl)
          clear hdo
          go_wp2_with fail
          refine HDC.out.mono ?_
          rintro _ w5 ⟨rfl, hd5⟩
          have HB5 := Lib.hid (HM4.out.bel.trans (hd5.tur.below (fun y q => by rw [q, HBE.out]; exact Nat.le_refl _) HM4.out.bel.size))
          clear hd5
          go_wp2
          go_ret
          exact ⟨by rw [← HE.out]; rfl, HB5.out⟩
        | true =>
          rw [hdo] at HDC HQ
          unfold clVal at HDC
          clear hdo
          go_wp2_with fail
          refine HDC.out.mono ?_
          rintro _ w5 ⟨rfl, hd5⟩
          have HE := Lib.hid (show ChMid w w2 B (.slice (some ⟨b, o, none⟩) N C) L' (i + 1) (next m x) w5 from ⟨hd5.map, by rw [HMI.out.eq, HQ.out]; rfl, next_mem HMI.out.mem HXS.out, HM4.out.bel.trans (hd5.tur.below (fun y q => by rw [q, HBE.out]; exact Nat.le_refl _) HM4.out.bel.size), HM4.out.tur.trans hd5.tur (Grown.refl _ _)⟩)
          clear hd5 x0 x1 x2 x3 x4 x5 x6 x7 x8 x9
          go_wp2
          go_roundw
          case rel => exact ⟨i + 1, by omega, by go_num, _, HE.out⟩
          case measure => simp [intOf]; omega
    · obtain rfl : i = N := by omega
      have HE := Lib.hid (show true = r by rw [← HR.out, HMI.out.eq, ← HN.out, List.drop_length]; rfl)
      go_wp2
      go_ret
      exact ⟨by rw [← HE.out]; rfl, HMI.out.bel⟩
end Go.Proofs.Ytkibnpienbchaaa.Lnr
