/- The program's calls that were done, by their moments. -/
import Derived.Test.YtkibnpienbchaaaLnGot
import Derived.Test.YtkibnpienbchaaaLnStab
namespace Go.Proofs.Ytkibnpienbchaaa.Lnr
set_option linter.unusedVariables false
open Go.ChangeShapes Go.WideShapes Go.ChangeAt Go.RowKit
open Go.Mem Ln
open Go.Sort (HoldsK)
theorem infoCall : (Try.prog.info? TCall).map (fun i => (i.zero, i.size, i.bytes)) = some (some zCall, 10, 136) := by kernel_rfl
/-- the ten cells of call i -/
theorem cls_ten {w : World} {A : Option Addr} {n C : Nat} {L : List Cl} (h : Cls w (.slice A n C) L) {i : Nat} (hi : i < L.length) :
    ∃ b o, A = some ⟨b, o, none⟩ ∧ w.cell? ⟨b, o + i * 10, none⟩ = some (.int .i64 L[i].task) ∧ w.cell? ⟨b, o + i * 10 + 1, none⟩ = some (.int .i64 L[i].op) ∧ w.cell? ⟨b, o + i * 10 + 2, none⟩ = some (.string L[i].key) ∧ w.cell? ⟨b, o + i * 10 + 3, none⟩ = some (.slice L[i].dA L[i].data.length L[i].dC) ∧
      w.cell? ⟨b, o + i * 10 + 4, none⟩ = some (.int .i64 L[i].fr) ∧ w.cell? ⟨b, o + i * 10 + 5, none⟩ = some (.int .i64 L[i].to) ∧ w.cell? ⟨b, o + i * 10 + 6, none⟩ = some (.int .i64 L[i].mo) ∧ w.cell? ⟨b, o + i * 10 + 7, none⟩ = some (.int .i64 L[i].e) ∧
      w.cell? ⟨b, o + i * 10 + 8, none⟩ = some (.slice L[i].oA L[i].out.length L[i].oC) ∧ w.cell? ⟨b, o + i * 10 + 9, none⟩ = some (.slice L[i].kA L[i].nk L[i].kC) := by
  obtain ⟨b, o, e, q⟩ := h.at hi
  exact ⟨b, o, e, q 0 (by omega), q 1 (by omega), q 2 (by omega), q 3 (by omega), q 4 (by omega), q 5 (by omega), q 6 (by omega), q 7 (by omega), q 8 (by omega), q 9 (by omega)⟩
/-- in the midst of done: of the first i calls those that were done -/
structure DoMid (B : Nat) (W : World) (L : List Cl) (v : Value) (i : Nat) (w : World) : Prop where
  row : Row w B TCall v (dones (L.take i))
  bel : Below B W w
  nil : dones (L.take i) = [] → v = .slice none 0 0
theorem DoMid.less {B : Nat} {W w w' : World} {L : List Cl} {v : Value} {i : Nat} (h : DoMid B W L v i w) (hi : i < L.length) (hB : B ≤ w.heap.size) (hb : Below w.heap.size w w') (hm : ¬ 0 < L[i].mo) : DoMid B W L v (i + 1) w' := by
  have e : dones (L.take (i + 1)) = dones (L.take i) := by rw [dones_take hi, if_neg hm]
  exact ⟨by rw [e]; exact h.row.below hb, h.bel.trans (hb.mono hB), by rw [e]; exact h.nil⟩
/-- what is told lies in new memory -/
def Told (w w' : World) (v : Value) (L : List Cl) : Prop := Sure (fun b => b < w.heap.size) w' (fun w'' => Cls w'' v L) ∧ Below w.heap.size w w'
structure Doned (w w' : World) (v : Value) (L L' : List Cl) : Prop where
  perm : L'.Perm (dones L)
  ris : L'.Pairwise (fun a b => ¬ b.mo < a.mo)
  told : Told w w' v L'
set_option maxRecDepth 100000 in
set_option maxHeartbeats 4000000 in
theorem doneC {w : World} {V : Value} {L : List Cl} (h : Cls w V L) (hl : L.length ≤ 60) (hd : (dones L).length ≤ 20) :
    Calls Try.prog 9 #[V] w fun e w' => ∃ V' L', e = .returned V' ∧ Doned w w' V' L L' := by
  obtain ⟨A, C, rfl, hnC, hCm, -⟩ := h.shape
  have H := Lib.hid h
  obtain ⟨N, hN⟩ : ∃ N, L.length = N := ⟨_, rfl⟩
  have HN := Lib.hid hN
  rw [hN] at H hl hnC ⊢
  obtain ⟨B, hB⟩ : ∃ B, w.heap.size = B := ⟨_, rfl⟩
  have HBE := Lib.hid hB
  have HD := Lib.hid hd
  clear h hN hB hd
  go_enter Try.func9, Try.ntmps9
  go_wp2
  go_loopw [3, 8] (fun v c wr => ∃ i : Nat, i ≤ N ∧ c = .int .i64 i ∧ DoMid B w L v i wr) (fun _ c _ => N - (intOf c).toNat)
  case atStart => exact ⟨0, Nat.zero_le _, rfl, ⟨by rw [List.take_zero]; exact Row.start _ _ _, Below.refl _ _, fun _ => rfl⟩⟩
  case round =>
    obtain ⟨i, hi, rfl, hm⟩ := hrel
    have HM := Lib.hid hm
    have HBS := Lib.hid (show B ≤ wr.heap.size from by rw [← HBE.out]; exact hm.bel.size)
    clear hm
    by_cases hlt : i < N
    · have hil : i < L.length := by rw [HN.out]; exact hlt
      have hcl := H.out.mono (fun a c q => (show wr.cell? a = some c from ((HM.out.bel.mono (Nat.le_of_eq HBE.out)).cell (World.block_lt_of_cell? _ _ q)).trans q))
      obtain ⟨b, o, rfl, c0, c1, c2, c3, c4, c5, c6, c7, c8, c9⟩ := cls_ten hcl hil
      have HLS := Lib.hid (fun hm' => HM.out.less hil HBS.out (w' := wr.alloc (.cells #[.int .i64 L[i].task, .int .i64 L[i].op, .string L[i].key, .slice L[i].dA L[i].data.length L[i].dC, .int .i64 L[i].fr, .int .i64 L[i].to, .int .i64 L[i].mo, .int .i64 L[i].e, .slice L[i].oA L[i].out.length L[i].oC, .slice L[i].kA L[i].nk L[i].kC] TCall)) (alB _ _) hm')
      have HDT := Lib.hid (dones_take hil)
      obtain ⟨x, hx⟩ : ∃ x, L[i] = x := ⟨_, rfl⟩
      rw [hx] at c0 c1 c2 c3 c4 c5 c6 c7 c8 c9 HLS HDT
      have HENC := Lib.hid (show (#[Value.int .i64 x.task, .int .i64 x.op, .string x.key, .slice x.dA x.data.length x.dC, .int .i64 x.fr, .int .i64 x.to, .int .i64 x.mo, .int .i64 x.e, .slice x.oA x.out.length x.oC, .slice x.kA x.nk x.kC] : Array Value).toList = enc x from rfl)
      have HROW := Lib.hid HM.out.row
      have HLN := Lib.hid (dones_len L i)
      clear hcl hil hx
      by_cases hmo : 0 < x.mo
      · have d1 : decide (0 < x.mo) = true := by simpa using hmo
        rw [if_pos hmo] at HDT
        obtain ⟨w1, hw1⟩ : ∃ w1, wr.alloc (.cells #[.int .i64 x.task, .int .i64 x.op, .string x.key, .slice x.dA x.data.length x.dC, .int .i64 x.fr, .int .i64 x.to, .int .i64 x.mo, .int .i64 x.e, .slice x.oA x.out.length x.oC, .slice x.kA x.nk x.kC] TCall) = w1 := ⟨_, rfl⟩
        obtain ⟨g, hg⟩ : ∃ g, wr.heap.size = g := ⟨_, rfl⟩
        have hbx : Below wr.heap.size wr w1 := by rw [← hw1]; exact alB _ _
        have HBX := Lib.hid hbx
        have hrw : w1.rowIs g TCall 10 (fun j => #[Value.int .i64 x.task, .int .i64 x.op, .string x.key, .slice x.dA x.data.length x.dC, .int .i64 x.fr, .int .i64 x.to, .int .i64 x.mo, .int .i64 x.e, .slice x.oA x.out.length x.oC, .slice x.kA x.nk x.kC].getD j undef) := by rw [← hw1, ← hg]; exact row_of wr _ _
        have HRW := Lib.hid hrw
        have HR1 := Lib.hid (HROW.out.below hbx)
        have HBW := Lib.hid (HM.out.bel.trans (hbx.mono HBS.out))
        have HS1 := Lib.hid (show B ≤ w1.heap.size from Nat.le_trans HBS.out hbx.size)
        have HW1 := Lib.hid hw1
        have HG := Lib.hid hg
        clear HLS hmo hw1 hg hbx hrw
        go_upto_region 6 with fail
        rw [HW1.out, HG.out]
        clear c0 c1 c2 c3 c4 c5 c6 c7 c8 c9
        have x0 := HRW.out.cell (i := 0) (by omega)
        have x1 := HRW.out.cell (i := 1) (by omega)
        have x2 := HRW.out.cell (i := 2) (by omega)
        have x3 := HRW.out.cell (i := 3) (by omega)
        have x4 := HRW.out.cell (i := 4) (by omega)
        have x5 := HRW.out.cell (i := 5) (by omega)
        have x6 := HRW.out.cell (i := 6) (by omega)
        have x7 := HRW.out.cell (i := 7) (by omega)
        have x8 := HRW.out.cell (i := 8) (by omega)
        have x9 := HRW.out.cell (i := 9) (by omega)
        go_wp2_with (at_builtin; refine wpList_append_row _ rfl (.tmp 15) (.tmp 17) 24 rfl B TCall zCall 136 Try.underlying24 infoCall rfl _ (dones (L.take i)) rfl HR1.out _ x _ rfl rfl HENC.out (by have := HLN.out; omega) HS1.out ?_; intro v5 w5 hrow5 hg5 hb5 hat5)
        have HE := Lib.hid (show DoMid B w L v5 (i + 1) w5 from ⟨by rw [HDT.out]; exact hrow5, HBW.out.trans hb5, fun q => by rw [HDT.out] at q; simp at q⟩)
        clear hrow5 hg5 hb5 hat5 x0 x1 x2 x3 x4 x5 x6 x7 x8 x9
        go_wp2
        go_roundw
        case rel => exact ⟨i + 1, by omega, by go_num, HE.out⟩
        case measure => simp [intOf]; omega
      · have d1 : decide (0 < x.mo) = false := by simpa using hmo
        have HE := Lib.hid (HLS.out hmo)
        clear HLS HDT HROW hmo
        go_wp2
        go_roundw
        case rel => exact ⟨i + 1, by omega, by go_num, HE.out⟩
        case measure => simp [intOf]; omega
    · obtain rfl : i = N := by omega
      have hfull : dones (L.take i) = dones L := by rw [← HN.out, List.take_length]
      have hm := HM.out
      have hrow := hm.row
      have hnil := hm.nil
      rw [hfull] at hrow hnil
      have HBW := Lib.hid hm.bel
      by_cases h0 : dones L = []
      · obtain rfl := hnil h0
        have HE := Lib.hid (show Doned w wr (.slice none 0 0) L [] from ⟨by rw [h0], List.Pairwise.nil, fun w'' _ => Cls.nil _, by rw [HBE.out]; exact HBW.out⟩)
        clear hfull hm hrow hnil h0
        go_wp2_with (go_at_call 12; refine (sortNone _ _ _).mono ?_; rintro _ _ ⟨rfl, rfl⟩)
        go_ret
        exact ⟨_, _, rfl, HE.out⟩
      · obtain ⟨g, C', cur, e1, hBg, e2, e3, e4, e5, e6⟩ : ∃ g cap cur, u3 = .slice (some ⟨g, 0, none⟩) (dones L).length cap ∧ B ≤ g ∧ wr.heap[g]? = some (.cells cur TCall (0, 0)) ∧ (dones L).length ≤ cap ∧ cap ≤ maxLen ∧ cur.size = cap * 10 ∧ cur.toList.take ((dones L).length * 10) = (dones L).flatMap enc := by
          rcases hrow.2 with ⟨_, q⟩ | q
          · exact absurd (List.length_eq_zero_iff.1 q) h0
          · exact q
        subst e1
        have hgl := (Row.lt hrow g rfl).2
        have HC := Lib.hid (sortC (C := C') (row_holds hrow) hgl HD.out)
        have HT := Lib.hid (fun w2 M' (q : Sorted wr g (dones L) w2 M') => show Doned w w2 (.slice (some ⟨g, 0, none⟩) (dones L).length C') L M' from ⟨q.perm, q.ris, fun w'' t => holds_cls (holds_keep q.holds (t.block g (Nat.lt_of_lt_of_le hgl q.tur.size) (fun z => by have z' : g < w.heap.size := z; have := HBE.out; omega))) q.perm.length_eq.symm e3 e4, by
          rw [HBE.out]; exact HBW.out.trans (q.tur.below (fun b z => by rw [z]; exact hBg) HBS.out)⟩)
        obtain ⟨M, hM⟩ : ∃ M, (dones L).length = M := ⟨_, rfl⟩
        rw [hM] at HC HT ⊢
        clear hfull hm hrow hnil h0 e2 e3 e4 e5 e6 hM hBg hgl
        go_wp2_with (go_at_call 12; refine HC.out.mono ?_; rintro _ w2 ⟨rfl, M', hM'⟩; have HE := Lib.hid (HT.out _ _ hM'); clear hM')
        go_ret
        exact ⟨_, _, rfl, HE.out⟩
end Go.Proofs.Ytkibnpienbchaaa.Lnr
