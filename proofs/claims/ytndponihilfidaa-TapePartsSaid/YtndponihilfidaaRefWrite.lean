/- The document's write to its tapes, as a walk. -/
import Derived.Test.YtndponihilfidaaRefAll
import Derived.Deep.LoopGhost
namespace Go.Proofs.Ytndponihilfidaa.Tape
set_option linter.unusedVariables false
open Go.ChangeShapes Go.WideShapes Go.ChangeAt Go.RowKit
open Go.Mem Tp
abbrev TT : Nat := 32
abbrev On (w0 : World) (G0 : Nat → Prop) (w : World) (G : Nat → Prop) (r : Nat) (V : Nat → Value) (t : St) : Prop := TpOn TT w0 G0 w G r V t
/-- append([]byte{}, l...): the run, and what it leaves -/
theorem app1 (w : World) (u : Value) (l : List Nat) (hu : Bytes w u l) (hl : l.length ≤ 4000000) : ∃ v w', (Builtin.append_ #[27, 27] 27 #[.slice (some ⟨w.heap.size, 0, none⟩) 0 0, u]).run Try.prog (w.alloc (.cells #[] 5)) = .ok v w' ∧
    RowIn (fun b => w.heap.size ≤ b ∧ b < w'.heap.size) w' v l ∧ Below w.heap.size w w' ∧ Built ByteR w' w.heap.size 5 v l ∧ ∃ A C, v = .slice A l.length C := by
  obtain ⟨A, C, rfl, h1, h2, -⟩ := hu.shape
  have hx : Below w.heap.size w (w.alloc (.cells #[] 5)) := (Below.refl _ _).alloc (Nat.le_refl _) _
  obtain ⟨v4, w4, hr4, hbu4, hg4, hb4, hat4⟩ := run_append_src (P := Try.prog) (w.alloc (.cells #[] 5)) w.heap.size 27 27 27 5 Try.underlying27 infoByte' _ _ (built_none w (Nat.le_refl _)) _ _ (BSrc.ofBytes Try.underlying27 (hu.below hx)) (by simp only [List.length_nil, Nat.zero_add]; omega) hx.size
  rw [List.nil_append] at hbu4
  obtain ⟨A5, C5, e5, -, -⟩ := hbu4.len
  exact ⟨v4, w4, hr4, hbu4.rowIn (fun b hb => hbu4.own_lt b hb), hx.trans hb4, hbu4, A5, C5, e5⟩
theorem app2 (w0 w : World) (v u : Value) (L l : List Nat) (hv : Built ByteR w w0.heap.size 5 v L) (h0 : Below w0.heap.size w0 w) (hu : Bytes w u l) (hl : L.length + l.length ≤ 4000000) : ∃ v' w', (Builtin.append_ #[27, 27] 27 #[v, u]).run Try.prog w = .ok v' w' ∧
    RowIn (fun b => w0.heap.size ≤ b ∧ b < w'.heap.size) w' v' (L ++ l) ∧ Below w0.heap.size w0 w' ∧ ∃ A C, v' = .slice A (L ++ l).length C := by
  obtain ⟨A, C, rfl, h1, h2, -⟩ := hu.shape
  obtain ⟨v4, w4, hr4, hbu4, hg4, hb4, hat4⟩ := run_append_src (P := Try.prog) w w0.heap.size 27 27 27 5 Try.underlying27 infoByte' _ _ hv _ _ (BSrc.ofBytes Try.underlying27 hu) (by omega) h0.size
  obtain ⟨A5, C5, e5, -, -⟩ := hbu4.len
  exact ⟨v4, w4, hr4, hbu4.rowIn (fun b hb => hbu4.own_lt b hb), h0.trans hb4, A5, C5, e5⟩
theorem below_row {R : Nat → Prop} {w w' : World} {v : Value} {l : List Nat} (h : RowIn R w v l) (hb : Below w.heap.size w w') : RowIn R w' v l := ⟨h.1.below hb, h.2⟩
/-- in the midst of a write: i sides are done -/
def Mid (w : World) (G0 : Nat → Prop) (r : Nat) (t : St) (l : List Nat) (sw : Bool) (i : Nat) (wr : World) : Prop := ∃ G V s, On w G0 wr G r V s ∧ s.down = false ∧ s.upto 2000000 ∧ s.fuse ≤ 9223372036854775807 ∧
  ((i = 0 ∧ s = t) ∨ (i = 1 ∧ goes t.s0 t.fuse = false ∧ s = t.stepN 0 l sw) ∨ (i = 2 ∧ goes t.s0 t.fuse = false ∧ goes (t.stepN 0 l sw).s1 (t.stepN 0 l sw).fuse = false ∧ s = (t.stepN 0 l sw).stepN 1 l sw))
theorem step_upto0 {s : St} (h : s.upto 1000000) {l : List Nat} (hl : l.length ≤ 1000) (sw : Bool) (i : Nat) : (s.stepN i l sw).upto 1001000 := by
  unfold St.stepN
  split
  · exact ⟨did_upto h.1 _ hl _, ⟨Nat.le_trans h.2.1 (by omega), Nat.le_trans h.2.2 (by omega)⟩⟩
  · exact ⟨⟨Nat.le_trans h.1.1 (by omega), Nat.le_trans h.1.2 (by omega)⟩, did_upto h.2 _ hl _⟩
theorem step_upto1 {s : St} (h : s.upto 1001000) {l : List Nat} (hl : l.length ≤ 1000) (sw : Bool) (i : Nat) : (s.stepN i l sw).upto 2000000 := by
  unfold St.stepN
  split
  · exact ⟨by have := did_upto h.1 s.fuse hl sw; exact ⟨Nat.le_trans this.1 (by omega), Nat.le_trans this.2 (by omega)⟩, ⟨Nat.le_trans h.2.1 (by omega), Nat.le_trans h.2.2 (by omega)⟩⟩
  · exact ⟨⟨Nat.le_trans h.1.1 (by omega), Nat.le_trans h.1.2 (by omega)⟩, by have := did_upto h.2 s.fuse hl sw; exact ⟨Nat.le_trans this.1 (by omega), Nat.le_trans this.2 (by omega)⟩⟩
theorem Mid.mk1 {w : World} {G0 : Nat → Prop} {r : Nat} {t s s' : St} {l : List Nat} {sw : Bool} {wr : World} {G : Nat → Prop} {V : Nat → Value} (hx : On w G0 wr G r V s') (e : s.stepN 0 l sw = s') (HS : s = t) (hg : goes s.s0 s.fuse = false) (hd : s'.down = false) (ht : t.upto 1000000) (hl : l.length ≤ 1000) (hz : s'.fuse ≤ 9223372036854775807) : Mid w G0 r t l sw 1 wr := by
  subst HS
  exact ⟨G, V, s', hx, hd, e ▸ upto_mono (step_upto0 ht hl sw 0) (by omega), hz, .inr (.inl ⟨rfl, hg, e.symm⟩)⟩
theorem Mid.mk2 {w : World} {G0 : Nat → Prop} {r : Nat} {t s s' : St} {l : List Nat} {sw : Bool} {wr : World} {G : Nat → Prop} {V : Nat → Value} (hx : On w G0 wr G r V s') (e : s.stepN 1 l sw = s') (HS : goes t.s0 t.fuse = false ∧ s = t.stepN 0 l sw) (hg : goes s.s1 s.fuse = false) (hd : s'.down = false) (ht : t.upto 1000000) (hl : l.length ≤ 1000) (hz : s'.fuse ≤ 9223372036854775807) : Mid w G0 r t l sw 2 wr := by
  obtain ⟨h0, HS⟩ := HS
  subst HS
  exact ⟨G, V, s', hx, hd, e ▸ step_upto1 (step_upto0 ht hl sw 0) hl sw 1, hz, .inr (.inr ⟨rfl, h0, hg, e.symm⟩)⟩
def WritePost (w : World) (G : Nat → Prop) (r : Nat) (t : St) (l : List Nat) (sw : Bool) (e : Ending) (w' : World) : Prop := e = .returned (.int .i64 (t.writeE)) ∧ ∃ G', RTp TT w' G' r (t.write l sw) ∧ Turned G w w' ∧ Grown G G' w
set_option maxHeartbeats 1000000 in
theorem refWrite_down {w : World} {G : Nat → Prop} {r : Nat} {t : St} (h : RTp TT w G r t) (ht : t.upto 1000000) (hz : t.fuse ≤ 9223372036854775807) (l : List Nat) (u : Value) (hu : RowIn (fun b => ¬ G b) w u l) (hl : l.length ≤ 1000) (sw : Bool) (hd : t.down = true) :
    Calls Try.prog 10 #[.pointer (some ⟨r, 0, none⟩), u, .bool sw] w (WritePost w G r t l sw) := by
  obtain ⟨A0, C0, rfl, -, -, -⟩ := hu.1.shape
  obtain ⟨V, h⟩ := h
  have c11 : w.cell? ⟨r, 11, none⟩ = some (.bool t.down) := h.cell (i := 11) (by omega)
  rw [hd] at c11
  have HW := Lib.hid (write_down hd l sw)
  have H := Lib.hid h
  clear hd h hu
  go_enter Try.func10, Try.ntmps10
  go_wp2
  go_ret
  exact ⟨by rw [HW.out.2]; rfl, by rw [HW.out.1]; exact ⟨G, ⟨V, H.out⟩, Turned.refl _ _, Grown.refl _ _⟩⟩
set_option maxHeartbeats 1000000 in
theorem refWrite_lost {w : World} {G : Nat → Prop} {r : Nat} {t : St} (h : RTp TT w G r t) (ht : t.upto 1000000) (hz : t.fuse ≤ 9223372036854775807) (l : List Nat) (u : Value) (hu : RowIn (fun b => ¬ G b) w u l) (hl : l.length ≤ 1000) (sw : Bool) (hd : t.down = false) (hb : t.s0.lost = true ∧ t.s1.lost = true) :
    Calls Try.prog 10 #[.pointer (some ⟨r, 0, none⟩), u, .bool sw] w (WritePost w G r t l sw) := by
  obtain ⟨A0, C0, rfl, -, -, -⟩ := hu.1.shape
  obtain ⟨V, h⟩ := h
  have c11 : w.cell? ⟨r, 11, none⟩ = some (.bool t.down) := h.cell (i := 11) (by omega)
  rw [hd] at c11
  have c4 : w.cell? ⟨r, 4, none⟩ = some (.bool t.s0.lost) := h.cell (i := 4) (by omega)
  have c9 : w.cell? ⟨r, 9, none⟩ = some (.bool t.s1.lost) := h.cell (i := 9) (by omega)
  rw [hb.1] at c4
  rw [hb.2] at c9
  have HW := Lib.hid (write_lost hd hb l sw)
  have H := Lib.hid h
  clear hd h hu hb
  go_enter Try.func10, Try.ntmps10
  go_wp2
  go_ret
  exact ⟨by rw [HW.out.2]; rfl, by rw [HW.out.1]; exact ⟨G, ⟨V, H.out⟩, Turned.refl _ _, Grown.refl _ _⟩⟩
set_option maxHeartbeats 8000000 in
theorem refWrite_go {w : World} {G : Nat → Prop} {r : Nat} {t : St} (h : RTp TT w G r t) (ht : t.upto 1000000) (hz : t.fuse ≤ 9223372036854775807) (l : List Nat) (u : Value) (hu : RowIn (fun b => ¬ G b) w u l) (hl : l.length ≤ 1000) (sw : Bool) (hd : t.down = false) (hb : ¬ (t.s0.lost = true ∧ t.s1.lost = true)) :
    Calls Try.prog 10 #[.pointer (some ⟨r, 0, none⟩), u, .bool sw] w (WritePost w G r t l sw) := by
  obtain ⟨A0, C0, rfl, -, -, -⟩ := hu.1.shape
  obtain ⟨V, h⟩ := h
  have c11 : w.cell? ⟨r, 11, none⟩ = some (.bool t.down) := h.cell (i := 11) (by omega)
  rw [hd] at c11
  have c4 : w.cell? ⟨r, 4, none⟩ = some (.bool t.s0.lost) := h.cell (i := 4) (by omega)
  have c9 : w.cell? ⟨r, 9, none⟩ = some (.bool t.s1.lost) := h.cell (i := 9) (by omega)
  have hpick : (t.s0.lost && t.s1.lost) = false := by
    cases h1 : t.s0.lost
    · rfl
    · cases h2 : t.s1.lost
      · rfl
      · exact absurd ⟨h1, h2⟩ hb
  have HM0 := Lib.hid (show Mid w G r t l sw 0 w from ⟨G, V, t, h.on, hd, upto_mono ht (by omega), hz, .inl ⟨rfl, rfl⟩⟩)
  have HD := Lib.hid hd
  have HBB := Lib.hid hb
  have HT := Lib.hid ht
  have HLL := Lib.hid hl
  have HU := Lib.hid (fun w' (q : Turned G w w') => hu.turned q)
  obtain ⟨x0, hx0⟩ : ∃ x, t.s0.lost = x := ⟨_, rfl⟩
  obtain ⟨x1, hx1⟩ : ∃ x, t.s1.lost = x := ⟨_, rfl⟩
  rw [hx0] at c4 hpick
  rw [hx1] at c9 hpick
  clear h hd hb ht hl hu hx0 hx1 hz
  go_enter Try.func10, Try.ntmps10
  obtain ⟨rfl⟩ | ⟨rfl, rfl⟩ : x0 = false ∨ (x0 = true ∧ x1 = false) := by cases x0 <;> simp_all
  all_goals
    go_wp2
    clear c4 c9 c11 hpick
    obtain ⟨N0, hN0⟩ : ∃ n, l.length = n := ⟨_, rfl⟩
    rw [hN0] at HU ⊢
    have HN0 := Lib.hid hN0
    clear hN0
    go_loopg [7] 2 (fun k c wr => ∃ i : Nat, i + k = 2 ∧ c = .int .i64 i ∧ Mid w G r t l sw i wr)
    case atStart => exact ⟨0, by omega, rfl, HM0.out⟩
    case round =>
      obtain ⟨i, hik, rfl, hmid⟩ := hrel
      rcases (by omega : i = 0 ∨ i = 1 ∨ i = 2) with rfl | rfl | rfl
      · obtain ⟨G1, V1, s, hon, hsd, hsu, hsz, hs⟩ := hmid
        have HS := Lib.hid (show s = t by rcases hs with q | q | q; exact q.2; omega; omega)
        clear hs
        have d4 : wr.cell? ⟨r, 4, none⟩ = some (.bool s.s0.lost) := hon.1.cell (i := 4) (by omega)
        have d10 : wr.cell? ⟨r, 10, none⟩ = some (.int .i64 s.fuse) := hon.1.cell (i := 10) (by omega)
        have HO := Lib.hid hon
        have HSD := Lib.hid hsd
        have HSU := Lib.hid hsu
        have HSZ := Lib.hid hsz
        clear hon hsd hsu hsz
        by_cases hlo : s.s0.lost = true
        · have HQ := Lib.hid (stepN_lost0 hlo HSD.out l sw)
          rw [hlo] at d4
          clear hlo
          go_wp2
          go_roundg (1 - 0)
          case measure => omega
          case rel => exact ⟨1, by omega, by go_num, Mid.mk1 HO.out (by rw [HQ.out.1]) HS.out HQ.out.2 HSD.out HT.out HLL.out HSZ.out⟩
        have hlo' : s.s0.lost = false := by simpa using hlo
        rw [hlo'] at d4
        by_cases hf : s.fuse = 0
        · have HQ := Lib.hid (stepN_goes0 hlo' hf l sw)
          rw [hf] at d10
          obtain ⟨v5, w5, hr5, hv5, hb5, hbu5, A5, C5, e5⟩ := app1 wr (.slice A0 N0 C0) l (HU.out _ HO.out.2.1) (by have := HLL.out; omega)
          rw [HN0.out] at e5
          subst e5
          have HR5 := Lib.hid hr5
          have ho5 := HO.out.news hb5
          have HV5 := Lib.hid (HO.out.new_row hv5)
          have HO5 := Lib.hid ho5
          have e11 := ho5.1.cell (i := 11) (by omega)
          have e2 := ho5.1.cell (i := 2) (by omega)
          have e3 := ho5.1.cell (i := 3) (by omega)
          have e1 := ho5.1.cell (i := 1) (by omega)
          have f11 := ho5.1.free 11
          have f2 := ho5.1.free 2
          have f3 := ho5.1.free 3
          have f1 := ho5.1.free 1
          clear hr5 hv5 hb5 ho5 hlo hlo' hf hbu5
          go_wp2_with (at_builtin; refine Lib.wpList_append_run _ rfl (.tmp 50) (.tmp 51) _ _ rfl _ _ rfl rfl _ _ HR5.out ?_)
          go_ret
          have hx := (((HO5.out.down true).wet0 true).swap0 sw).l0 _ l (((HV5.out.set _ _ (fun q => q.2 rfl)).set _ _ (fun q => q.2 rfl)).set _ _ (fun q => q.2 rfl))
          have hw := write_first HD.out HBB.out (HS.out ▸ HQ.out.2) l sw
          exact ⟨by rw [hw.2]; rfl, by rw [hw.1, ← HS.out, HQ.out.1]; exact hx.done⟩
        rcases (by omega : 0 < s.fuse ∨ s.fuse < 0) with hp | hp
        · have hp0 : (s.fuse == 0) = false := by rw [beq_eq_false_iff_ne]; omega
          have hp1 : decide (0 < s.fuse) = true := by simp; omega
          have hz1 := HSZ.out
          have hz2 : s.fuse - 1 ≤ 9223372036854775807 := by omega
          have HP := Lib.hid hp
          have HL0 := Lib.hid hlo'
          have f10 := HO.out.1.free 10
          obtain ⟨z, hz⟩ : ∃ z, s.fuse = z := ⟨_, rfl⟩
          have HO1 := Lib.hid (HO.out.fuse (s.fuse - 1))
          rw [hz] at d10 hp0 hp1 hz1 hp HO1 hz2
          have HZ2 := Lib.hid hz2
          clear hz2
          have HZ := Lib.hid hz
          clear hlo hlo' hf hz
          go_upto_region 15 with (fail)
          obtain ⟨wz, hwz⟩ : ∃ wz, wz = wr.setCell ⟨r, 10, none⟩ (.int .i64 (z - 1)) := ⟨_, rfl⟩
          rw [← hwz] at HO1 ⊢
          clear hwz
          clear d4 d10 f10 hp0 hp1
          cases sw
          · have HQ := Lib.hid (put0_pos_app HL0.out HSD.out HP.out l)
            obtain ⟨AB, CB, eB, -, -, -⟩ := (HO1.out.1.rows 0 (by omega)).1.shape
            obtain ⟨NB, hNB⟩ : ∃ n, s.s0.b.length = n := ⟨_, rfl⟩
            have hrow : RowIn (fun b => G1 b ∧ b ≠ r) wz (V1 0) s.s0.b := HO1.out.1.rows 0 (by omega)
            have eB : V1 0 = .slice AB NB CB := hNB ▸ eB
            have d0 : wz.cell? ⟨r, 0, none⟩ = some (V1 0) := HO1.out.1.cell (i := 0) (by omega)
            rw [eB] at hrow d0
            obtain ⟨v5, w5, hr5, hv5, hb5, hbu5, A5, C5, e5⟩ := app1 wz (.slice AB NB CB) s.s0.b hrow.1 (by have := HSU.out.1.1; omega)
            obtain ⟨v6, w6, hr6, hv6, hb6, A6, C6, e6⟩ := app2 wz w5 v5 (.slice A0 N0 C0) s.s0.b l hbu5 hb5 ((HU.out _ HO1.out.2.1).below hb5) (by have := HSU.out.1.1; have := HLL.out; omega)
            obtain ⟨N6, hN6⟩ : ∃ n, (s.s0.b ++ l).length = n := ⟨_, rfl⟩
            rw [hN6] at e6
            subst e6
            have HR5 := Lib.hid hr5
            have HR6 := Lib.hid hr6
            have ho6 := HO1.out.news hb6
            have HV6 := Lib.hid (HO1.out.new_row hv6)
            have HO6 := Lib.hid ho6
            have d1 : (wz.alloc (.cells #[] 5)).cell? ⟨r, 0, none⟩ = some (.slice AB NB CB) := below_cell ((Below.refl _ _).alloc (Nat.le_refl _) _) _ _ d0
            have e0 := ho6.1.cell (i := 0) (by omega)
            have f0 := ho6.1.free 0
            clear hr5 hv5 hb5 ho6 hbu5 hr6 hv6 hb6 hN6 hNB hrow eB e5 d0
            go_wp2_with (first
              | (at_builtin; refine Lib.wpList_append_run _ rfl (.tmp 81) (.tmp 85) _ _ rfl _ _ rfl rfl _ _ HR5.out ?_)
              | (at_builtin; refine Lib.wpList_append_run _ rfl (.tmp 86) (.tmp 87) _ _ rfl _ _ rfl rfl _ _ HR6.out ?_))
            have hx := HO6.out.b0 _ (s.s0.b ++ l) HV6.out
            go_roundg (1 - 0)
            case measure => omega
            case rel => exact ⟨1, by omega, by go_num, Mid.mk1 hx (by rw [HQ.out.1]; rw [HZ.out]) HS.out HQ.out.2 HSD.out HT.out HLL.out HZ2.out⟩
          · have HQ := Lib.hid (put0_pos_rep HL0.out HSD.out HP.out l)
            obtain ⟨v5, w5, hr5, hv5, hb5, hbu5, A5, C5, e5⟩ := app1 wz (.slice A0 N0 C0) l (HU.out _ HO1.out.2.1) (by have := HLL.out; omega)
            rw [HN0.out] at e5
            subst e5
            have HR5 := Lib.hid hr5
            have ho5 := HO1.out.news hb5
            have HV5 := Lib.hid (HO1.out.new_row hv5)
            have HO5 := Lib.hid ho5
            have e0 := ho5.1.cell (i := 0) (by omega)
            have f0 := ho5.1.free 0
            clear hr5 hv5 hb5 ho5 hbu5
            go_wp2_with (at_builtin; refine Lib.wpList_append_run _ rfl (.tmp 75) (.tmp 76) _ _ rfl _ _ rfl rfl _ _ HR5.out ?_)
            have hx := HO5.out.b0 _ l HV5.out
            go_roundg (1 - 0)
            case measure => omega
            case rel => exact ⟨1, by omega, by go_num, Mid.mk1 hx (by rw [HQ.out.1]; rw [HZ.out]) HS.out HQ.out.2 HSD.out HT.out HLL.out HZ2.out⟩
        · have hp0 : (s.fuse == 0) = false := by rw [beq_eq_false_iff_ne]; omega
          have hp1 : decide (0 < s.fuse) = false := by simp; omega
          have hz1 := HSZ.out
          have HP := Lib.hid hp
          have HL0 := Lib.hid hlo'
          have f10 := HO.out.1.free 10
          obtain ⟨z, hz⟩ : ∃ z, s.fuse = z := ⟨_, rfl⟩
          have HO1 := Lib.hid HO.out
          rw [hz] at d10 hp0 hp1 hz1 hp
          have HZ := Lib.hid hz
          clear hlo hlo' hf hz
          go_upto_region 15 with (fail)
          clear d4 d10 f10 hp0 hp1
          cases sw
          · have HQ := Lib.hid (put0_neg_app HL0.out HSD.out HP.out l)
            obtain ⟨AB, CB, eB, -, -, -⟩ := (HO1.out.1.rows 0 (by omega)).1.shape
            obtain ⟨NB, hNB⟩ : ∃ n, s.s0.b.length = n := ⟨_, rfl⟩
            have hrow : RowIn (fun b => G1 b ∧ b ≠ r) wr (V1 0) s.s0.b := HO1.out.1.rows 0 (by omega)
            have eB : V1 0 = .slice AB NB CB := hNB ▸ eB
            have d0 : wr.cell? ⟨r, 0, none⟩ = some (V1 0) := HO1.out.1.cell (i := 0) (by omega)
            rw [eB] at hrow d0
            obtain ⟨v5, w5, hr5, hv5, hb5, hbu5, A5, C5, e5⟩ := app1 wr (.slice AB NB CB) s.s0.b hrow.1 (by have := HSU.out.1.1; omega)
            obtain ⟨v6, w6, hr6, hv6, hb6, A6, C6, e6⟩ := app2 wr w5 v5 (.slice A0 N0 C0) s.s0.b l hbu5 hb5 ((HU.out _ HO1.out.2.1).below hb5) (by have := HSU.out.1.1; have := HLL.out; omega)
            obtain ⟨N6, hN6⟩ : ∃ n, (s.s0.b ++ l).length = n := ⟨_, rfl⟩
            rw [hN6] at e6
            subst e6
            have HR5 := Lib.hid hr5
            have HR6 := Lib.hid hr6
            have ho6 := HO1.out.news hb6
            have HV6 := Lib.hid (HO1.out.new_row hv6)
            have HO6 := Lib.hid ho6
            have d1 : (wr.alloc (.cells #[] 5)).cell? ⟨r, 0, none⟩ = some (.slice AB NB CB) := below_cell ((Below.refl _ _).alloc (Nat.le_refl _) _) _ _ d0
            have e0 := ho6.1.cell (i := 0) (by omega)
            have f0 := ho6.1.free 0
            clear hr5 hv5 hb5 ho6 hbu5 hr6 hv6 hb6 hN6 hNB hrow eB e5 d0
            go_wp2_with (first
              | (at_builtin; refine Lib.wpList_append_run _ rfl (.tmp 81) (.tmp 85) _ _ rfl _ _ rfl rfl _ _ HR5.out ?_)
              | (at_builtin; refine Lib.wpList_append_run _ rfl (.tmp 86) (.tmp 87) _ _ rfl _ _ rfl rfl _ _ HR6.out ?_))
            have hx := HO6.out.b0 _ (s.s0.b ++ l) HV6.out
            go_roundg (1 - 0)
            case measure => omega
            case rel => exact ⟨1, by omega, by go_num, Mid.mk1 hx (by rw [HQ.out.1]) HS.out HQ.out.2 HSD.out HT.out HLL.out HSZ.out⟩
          · have HQ := Lib.hid (put0_neg_rep HL0.out HSD.out HP.out l)
            obtain ⟨v5, w5, hr5, hv5, hb5, hbu5, A5, C5, e5⟩ := app1 wr (.slice A0 N0 C0) l (HU.out _ HO1.out.2.1) (by have := HLL.out; omega)
            rw [HN0.out] at e5
            subst e5
            have HR5 := Lib.hid hr5
            have ho5 := HO1.out.news hb5
            have HV5 := Lib.hid (HO1.out.new_row hv5)
            have HO5 := Lib.hid ho5
            have e0 := ho5.1.cell (i := 0) (by omega)
            have f0 := ho5.1.free 0
            clear hr5 hv5 hb5 ho5 hbu5
            go_wp2_with (at_builtin; refine Lib.wpList_append_run _ rfl (.tmp 75) (.tmp 76) _ _ rfl _ _ rfl rfl _ _ HR5.out ?_)
            have hx := HO5.out.b0 _ l HV5.out
            go_roundg (1 - 0)
            case measure => omega
            case rel => exact ⟨1, by omega, by go_num, Mid.mk1 hx (by rw [HQ.out.1]) HS.out HQ.out.2 HSD.out HT.out HLL.out HSZ.out⟩
      · obtain ⟨G1, V1, s, hon, hsd, hsu, hsz, hs⟩ := hmid
        have HS := Lib.hid (show goes t.s0 t.fuse = false ∧ s = t.stepN 0 l sw by rcases hs with q | q | q; omega; exact q.2; omega)
        clear hs
        have d4 : wr.cell? ⟨r, 9, none⟩ = some (.bool s.s1.lost) := hon.1.cell (i := 9) (by omega)
        have d10 : wr.cell? ⟨r, 10, none⟩ = some (.int .i64 s.fuse) := hon.1.cell (i := 10) (by omega)
        have HO := Lib.hid hon
        have HSD := Lib.hid hsd
        have HSU := Lib.hid hsu
        have HSZ := Lib.hid hsz
        clear hon hsd hsu hsz
        by_cases hlo : s.s1.lost = true
        · have HQ := Lib.hid (stepN_lost1 hlo HSD.out l sw)
          rw [hlo] at d4
          clear hlo
          go_wp2
          go_roundg (1 - 1)
          case measure => omega
          case rel => exact ⟨2, by omega, by go_num, Mid.mk2 HO.out (by rw [HQ.out.1]) HS.out HQ.out.2 HSD.out HT.out HLL.out HSZ.out⟩
        have hlo' : s.s1.lost = false := by simpa using hlo
        rw [hlo'] at d4
        by_cases hf : s.fuse = 0
        · have HQ := Lib.hid (stepN_goes1 hlo' hf l sw)
          rw [hf] at d10
          obtain ⟨v5, w5, hr5, hv5, hb5, hbu5, A5, C5, e5⟩ := app1 wr (.slice A0 N0 C0) l (HU.out _ HO.out.2.1) (by have := HLL.out; omega)
          rw [HN0.out] at e5
          subst e5
          have HR5 := Lib.hid hr5
          have ho5 := HO.out.news hb5
          have HV5 := Lib.hid (HO.out.new_row hv5)
          have HO5 := Lib.hid ho5
          have e11 := ho5.1.cell (i := 11) (by omega)
          have e7 := ho5.1.cell (i := 7) (by omega)
          have e8 := ho5.1.cell (i := 8) (by omega)
          have e6 := ho5.1.cell (i := 6) (by omega)
          have f11 := ho5.1.free 11
          have f7 := ho5.1.free 7
          have f8 := ho5.1.free 8
          have f6 := ho5.1.free 6
          clear hr5 hv5 hb5 ho5 hlo hlo' hf hbu5
          go_wp2_with (at_builtin; refine Lib.wpList_append_run _ rfl (.tmp 50) (.tmp 51) _ _ rfl _ _ rfl rfl _ _ HR5.out ?_)
          go_ret
          have hx := (((HO5.out.down true).wet1 true).swap1 sw).l1 _ l (((HV5.out.set _ _ (fun q => q.2 rfl)).set _ _ (fun q => q.2 rfl)).set _ _ (fun q => q.2 rfl))
          have hw := write_both HD.out HBB.out HS.out.1 l sw
          exact ⟨by rw [hw.2, if_pos (HS.out.2 ▸ HQ.out.2)]; rfl, by rw [hw.1, ← HS.out.2, HQ.out.1]; exact hx.done⟩
        rcases (by omega : 0 < s.fuse ∨ s.fuse < 0) with hp | hp
        · have hp0 : (s.fuse == 0) = false := by rw [beq_eq_false_iff_ne]; omega
          have hp1 : decide (0 < s.fuse) = true := by simp; omega
          have hz1 := HSZ.out
          have hz2 : s.fuse - 1 ≤ 9223372036854775807 := by omega
          have HP := Lib.hid hp
          have HL0 := Lib.hid hlo'
          have f10 := HO.out.1.free 10
          obtain ⟨z, hz⟩ : ∃ z, s.fuse = z := ⟨_, rfl⟩
          have HO1 := Lib.hid (HO.out.fuse (s.fuse - 1))
          rw [hz] at d10 hp0 hp1 hz1 hp HO1 hz2
          have HZ2 := Lib.hid hz2
          clear hz2
          have HZ := Lib.hid hz
          clear hlo hlo' hf hz
          go_upto_region 15 with (fail)
          obtain ⟨wz, hwz⟩ : ∃ wz, wz = wr.setCell ⟨r, 10, none⟩ (.int .i64 (z - 1)) := ⟨_, rfl⟩
          rw [← hwz] at HO1 ⊢
          clear hwz
          clear d4 d10 f10 hp0 hp1
          cases sw
          · have HQ := Lib.hid (put1_pos_app HL0.out HSD.out HP.out l)
            obtain ⟨AB, CB, eB, -, -, -⟩ := (HO1.out.1.rows 2 (by omega)).1.shape
            obtain ⟨NB, hNB⟩ : ∃ n, s.s1.b.length = n := ⟨_, rfl⟩
            have hrow : RowIn (fun b => G1 b ∧ b ≠ r) wz (V1 2) s.s1.b := HO1.out.1.rows 2 (by omega)
            have eB : V1 2 = .slice AB NB CB := hNB ▸ eB
            have d0 : wz.cell? ⟨r, 5, none⟩ = some (V1 2) := HO1.out.1.cell (i := 5) (by omega)
            rw [eB] at hrow d0
            obtain ⟨v5, w5, hr5, hv5, hb5, hbu5, A5, C5, e5⟩ := app1 wz (.slice AB NB CB) s.s1.b hrow.1 (by have := HSU.out.2.1; omega)
            obtain ⟨v6, w6, hr6, hv6, hb6, A6, C6, e6⟩ := app2 wz w5 v5 (.slice A0 N0 C0) s.s1.b l hbu5 hb5 ((HU.out _ HO1.out.2.1).below hb5) (by have := HSU.out.2.1; have := HLL.out; omega)
            obtain ⟨N6, hN6⟩ : ∃ n, (s.s1.b ++ l).length = n := ⟨_, rfl⟩
            rw [hN6] at e6
            subst e6
            have HR5 := Lib.hid hr5
            have HR6 := Lib.hid hr6
            have ho6 := HO1.out.news hb6
            have HV6 := Lib.hid (HO1.out.new_row hv6)
            have HO6 := Lib.hid ho6
            have d1 : (wz.alloc (.cells #[] 5)).cell? ⟨r, 5, none⟩ = some (.slice AB NB CB) := below_cell ((Below.refl _ _).alloc (Nat.le_refl _) _) _ _ d0
            have e0 := ho6.1.cell (i := 5) (by omega)
            have f0 := ho6.1.free 5
            clear hr5 hv5 hb5 ho6 hbu5 hr6 hv6 hb6 hN6 hNB hrow eB e5 d0
            go_wp2_with (first
              | (at_builtin; refine Lib.wpList_append_run _ rfl (.tmp 81) (.tmp 85) _ _ rfl _ _ rfl rfl _ _ HR5.out ?_)
              | (at_builtin; refine Lib.wpList_append_run _ rfl (.tmp 86) (.tmp 87) _ _ rfl _ _ rfl rfl _ _ HR6.out ?_))
            have hx := HO6.out.b1 _ (s.s1.b ++ l) HV6.out
            go_roundg (1 - 1)
            case measure => omega
            case rel => exact ⟨2, by omega, by go_num, Mid.mk2 hx (by rw [HQ.out.1]; rw [HZ.out]) HS.out HQ.out.2 HSD.out HT.out HLL.out HZ2.out⟩
          · have HQ := Lib.hid (put1_pos_rep HL0.out HSD.out HP.out l)
            obtain ⟨v5, w5, hr5, hv5, hb5, hbu5, A5, C5, e5⟩ := app1 wz (.slice A0 N0 C0) l (HU.out _ HO1.out.2.1) (by have := HLL.out; omega)
            rw [HN0.out] at e5
            subst e5
            have HR5 := Lib.hid hr5
            have ho5 := HO1.out.news hb5
            have HV5 := Lib.hid (HO1.out.new_row hv5)
            have HO5 := Lib.hid ho5
            have e0 := ho5.1.cell (i := 5) (by omega)
            have f0 := ho5.1.free 5
            clear hr5 hv5 hb5 ho5 hbu5
            go_wp2_with (at_builtin; refine Lib.wpList_append_run _ rfl (.tmp 75) (.tmp 76) _ _ rfl _ _ rfl rfl _ _ HR5.out ?_)
            have hx := HO5.out.b1 _ l HV5.out
            go_roundg (1 - 1)
            case measure => omega
            case rel => exact ⟨2, by omega, by go_num, Mid.mk2 hx (by rw [HQ.out.1]; rw [HZ.out]) HS.out HQ.out.2 HSD.out HT.out HLL.out HZ2.out⟩
        · have hp0 : (s.fuse == 0) = false := by rw [beq_eq_false_iff_ne]; omega
          have hp1 : decide (0 < s.fuse) = false := by simp; omega
          have hz1 := HSZ.out
          have HP := Lib.hid hp
          have HL0 := Lib.hid hlo'
          have f10 := HO.out.1.free 10
          obtain ⟨z, hz⟩ : ∃ z, s.fuse = z := ⟨_, rfl⟩
          have HO1 := Lib.hid HO.out
          rw [hz] at d10 hp0 hp1 hz1 hp
          have HZ := Lib.hid hz
          clear hlo hlo' hf hz
          go_upto_region 15 with (fail)
          clear d4 d10 f10 hp0 hp1
          cases sw
          · have HQ := Lib.hid (put1_neg_app HL0.out HSD.out HP.out l)
            obtain ⟨AB, CB, eB, -, -, -⟩ := (HO1.out.1.rows 2 (by omega)).1.shape
            obtain ⟨NB, hNB⟩ : ∃ n, s.s1.b.length = n := ⟨_, rfl⟩
            have hrow : RowIn (fun b => G1 b ∧ b ≠ r) wr (V1 2) s.s1.b := HO1.out.1.rows 2 (by omega)
            have eB : V1 2 = .slice AB NB CB := hNB ▸ eB
            have d0 : wr.cell? ⟨r, 5, none⟩ = some (V1 2) := HO1.out.1.cell (i := 5) (by omega)
            rw [eB] at hrow d0
            obtain ⟨v5, w5, hr5, hv5, hb5, hbu5, A5, C5, e5⟩ := app1 wr (.slice AB NB CB) s.s1.b hrow.1 (by have := HSU.out.2.1; omega)
            obtain ⟨v6, w6, hr6, hv6, hb6, A6, C6, e6⟩ := app2 wr w5 v5 (.slice A0 N0 C0) s.s1.b l hbu5 hb5 ((HU.out _ HO1.out.2.1).below hb5) (by have := HSU.out.2.1; have := HLL.out; omega)
            obtain ⟨N6, hN6⟩ : ∃ n, (s.s1.b ++ l).length = n := ⟨_, rfl⟩
            rw [hN6] at e6
            subst e6
            have HR5 := Lib.hid hr5
            have HR6 := Lib.hid hr6
            have ho6 := HO1.out.news hb6
            have HV6 := Lib.hid (HO1.out.new_row hv6)
            have HO6 := Lib.hid ho6
            have d1 : (wr.alloc (.cells #[] 5)).cell? ⟨r, 5, none⟩ = some (.slice AB NB CB) := below_cell ((Below.refl _ _).alloc (Nat.le_refl _) _) _ _ d0
            have e0 := ho6.1.cell (i := 5) (by omega)
            have f0 := ho6.1.free 5
            clear hr5 hv5 hb5 ho6 hbu5 hr6 hv6 hb6 hN6 hNB hrow eB e5 d0
            go_wp2_with (first
              | (at_builtin; refine Lib.wpList_append_run _ rfl (.tmp 81) (.tmp 85) _ _ rfl _ _ rfl rfl _ _ HR5.out ?_)
              | (at_builtin; refine Lib.wpList_append_run _ rfl (.tmp 86) (.tmp 87) _ _ rfl _ _ rfl rfl _ _ HR6.out ?_))
            have hx := HO6.out.b1 _ (s.s1.b ++ l) HV6.out
            go_roundg (1 - 1)
            case measure => omega
            case rel => exact ⟨2, by omega, by go_num, Mid.mk2 hx (by rw [HQ.out.1]) HS.out HQ.out.2 HSD.out HT.out HLL.out HSZ.out⟩
          · have HQ := Lib.hid (put1_neg_rep HL0.out HSD.out HP.out l)
            obtain ⟨v5, w5, hr5, hv5, hb5, hbu5, A5, C5, e5⟩ := app1 wr (.slice A0 N0 C0) l (HU.out _ HO1.out.2.1) (by have := HLL.out; omega)
            rw [HN0.out] at e5
            subst e5
            have HR5 := Lib.hid hr5
            have ho5 := HO1.out.news hb5
            have HV5 := Lib.hid (HO1.out.new_row hv5)
            have HO5 := Lib.hid ho5
            have e0 := ho5.1.cell (i := 5) (by omega)
            have f0 := ho5.1.free 5
            clear hr5 hv5 hb5 ho5 hbu5
            go_wp2_with (at_builtin; refine Lib.wpList_append_run _ rfl (.tmp 75) (.tmp 76) _ _ rfl _ _ rfl rfl _ _ HR5.out ?_)
            have hx := HO5.out.b1 _ l HV5.out
            go_roundg (1 - 1)
            case measure => omega
            case rel => exact ⟨2, by omega, by go_num, Mid.mk2 hx (by rw [HQ.out.1]) HS.out HQ.out.2 HSD.out HT.out HLL.out HSZ.out⟩
      · obtain ⟨G1, V1, s, hon, hsd, hsu, hsz, hs⟩ := hmid
        have HS := Lib.hid (show goes t.s0 t.fuse = false ∧ goes (t.stepN 0 l sw).s1 (t.stepN 0 l sw).fuse = false ∧ s = (t.stepN 0 l sw).stepN 1 l sw by rcases hs with q | q | q; omega; omega; exact q.2)
        have HO := Lib.hid hon
        clear hs hon
        go_wp2
        go_ret
        have hw := write_both HD.out HBB.out HS.out.1 l sw
        exact ⟨by rw [hw.2, HS.out.2.1]; rfl, by rw [hw.1, ← HS.out.2.2]; exact HO.out.done⟩
end Go.Proofs.Ytndponihilfidaa.Tape
