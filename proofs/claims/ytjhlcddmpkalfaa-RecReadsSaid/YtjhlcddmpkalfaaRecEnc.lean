/- The document's answer for records as bytes, as a walk. -/
import Derived.Test.YtjhlcddmpkalfaaRecRun
namespace Go.Proofs.Ytjhlcddmpkalfaa.Rec
set_option linter.unusedVariables false
open Go.ChangeShapes Go.WideShapes Go.ChangeAt Go.RowKit
open Go.Mem RecM
theorem row_cells (w : World) (c : Array Value) (T : TypeId) : ∀ i (h : i < c.size), (w.alloc (.cells c T)).cell? ⟨w.heap.size, i, none⟩ = some c[i] := by
  intro i hi
  have h := World.rowIs_alloc w c T (fun i => c.getD i undef) (fun i hi => by simp [Array.getD, hi])
  have := h.cell hi
  rw [this]
  simp [Array.getD, hi]
theorem kept_cell {S : Nat → Prop} {Ws w : World} {p : Nat} {o : Out} (h : Run S Ws p o w) {g i : Nat} {v : Value} (hg : S g) (hc : Ws.cell? ⟨g, i, none⟩ = some v) : w.cell? ⟨g, i, none⟩ = some v :=
  (World.cell?_of_block (w := Ws) (a := ⟨g, i, none⟩) (h.st g hg).2).trans hc
theorem encE_kind {r : RecD} (h : r.kind < 1) : encE r = 2 ∧ encB r = [] := by
  have : encE r = 2 := by unfold encE; rw [if_pos h]
  exact ⟨this, by unfold encB; rw [this]; rfl⟩
theorem encE_bad {r : RecD} (h : ¬ r.kind < 1) (hb : (out r).bad = true) : encE r = 2 ∧ encB r = [] := by
  have : encE r = 2 := by unfold encE; rw [if_neg h, if_pos hb]
  exact ⟨this, by unfold encB; rw [this]; rfl⟩
theorem encE_long {r : RecD} (h : ¬ r.kind < 1) (hb : (out r).bad = false) (hl : 8192 < (out r).l.length) : encE r = 4 ∧ encB r = [] := by
  have : encE r = 4 := by unfold encE; rw [if_neg h, if_neg (by rw [hb]; simp), if_pos hl]
  exact ⟨this, by unfold encB; rw [this]; rfl⟩
theorem encE_good {r : RecD} (h : ¬ r.kind < 1) (hb : (out r).bad = false) (hl : ¬ 8192 < (out r).l.length) : encE r = 0 ∧ encB r = (out r).l := by
  have : encE r = 0 := by unfold encE; rw [if_neg h, if_neg (by rw [hb]; simp), if_neg hl]
  exact ⟨this, by unfold encB; rw [if_pos this]⟩
theorem bytes_nil (w : World) : Bytes w (.slice none 0 0) [] := ⟨none, 0, 0, rfl, rfl, Nat.le_refl _, Nat.zero_le _, fun _ => rfl, fun i hi => absurd hi (by simp)⟩
theorem objs_keys {w : World} {v : Value} {L : List ObjD} (h : Objs w v L) : ∀ x ∈ L, KeyOk x.key := by
  intro x hx
  obtain ⟨i, hi, rfl⟩ := List.getElem_of_mem hx
  obtain ⟨_, _, _, _, _, _, _, _, h6⟩ := h
  obtain ⟨_, _, _, _, _, k⟩ := h6 i hi
  exact k.2.2.2.2.2.2.1
def Enced (W : World) (r : RecD) (e : Ending) (w' : World) : Prop := ∃ u, e = .returned (.tuple #[u, .int .i64 (encE r)]) ∧ Bytes w' u (encB r) ∧ Below W.heap.size W w'
set_option maxHeartbeats 4000000 in
theorem refEncode {W : World} {V : Value} {r : RecD} (h : RecV W V r) (hit : items r ≤ 10000) :
    Calls Try.prog 11 #[V] W (Enced W r) := by
  obtain ⟨As, Ao, Ad, Cs, Co, Cd, rfl, h⟩ := h
  unfold recVal
  obtain ⟨W1, hW1⟩ : ∃ W1, W.alloc (.cells #[.int .i64 r.kind, .int .i64 r.id, .int .i64 r.size, .string r.key, .slice As r.stripes.length Cs, .slice Ao r.objects.length Co, .slice Ad r.drives.length Cd] 26) = W1 := ⟨_, rfl⟩
  have hrc := row_cells W #[.int .i64 r.kind, .int .i64 r.id, .int .i64 r.size, .string r.key, .slice As r.stripes.length Cs, .slice Ao r.objects.length Co, .slice Ad r.drives.length Cd] 26
  have hbw : Below W.heap.size W W1 := by rw [← hW1]; exact (Below.refl _ _).alloc (Nat.le_refl _) _
  have hsz : W1.heap.size = W.heap.size + 1 := by rw [← hW1]; simp
  rw [hW1] at hrc
  have k0 := hrc 0 (by simp)
  have HC1 := Lib.hid (hrc 1 (by simp))
  have HC2 := Lib.hid (hrc 2 (by simp))
  have HC3 := Lib.hid (hrc 3 (by simp))
  have HC4 := Lib.hid (hrc 4 (by simp))
  have HC5 := Lib.hid (hrc 5 (by simp))
  have HC6 := Lib.hid (hrc 6 (by simp))
  have HR := Lib.hid (h.below hbw)
  have HBW := Lib.hid hbw
  have HSZ := Lib.hid hsz
  have hS : ∀ b, b < W1.heap.size → b < W.heap.size + 1 := fun b q => by omega
  have hg0 : W.heap.size < W.heap.size + 1 := by omega
  have hrf : Run (fun b => b < W.heap.size + 1) W1 (W.heap.size + 1) o0 ((W.alloc (.cells #[.int .i64 r.kind, .int .i64 r.id, .int .i64 r.size, .string r.key, .slice As r.stripes.length Cs, .slice Ao r.objects.length Co, .slice Ad r.drives.length Cd] 26)).alloc (.cells #[.slice none 0 0, .bool false] 51)) := by
    have := Run.fresh W1
    rw [hsz] at this
    rw [hW1]
    exact this
  have HRF := Lib.hid hrf
  have i0 := h.k0
  have i1 := h.k1
  have i2 := h.k2
  have HK3 := Lib.hid h.k3
  obtain ⟨u1, u2, u3⟩ := upKey_len r
  have HKL := Lib.hid (head_len r)
  have HIT := Lib.hid hit
  have hitb : r.stripes.length + locsSum r.stripes + r.objects.length + r.drives.length ≤ 10000 := by unfold items base at hit; omega
  simp only [List.getElem_toArray, List.getElem_cons_zero, List.getElem_cons_succ] at k0 HC1 HC2 HC3 HC4 HC5 HC6
  have i0c := i0
  obtain ⟨i0a, i0b⟩ := i0c
  clear hrc hbw h hit hrf
  by_cases hk : r.kind < 1
  · have HE := Lib.hid (encE_kind hk)
    have hd : decide (r.kind < 1) = true := by simpa using hk
    rw [← hW1] at k0
    have HBW2 := Lib.hid (HRF.out.bel (B := W.heap.size) (fun b q => by omega))
    have HB3 := Lib.hid (HBW.out.trans HBW2.out)
    clear hk hW1 hsz
    go_enter Try.func11, Try.ntmps11
    go_wp2
    go_ret2
    exact ⟨.slice none 0 0, by rw [HE.out.1]; rfl, by rw [HE.out.2]; exact bytes_nil _, HB3.out⟩
  · have HKD := Lib.hid hk
    have hd : decide (r.kind < 1) = false := by simpa using hk
    have hd2 : ¬ r.kind < 1 := hk
    rw [← hW1] at k0
    clear hk hW1 hsz
    go_enter Try.func11, Try.ntmps11
    go_wp2_with fail
    refine (Run.num HRF.out r.kind 1 5 i0 (by omega) (by omega) (by omega) (by unfold Fine; show 0 ≤ _; omega)).mono ?_
    rintro _ w1 ⟨rfl, h1⟩
    have H1 := Lib.hid h1
    clear k0
    have k0 := kept_cell h1 hg0 HC1.out
    clear h1
    go_wp2_with fail
    refine (Run.num H1.out r.id 4 1073741824 i1 (by omega) (by omega) (by omega) (by unfold Fine; omega)).mono ?_
    rintro _ w2 ⟨rfl, h2⟩
    have H2 := Lib.hid h2
    clear k0
    have k0 := kept_cell h2 hg0 HC2.out
    clear h2
    go_wp2_with fail
    refine (Run.num H2.out r.size 4 1073741824 i2 (by omega) (by omega) (by omega) (by unfold Fine; unfold int1 at u2; omega)).mono ?_
    rintro _ w3 ⟨rfl, h3⟩
    have H3 := Lib.hid (show Run (fun b => b < W.heap.size + 1) W1 (W.heap.size + 1) (upKey r) w3 from h3)
    clear k0
    have k0 := kept_cell h3 hg0 HC3.out
    clear h3
    go_wp2_with fail
    refine (Run.key H3.out r.key HK3.out (by omega)).mono ?_
    rintro _ w4 ⟨rfl, h4⟩
    have H4 := Lib.hid h4
    clear k0
    have k0 := kept_cell h4 hg0 HC4.out
    clear h4
    go_wp2_with fail
    refine (Run.stps H4.out hS (Below.refl _ _) r.stripes _ HR.out.s (by have := HKL.out.1; have := HK3.out; unfold KeyOk at this; have := HIT.out; unfold items base at this; unfold Fine; omega)).mono ?_
    rintro _ w5 ⟨rfl, h5⟩
    have H5 := Lib.hid (show Run (fun b => b < W.heap.size + 1) W1 (W.heap.size + 1) (head r o0) w5 from h5)
    clear k0
    have k0 := kept_cell h5 hg0 HC5.out
    clear h5
    have hul := upObjs_len HIT.out HK3.out
    obtain ⟨ul1, ul2⟩ := hul
    have hol := HR.out.lo
    unfold LenOk at hol
    go_wp2_with fail
    refine (Run.num H5.out (r.objects.length : Nat) 2 65535 ⟨by omega, by omega⟩ (by omega) (by omega) (by omega) (by unfold Fine; omega)).mono ?_
    rintro _ w6 ⟨rfl, h6⟩
    have H6 := Lib.hid (show Run (fun b => b < W.heap.size + 1) W1 (W.heap.size + 1) (each obj (r.objects.take 0) (upObjs r)) w6 from h6)
    clear k0 h6
    obtain ⟨NO, hNO⟩ : ∃ NO, r.objects.length = NO := ⟨_, rfl⟩
    have HNO := Lib.hid hNO
    rw [hNO] at hol HC5 hitb
    clear hNO
    go_wp2
    go_loopw [5] (fun c wr => ∃ k : Nat, k ≤ NO ∧ c = .int .i64 k ∧ Run (fun b => b < W.heap.size + 1) W1 (W.heap.size + 1) (each obj (r.objects.take k) (upObjs r)) wr) (fun c _ => NO - (intOf c).toNat)
    case atStart => exact ⟨0, Nat.zero_le _, rfl, H6.out⟩
    case round =>
      obtain ⟨k, hk, rfl, hrun⟩ := hrel
      have HRN := Lib.hid hrun
      have k5 := kept_cell hrun hg0 HC5.out
      obtain ⟨Ax, Cx, -, kb, -, hpl⟩ := hrun.open
      by_cases hlt : k < NO
      · have hk' : k < r.objects.length := by rw [HNO.out]; exact hlt
        cases hb : (each obj (r.objects.take k) (upObjs r)).bad with
        | false =>
          rw [hb] at kb
          have hgood := mid_good HIT.out hb
          have HN := Lib.hid (each_step r.objects (upObjs r) hk' hb)
          obtain ⟨b, oo, A', C', rfl, hc0, hc1, hc2, hc3, hst, z1, z2, z3, -⟩ := HR.out.o.at hk'
          have hos := obj_steps HIT.out (List.getElem_mem hk') z3 hgood
          have hbel := hrun.bel hS
          obtain ⟨x, hx⟩ : ∃ x, r.objects[k] = x := ⟨_, rfl⟩
          rw [hx] at hc0 hc1 hc2 hc3 hst z1 z2 z3 hos HN
          have g0 := below_cell hbel _ _ hc0
          have g1 := below_cell hbel _ _ hc1
          have g2 := below_cell hbel _ _ hc2
          have g3 := below_cell hbel _ _ hc3
          obtain ⟨ok, hok⟩ : ∃ ok, each obj (r.objects.take k) (upObjs r) = ok := ⟨_, rfl⟩
          rw [hok] at HN hos HRN hgood
          obtain ⟨s1, s2, s3⟩ := hos
          have HST := Lib.hid hst
          have Z3 := Lib.hid z3
          have q1 : (0 : Int) ≤ (k : Int) := by omega
          have q2 : (k : Int) < (NO : Int) := by omega
          clear hb hx hk' hc0 hc1 hc2 hc3 hst hok hbel hrun z3
          go_wp2_with fail
          have HK5 := Lib.hid k5
          have HBX := Lib.hid (show Below wr.heap.size wr (wr.alloc (.cells #[.string x.key, .int .i64 x.id, .int .i64 x.size, .slice A' x.stripes.length C'] 44)) from (Below.refl _ _).alloc (Nat.le_refl _) _)
          have HXC := Lib.hid (row_cells wr #[.string x.key, .int .i64 x.id, .int .i64 x.size, .slice A' x.stripes.length C'] 44)
          have HX := Lib.hid (HRN.out.beside HBX.out (g := wr.heap.size) (Nat.le_refl _) (by simp))
          have HX1 := Lib.hid (HRN.out.below HBX.out)
          clear k5 kb hpl g0 g1 g2 g3 HC5
          refine (Run.key HX.out x.key Z3.out (by omega)).mono ?_
          rintro _ v2 ⟨rfl, m2⟩
          have M2 := Lib.hid m2
          have j1 := kept_cell m2 (.inr rfl) (HXC.out 1 (by simp))
          clear m2
          go_wp2_with fail
          refine (Run.num M2.out x.id 4 1073741824 z1 (by omega) (by omega) (by omega) (by unfold Fine; omega)).mono ?_
          rintro _ v3 ⟨rfl, m3⟩
          have M3 := Lib.hid m3
          clear j1
          have j1 := kept_cell m3 (.inr rfl) (HXC.out 2 (by simp))
          clear m3
          go_wp2_with fail
          refine (Run.num M3.out x.size 4 1073741824 z2 (by omega) (by omega) (by omega) (by unfold Fine; unfold int1 at s2; omega)).mono ?_
          rintro _ v4 ⟨rfl, m4⟩
          have M4 := Lib.hid m4
          clear j1
          have j1 := kept_cell m4 (.inr rfl) (HXC.out 3 (by simp))
          clear m4
          go_wp2_with fail
          refine (Run.stps M4.out (fun b q => .inl (hS b q)) (HX1.out.bel hS) x.stripes _ HST.out (by unfold Fine; unfold int1 at s3; omega)).mono ?_
          rintro _ v5 ⟨rfl, m5⟩
          have M5 := Lib.hid (HX1.out.back (T := fun b => b = wr.heap.size) m5)
          clear m5 j1
          go_wp2
          go_roundw
          case rel => exact ⟨k + 1, by omega, by go_num, by rw [HN.out]; exact M5.out⟩
          case measure => simp [intOf]; omega
        | true =>
          rw [hb] at kb
          have HD := Lib.hid (show Run (fun b => b < W.heap.size + 1) W1 (W.heap.size + 1) (each obj r.objects (upObjs r)) wr by rw [each_rest r.objects (upObjs r) hb]; exact hrun)
          clear hb hrun
          have k6 := kept_cell HD.out hg0 HC6.out
          obtain ⟨od, hod⟩ : ∃ od, each obj r.objects (upObjs r) = od := ⟨_, rfl⟩
          have HOE := Lib.hid (show out r = ints r.drives od by rw [out_eq, hod])
          have hml : od.l.length ≤ 140737489000000 := by
            have := mid_any HIT.out HK3.out (objs_keys HR.out.o) r.objects.length (Nat.le_refl _)
            rwa [List.take_length, hod] at this
          rw [hod] at HD
          have HDD := Lib.hid HD
          clear hod HD HRN
          go_wp2_with fail
          refine (Run.ints HDD.out.out hS (Below.refl _ _) r.drives _ HR.out.d (by unfold Fine; omega)).mono ?_
          rintro _ w8 ⟨rfl, h8⟩
          rw [← HOE.out] at h8
          obtain ⟨oz, hoz⟩ : ∃ oz, out r = oz := ⟨_, rfl⟩
          rw [hoz] at h8
          have HOZ := Lib.hid hoz
          obtain ⟨A8, C8, c0, c1, hby, -⟩ := h8.open
          have HBY := Lib.hid hby
          have HBF := Lib.hid (HBW.out.trans (h8.bel (B := W.heap.size) (fun b q => by omega)))
          obtain ⟨NL, hNL⟩ : ∃ NL, oz.l.length = NL := ⟨_, rfl⟩
          have HNL := Lib.hid hNL
          rw [hNL] at c0 HBY
          clear hoz h8 hby hNL k6
          cases hbad : oz.bad with
          | true =>
            rw [hbad] at c1
            have HE := Lib.hid (encE_bad (r := r) (by have := HKD.out; omega) (by rw [HOZ.out]; exact hbad))
            clear hbad
            go_wp2
            go_ret2
            exact ⟨.slice none 0 0, by rw [HE.out.1]; rfl, by rw [HE.out.2]; exact bytes_nil _, HBF.out⟩
          | false =>
            rw [hbad] at c1
            by_cases hlong : 8192 < NL
            · have HE := Lib.hid (encE_long (r := r) (by have := HKD.out; omega) (by rw [HOZ.out]; exact hbad) (by rw [HOZ.out, HNL.out]; exact hlong))
              clear hbad
              go_wp2
              go_ret2
              exact ⟨.slice none 0 0, by rw [HE.out.1]; rfl, by rw [HE.out.2]; exact bytes_nil _, HBF.out⟩
            · have HE := Lib.hid (encE_good (r := r) (by have := HKD.out; omega) (by rw [HOZ.out]; exact hbad) (by rw [HOZ.out, HNL.out]; exact hlong))
              clear hbad
              go_wp2
              go_ret2
              exact ⟨.slice A8 NL C8, by rw [HE.out.1]; rfl, by rw [HE.out.2, HOZ.out]; exact HBY.out, HBF.out⟩
      · obtain rfl : k = NO := by omega
        have HD := Lib.hid (show Run (fun b => b < W.heap.size + 1) W1 (W.heap.size + 1) (each obj r.objects (upObjs r)) wr by rw [← each_all r.objects (upObjs r) (Nat.le_of_eq HNO.out)]; exact hrun)
        clear hrun
        have k6 := kept_cell HD.out hg0 HC6.out
        obtain ⟨od, hod⟩ : ∃ od, each obj r.objects (upObjs r) = od := ⟨_, rfl⟩
        have HOE := Lib.hid (show out r = ints r.drives od by rw [out_eq, hod])
        have hml : od.l.length ≤ 140737489000000 := by
          have := mid_any HIT.out HK3.out (objs_keys HR.out.o) r.objects.length (Nat.le_refl _)
          rwa [List.take_length, hod] at this
        rw [hod] at HD
        have HDD := Lib.hid HD
        clear hod HD HRN
        go_wp2_with fail
        refine (Run.ints HDD.out.out hS (Below.refl _ _) r.drives _ HR.out.d (by unfold Fine; omega)).mono ?_
        rintro _ w8 ⟨rfl, h8⟩
        rw [← HOE.out] at h8
        obtain ⟨oz, hoz⟩ : ∃ oz, out r = oz := ⟨_, rfl⟩
        rw [hoz] at h8
        have HOZ := Lib.hid hoz
        obtain ⟨A8, C8, c0, c1, hby, -⟩ := h8.open
        have HBY := Lib.hid hby
        have HBF := Lib.hid (HBW.out.trans (h8.bel (B := W.heap.size) (fun b q => by omega)))
        obtain ⟨NL, hNL⟩ : ∃ NL, oz.l.length = NL := ⟨_, rfl⟩
        have HNL := Lib.hid hNL
        rw [hNL] at c0 HBY
        clear hoz h8 hby hNL k6
        cases hbad : oz.bad with
        | true =>
          rw [hbad] at c1
          have HE := Lib.hid (encE_bad (r := r) (by have := HKD.out; omega) (by rw [HOZ.out]; exact hbad))
          clear hbad
          go_wp2
          go_ret2
          exact ⟨.slice none 0 0, by rw [HE.out.1]; rfl, by rw [HE.out.2]; exact bytes_nil _, HBF.out⟩
        | false =>
          rw [hbad] at c1
          by_cases hlong : 8192 < NL
          · have HE := Lib.hid (encE_long (r := r) (by have := HKD.out; omega) (by rw [HOZ.out]; exact hbad) (by rw [HOZ.out, HNL.out]; exact hlong))
            clear hbad
            go_wp2
            go_ret2
            exact ⟨.slice none 0 0, by rw [HE.out.1]; rfl, by rw [HE.out.2]; exact bytes_nil _, HBF.out⟩
          · have HE := Lib.hid (encE_good (r := r) (by have := HKD.out; omega) (by rw [HOZ.out]; exact hbad) (by rw [HOZ.out, HNL.out]; exact hlong))
            clear hbad
            go_wp2
            go_ret2
            exact ⟨.slice A8 NL C8, by rw [HE.out.1]; rfl, by rw [HE.out.2, HOZ.out]; exact HBY.out, HBF.out⟩
end Go.Proofs.Ytjhlcddmpkalfaa.Rec
