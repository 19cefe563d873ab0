/- The program's own reader of records' bytes: Decode; the three functions of layer 9. -/
import Derived.Test.YtjhlcddmpkalfaaRecRd7
namespace Go.Proofs.Ytjhlcddmpkalfaa.Rec
set_option linter.unusedVariables false
open Go.ChangeShapes Go.WideShapes Go.ChangeAt Go.RowKit
open Go.Mem RecM
theorem rd_fresh (W : World) (A : Option Addr) (C : Nat) (l : List Nat) (h : Bytes W (.slice A l.length C) l) : Rd ((W.alloc (.cells #[.int .i64 0, .int .i64 0, .int .i64 0, .string ⟨#[]⟩, .slice none 0 0, .slice none 0 0, .slice none 0 0] 26)).alloc (.cells #[.slice A l.length C, .bool false] 57)) (W.heap.size + 1) l false := by
  obtain ⟨W1, hW1⟩ : ∃ W1, W.alloc (.cells #[.int .i64 0, .int .i64 0, .int .i64 0, .string ⟨#[]⟩, .slice none 0 0, .slice none 0 0, .slice none 0 0] 26) = W1 := ⟨_, rfl⟩
  have hbw : Below W.heap.size W W1 := by rw [← hW1]; exact (Below.refl _ _).alloc (Nat.le_refl _) _
  have hsz : W1.heap.size = W.heap.size + 1 := by rw [← hW1]; simp
  rw [hW1, ← hsz]
  have hr := World.rowIs_alloc W1 #[.slice A l.length C, .bool false] 57 (ofld (.slice A l.length C) false) (fun i hi => by
    have : i < 2 := hi
    rcases (by omega : i = 0 ∨ i = 1) with rfl | rfl <;> rfl)
  have hb2 : Below W.heap.size W (W1.alloc (.cells #[.slice A l.length C, .bool false] 57)) := hbw.trans ((Below.refl _ _).alloc (by omega) _)
  exact ⟨A, C, hr, fun w' t => h.below (hb2.trans (t.below (fun b hb => by omega) (by simp; omega))), by simp⟩
theorem dec_yes {l l' : List Nat} {r x : RecD} {b : Bool} (h : IsRec l r) (hd : Rds Fits recE l false x l' b) : b = false ∧ x = r ∧ l' = [] := by
  cases b with
  | true => exact absurd (by rw [h.2.1, List.append_nil]) (hd.no rfl rfl r [] h.1)
  | false =>
    obtain ⟨h1, h2⟩ := hd.yes rfl
    obtain ⟨e1, e2⟩ := code_rec x r l' [] h1.2 h.1.2 (by rw [← h2, h.2.1, List.append_nil])
    exact ⟨rfl, e1, e2⟩
theorem dec_no {l l' : List Nat} {x : RecD} {b : Bool} (h : ∀ r, ¬ IsRec l r) (hl : l.length ≤ 8192) (hd : Rds Fits recE l false x l' b) : b = true ∨ 0 < l'.length := by
  cases b with
  | true => exact .inl rfl
  | false =>
    obtain ⟨h1, h2⟩ := hd.yes rfl
    refine .inr (Nat.pos_of_ne_zero fun e => ?_)
    have : l' = [] := List.length_eq_zero_iff.1 e
    subst this
    rw [List.append_nil] at h2
    exact h x ⟨h1, h2.symm, hl⟩
theorem zero_rec (w : World) : RecV w (.agg #[.int .i64 0, .int .i64 0, .int .i64 0, .string ⟨#[]⟩, .slice none 0 0, .slice none 0 0, .slice none 0 0]) RecD.zero := ⟨none, none, none, 0, 0, 0, rfl, RecIs.nil rfl rfl rfl ⟨by decide, by decide⟩ ⟨by decide, by decide⟩ ⟨by decide, by decide⟩ (by unfold KeyOk; decide)⟩
set_option maxHeartbeats 2000000 in
theorem decodeLong {W : World} {v : Value} {l : List Nat} (h : Bytes W v l) (hl : 8192 < l.length) : Calls Try.prog 13 #[v] W (Deced W RecD.zero 2) := by
  obtain ⟨A, C, rfl, g1, g2, -⟩ := h.shape
  obtain ⟨L, hL⟩ : ∃ L, l.length = L := ⟨_, rfl⟩
  rw [hL] at g1 hl ⊢
  have hd : decide (8192 < L) = true := by simpa using hl
  clear h hL
  go_enter Try.func13, Try.ntmps13
  go_wp2
  refine bodyPost_ret (v := .tuple #[.agg #[.int .i64 0, .int .i64 0, .int .i64 0, .string ⟨#[]⟩, .slice none 0 0, .slice none 0 0, .slice none 0 0], .int .i64 2]) (by simp [results, Try.results13, go_sem]) rfl ?_
  exact ⟨_, rfl, zero_rec _, (Below.refl _ _).alloc (Nat.le_refl _) _⟩
def DecPost (W : World) (l : List Nat) (e : Ending) (w' : World) : Prop := ∃ r l' b, Rds Fits recE l false r l' b ∧ ((b = true ∨ 0 < l'.length) ∧ Deced W RecD.zero 2 e w' ∨ (b = false ∧ l' = [] ∧ Deced W r 0 e w'))
set_option maxHeartbeats 4000000 in
theorem decodeShort {W : World} {v : Value} {l : List Nat} (h : Bytes W v l) (hl : l.length ≤ 8192) :
    Calls Try.prog 13 #[v] W (DecPost W l) := by
  obtain ⟨A, C, rfl, g1, g2, -⟩ := h.shape
  have H := Lib.hid (rd_fresh W A C l h)
  have HG := Lib.hid ((rec_row W 26).of_block (w' := (W.alloc (.cells #[.int .i64 0, .int .i64 0, .int .i64 0, .string ⟨#[]⟩, .slice none 0 0, .slice none 0 0, .slice none 0 0] 26)).alloc (.cells #[.slice A l.length C, .bool false] 57)) (Go.heap_alloc_old _ _ (by simp)))
  have HZ := Lib.hid (show ((W.alloc (.cells #[.int .i64 0, .int .i64 0, .int .i64 0, .string ⟨#[]⟩, .slice none 0 0, .slice none 0 0, .slice none 0 0] 26)).alloc (.cells #[.slice A l.length C, .bool false] 57)).heap.size = W.heap.size + 2 by simp)
  have HB := Lib.hid (show Below W.heap.size W ((W.alloc (.cells #[.int .i64 0, .int .i64 0, .int .i64 0, .string ⟨#[]⟩, .slice none 0 0, .slice none 0 0, .slice none 0 0] 26)).alloc (.cells #[.slice A l.length C, .bool false] 57)) from ((Below.refl _ _).alloc (Nat.le_refl _) _).alloc (by simp) _)
  obtain ⟨L, hL⟩ : ∃ L, l.length = L := ⟨_, rfl⟩
  rw [hL] at g1 hl H HG HZ HB ⊢
  have hd : decide (8192 < L) = false := by simpa using hl
  have hd2 : ¬ 8192 < L := by omega
  clear h hL
  go_enter Try.func13, Try.ntmps13
  go_wp2_with fail
  refine (rrecC H.out).mono ?_
  rintro _ w3 ⟨V, r, l', b, rfl, hs, ht, hr, hdd⟩
  obtain ⟨As, Ao, Ad, Cs, Co, Cd, e, -⟩ := hs.here
  unfold recVal at e
  subst e
  have hz3 : W.heap.size + 2 ≤ w3.heap.size := by have := ht.size; have := HZ.out; omega
  have hg3 := HG.out.of_block (w' := w3) (ht.block _ (by have := HZ.out; omega) (by omega))
  have hal : Below w3.heap.size w3 (w3.alloc (.cells #[.int .i64 r.kind, .int .i64 r.id, .int .i64 r.size, .string r.key, .slice As r.stripes.length Cs, .slice Ao r.objects.length Co, .slice Ad r.drives.length Cd] 26)) := (Below.refl _ _).alloc (Nat.le_refl _) _
  obtain ⟨w4, hw4⟩ : ∃ w4, w3.alloc (.cells #[.int .i64 r.kind, .int .i64 r.id, .int .i64 r.size, .string r.key, .slice As r.stripes.length Cs, .slice Ao r.objects.length Co, .slice Ad r.drives.length Cd] 26) = w4 := ⟨_, rfl⟩
  have hxc := row_cells w3 #[.int .i64 r.kind, .int .i64 r.id, .int .i64 r.size, .string r.key, .slice As r.stripes.length Cs, .slice Ao r.objects.length Co, .slice Ad r.drives.length Cd] 26
  rw [hw4] at hxc hal
  have hg4 := hg3.of_block (w' := w4) (hal.block _ (by omega))
  obtain ⟨A5, C5, hr5⟩ := hr.below hal
  obtain ⟨c0, c1⟩ := hr5.cells
  have hb4 : Below W.heap.size W w4 := HB.out.trans ((ht.below (fun b hb => by omega) (by have := HZ.out; omega)).trans (hal.mono (by omega)))
  have HB4 := Lib.hid hb4
  have HS4 := Lib.hid (show Sure (fun b => b < W.heap.size + 2) w4 (fun w' => RecV w' (.agg #[.int .i64 r.kind, .int .i64 r.id, .int .i64 r.size, .string r.key, .slice As r.stripes.length Cs, .slice Ao r.objects.length Co, .slice Ad r.drives.length Cd]) r) from (hs.less (fun b hb => by rw [HZ.out]; exact hb)).later (Turned.of_below _ hal |>.mono fun b hb => hb))
  have HZ4 := Lib.hid (show W.heap.size ≤ w4.heap.size by have := hal.size; omega)
  have HD := Lib.hid hdd
  have k0 : w4.cell? ⟨W.heap.size, 0, none⟩ = some (.int .i64 0) := hg4.cell (i := 0) (by omega)
  have f0 : w4.frozen? ⟨W.heap.size, 0, none⟩ = false := hg4.frozen 0
  have v0 : w4.cell? ⟨w3.heap.size, 0, none⟩ = some (.int .i64 r.kind) := hxc 0 (by simp)
  have k1 : w4.cell? ⟨W.heap.size, 1, none⟩ = some (.int .i64 0) := hg4.cell (i := 1) (by omega)
  have f1 : w4.frozen? ⟨W.heap.size, 1, none⟩ = false := hg4.frozen 1
  have v1 : w4.cell? ⟨w3.heap.size, 1, none⟩ = some (.int .i64 r.id) := hxc 1 (by simp)
  have k2 : w4.cell? ⟨W.heap.size, 2, none⟩ = some (.int .i64 0) := hg4.cell (i := 2) (by omega)
  have f2 : w4.frozen? ⟨W.heap.size, 2, none⟩ = false := hg4.frozen 2
  have v2 : w4.cell? ⟨w3.heap.size, 2, none⟩ = some (.int .i64 r.size) := hxc 2 (by simp)
  have k3 : w4.cell? ⟨W.heap.size, 3, none⟩ = some (.string ⟨#[]⟩) := hg4.cell (i := 3) (by omega)
  have f3 : w4.frozen? ⟨W.heap.size, 3, none⟩ = false := hg4.frozen 3
  have v3 : w4.cell? ⟨w3.heap.size, 3, none⟩ = some (.string r.key) := hxc 3 (by simp)
  have k4 : w4.cell? ⟨W.heap.size, 4, none⟩ = some (.slice none 0 0) := hg4.cell (i := 4) (by omega)
  have f4 : w4.frozen? ⟨W.heap.size, 4, none⟩ = false := hg4.frozen 4
  have v4 : w4.cell? ⟨w3.heap.size, 4, none⟩ = some (.slice As r.stripes.length Cs) := hxc 4 (by simp)
  have k5 : w4.cell? ⟨W.heap.size, 5, none⟩ = some (.slice none 0 0) := hg4.cell (i := 5) (by omega)
  have f5 : w4.frozen? ⟨W.heap.size, 5, none⟩ = false := hg4.frozen 5
  have v5 : w4.cell? ⟨w3.heap.size, 5, none⟩ = some (.slice Ao r.objects.length Co) := hxc 5 (by simp)
  have k6 : w4.cell? ⟨W.heap.size, 6, none⟩ = some (.slice none 0 0) := hg4.cell (i := 6) (by omega)
  have f6 : w4.frozen? ⟨W.heap.size, 6, none⟩ = false := hg4.frozen 6
  have v6 : w4.cell? ⟨w3.heap.size, 6, none⟩ = some (.slice Ad r.drives.length Cd) := hxc 6 (by simp)
  have hz := (((((((hg4.set 0 (.int .i64 0)).set 1 (.int .i64 0)).set 2 (.int .i64 0)).set 3 (.string ⟨#[]⟩)).set 4 (.slice none 0 0)).set 5 (.slice none 0 0)).set 6 (.slice none 0 0))
  have HWN := Lib.hid (show ∃ wz, (((((((w4.setCell ⟨W.heap.size, 0, none⟩ (.int .i64 0)).setCell ⟨W.heap.size, 1, none⟩ (.int .i64 0)).setCell ⟨W.heap.size, 2, none⟩ (.int .i64 0)).setCell ⟨W.heap.size, 3, none⟩ (.string ⟨#[]⟩)).setCell ⟨W.heap.size, 4, none⟩ (.slice none 0 0)).setCell ⟨W.heap.size, 5, none⟩ (.slice none 0 0)).setCell ⟨W.heap.size, 6, none⟩ (.slice none 0 0)) = wz ∧
      wz.cell? ⟨W.heap.size, 0, none⟩ = some (.int .i64 0) ∧ wz.cell? ⟨W.heap.size, 1, none⟩ = some (.int .i64 0) ∧ wz.cell? ⟨W.heap.size, 2, none⟩ = some (.int .i64 0) ∧ wz.cell? ⟨W.heap.size, 3, none⟩ = some (.string ⟨#[]⟩) ∧ wz.cell? ⟨W.heap.size, 4, none⟩ = some (.slice none 0 0) ∧ wz.cell? ⟨W.heap.size, 5, none⟩ = some (.slice none 0 0) ∧ wz.cell? ⟨W.heap.size, 6, none⟩ = some (.slice none 0 0) ∧ Turned (fun b => b = W.heap.size) w4 wz from
      ⟨_, rfl, hz.cell (i := 0) (by omega), hz.cell (i := 1) (by omega), hz.cell (i := 2) (by omega), hz.cell (i := 3) (by omega), hz.cell (i := 4) (by omega), hz.cell (i := 5) (by omega), hz.cell (i := 6) (by omega), ((((((((Turned.refl _ _ : Turned (fun b => b = W.heap.size) w4 w4).set1 _ _).set1 _ _).set1 _ _).set1 _ _).set1 _ _).set1 _ _).set1 _ _)⟩)
  clear hz
  have hz := (((((((hg4.set 0 (.int .i64 r.kind)).set 1 (.int .i64 r.id)).set 2 (.int .i64 r.size)).set 3 (.string r.key)).set 4 (.slice As r.stripes.length Cs)).set 5 (.slice Ao r.objects.length Co)).set 6 (.slice Ad r.drives.length Cd))
  have HWY := Lib.hid (show ∃ wz, (((((((w4.setCell ⟨W.heap.size, 0, none⟩ (.int .i64 r.kind)).setCell ⟨W.heap.size, 1, none⟩ (.int .i64 r.id)).setCell ⟨W.heap.size, 2, none⟩ (.int .i64 r.size)).setCell ⟨W.heap.size, 3, none⟩ (.string r.key)).setCell ⟨W.heap.size, 4, none⟩ (.slice As r.stripes.length Cs)).setCell ⟨W.heap.size, 5, none⟩ (.slice Ao r.objects.length Co)).setCell ⟨W.heap.size, 6, none⟩ (.slice Ad r.drives.length Cd)) = wz ∧
      wz.cell? ⟨W.heap.size, 0, none⟩ = some (.int .i64 r.kind) ∧ wz.cell? ⟨W.heap.size, 1, none⟩ = some (.int .i64 r.id) ∧ wz.cell? ⟨W.heap.size, 2, none⟩ = some (.int .i64 r.size) ∧ wz.cell? ⟨W.heap.size, 3, none⟩ = some (.string r.key) ∧ wz.cell? ⟨W.heap.size, 4, none⟩ = some (.slice As r.stripes.length Cs) ∧ wz.cell? ⟨W.heap.size, 5, none⟩ = some (.slice Ao r.objects.length Co) ∧ wz.cell? ⟨W.heap.size, 6, none⟩ = some (.slice Ad r.drives.length Cd) ∧ Turned (fun b => b = W.heap.size) w4 wz from
      ⟨_, rfl, hz.cell (i := 0) (by omega), hz.cell (i := 1) (by omega), hz.cell (i := 2) (by omega), hz.cell (i := 3) (by omega), hz.cell (i := 4) (by omega), hz.cell (i := 5) (by omega), hz.cell (i := 6) (by omega), ((((((((Turned.refl _ _ : Turned (fun b => b = W.heap.size) w4 w4).set1 _ _).set1 _ _).set1 _ _).set1 _ _).set1 _ _).set1 _ _).set1 _ _)⟩)
  clear hz
  have HNO := Lib.hid (show ∀ wz, Turned (fun b => b = W.heap.size) w4 wz → (b = true ∨ 0 < l'.length) → DecPost W l (.returned (.tuple #[.agg #[.int .i64 0, .int .i64 0, .int .i64 0, .string ⟨#[]⟩, .slice none 0 0, .slice none 0 0, .slice none 0 0], .int .i64 2])) wz from fun wz t hb => ⟨r, l', b, hdd, .inl ⟨hb, _, rfl, zero_rec _, hb4.trans (t.below (fun b hb => by omega) HZ4.out)⟩⟩)
  have HYES := Lib.hid (show ∀ wz, Turned (fun b => b = W.heap.size) w4 wz → b = false → l'.length = 0 → DecPost W l (.returned (.tuple #[.agg #[.int .i64 r.kind, .int .i64 r.id, .int .i64 r.size, .string r.key, .slice As r.stripes.length Cs, .slice Ao r.objects.length Co, .slice Ad r.drives.length Cd], .int .i64 0])) wz from fun wz t hb hl' => ⟨r, l', b, hdd, .inr ⟨hb, List.length_eq_zero_iff.1 hl', _, rfl, HS4.out wz (t.mono fun b hb => by omega), hb4.trans (t.below (fun b hb => by omega) HZ4.out)⟩⟩)
  obtain ⟨M, hM⟩ : ∃ M, l'.length = M := ⟨_, rfl⟩
  rw [hM] at c0 HNO HYES
  rw [← hw4] at c0 c1 k0 f0 v0 k1 f1 v1 k2 f2 v2 k3 f3 v3 k4 f4 v4 k5 f5 v5 k6 f6 v6 HWN HWY HNO HYES
  clear hs ht hr hdd hg3 hg4 hxc hr5 hb4 hal hw4 hM HD HS4 HB4
  cases b with
  | true =>
    go_wp2
    obtain ⟨wz, hwz, z0, z1, z2, z3, z4, z5, z6, t⟩ := HWN.out
    rw [hwz]
    refine bodyPost_ret (v := .tuple #[.agg #[.int .i64 0, .int .i64 0, .int .i64 0, .string ⟨#[]⟩, .slice none 0 0, .slice none 0 0, .slice none 0 0], .int .i64 2]) (by simp [results, Try.results13, go_sem, z0, z1, z2, z3, z4, z5, z6]) rfl ?_
    exact HNO.out wz t (.inl (by simp))
  | false =>
    by_cases h0 : 0 < M
    · have hq : decide (0 < M) = true := by simpa using h0
      have hq2 : decide (0 < (M : Int)) = true := by simpa using h0
      go_wp2
      obtain ⟨wz, hwz, z0, z1, z2, z3, z4, z5, z6, t⟩ := HWN.out
      rw [hwz]
      refine bodyPost_ret (v := .tuple #[.agg #[.int .i64 0, .int .i64 0, .int .i64 0, .string ⟨#[]⟩, .slice none 0 0, .slice none 0 0, .slice none 0 0], .int .i64 2]) (by simp [results, Try.results13, go_sem, z0, z1, z2, z3, z4, z5, z6]) rfl ?_
      exact HNO.out wz t (.inr h0)
    · obtain rfl : M = 0 := by omega
      go_wp2
      obtain ⟨wz, hwz, z0, z1, z2, z3, z4, z5, z6, t⟩ := HWY.out
      rw [hwz]
      refine bodyPost_ret (v := .tuple #[.agg #[.int .i64 r.kind, .int .i64 r.id, .int .i64 r.size, .string r.key, .slice As r.stripes.length Cs, .slice Ao r.objects.length Co, .slice Ad r.drives.length Cd], .int .i64 0]) (by simp [results, Try.results13, go_sem, z0, z1, z2, z3, z4, z5, z6]) rfl ?_
      exact HYES.out wz t (by simp) (by simp)
theorem decodeC (W : World) (v : Value) (l : List Nat) (r : RecD) (h : Bytes W v l) (hr : IsRec l r) : Calls Try.prog 13 #[v] W (Deced W r 0) := by
  refine (decodeShort h hr.2.2).mono fun e w' ⟨x, l', b, hd, hc⟩ => ?_
  obtain ⟨e1, e2, e3⟩ := dec_yes hr hd
  rcases hc with ⟨q, _⟩ | ⟨_, _, q⟩
  · rcases q with q | q
    · rw [e1] at q; cases q
    · rw [e3] at q; cases q
  · rw [← e2]; exact q
theorem decodeNoC (W : World) (v : Value) (l : List Nat) (h : Bytes W v l) (hr : ∀ r, ¬ IsRec l r) : Calls Try.prog 13 #[v] W (Deced W RecD.zero 2) := by
  by_cases hl : l.length ≤ 8192
  · refine (decodeShort h hl).mono fun e w' ⟨x, l', b, hd, hc⟩ => ?_
    rcases hc with ⟨_, q⟩ | ⟨q1, q2, _⟩
    · exact q
    · rcases dec_no hr hl hd with y | y
      · rw [q1] at y; cases y
      · rw [q2] at y; cases y
  · exact decodeLong h (by omega)
end Go.Proofs.Ytjhlcddmpkalfaa.Rec
