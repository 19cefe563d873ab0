/- Whether records are not too large: the law's own answer, as a walk. -/
import Derived.Test.YtlgdchflegflkaaTbNone
import Derived.Test.YtlgdchflegflkaaRecSmall
namespace Go.Proofs.Ytlgdchflegflkaa.Tbl
set_option linter.unusedVariables false
open Go.ChangeShapes Go.WideShapes Go.ChangeAt Go.RowKit
open Go.Mem RecM
/-- a record in seven cells -/
def RecR (w : World) (f : Nat → Value) (r : RecD) : Prop := ∃ As Ao Ad Cs Co Cd, f 0 = .int .i64 r.kind ∧ f 1 = .int .i64 r.id ∧ f 2 = .int .i64 r.size ∧ f 3 = .string r.key ∧ f 4 = .slice As r.stripes.length Cs ∧ f 5 = .slice Ao r.objects.length Co ∧ f 6 = .slice Ad r.drives.length Cd ∧ RecIs w r As Ao Ad Cs Co Cd
def Recs (w : World) (v : Value) (L : List RecD) : Prop := Cells 7 RecR w v L
theorem RecR.below {w w' : World} {f : Nat → Value} {r : RecD} (h : RecR w f r) (hb : Below w.heap.size w w') : RecR w' f r := by
  obtain ⟨As, Ao, Ad, Cs, Co, Cd, e0, e1, e2, e3, e4, e5, e6, hr⟩ := h
  exact ⟨As, Ao, Ad, Cs, Co, Cd, e0, e1, e2, e3, e4, e5, e6, hr.below hb⟩
theorem Recs.below {w w' : World} {v : Value} {L : List RecD} (h : Recs w v L) (hb : Below w.heap.size w w') : Recs w' v L := Cells.mono h (below_cell hb) fun _ _ q => RecR.below q hb
theorem Recs.at {w : World} {A : Option Addr} {n C : Nat} {L : List RecD} (h : Recs w (.slice A n C) L) {i : Nat} (hi : i < L.length) :
    ∃ b o As Ao Ad Cs Co Cd, A = some ⟨b, o, none⟩ ∧ w.cell? ⟨b, o + i * 7, none⟩ = some (.int .i64 L[i].kind) ∧ w.cell? ⟨b, o + i * 7 + 1, none⟩ = some (.int .i64 L[i].id) ∧ w.cell? ⟨b, o + i * 7 + 2, none⟩ = some (.int .i64 L[i].size) ∧
      w.cell? ⟨b, o + i * 7 + 3, none⟩ = some (.string L[i].key) ∧ w.cell? ⟨b, o + i * 7 + 4, none⟩ = some (.slice As L[i].stripes.length Cs) ∧ w.cell? ⟨b, o + i * 7 + 5, none⟩ = some (.slice Ao L[i].objects.length Co) ∧ w.cell? ⟨b, o + i * 7 + 6, none⟩ = some (.slice Ad L[i].drives.length Cd) ∧ RecIs w L[i] As Ao Ad Cs Co Cd := by
  obtain ⟨A', n', C', h1, _, _, _, _, h6⟩ := h
  cases h1
  obtain ⟨b, o, f, e1, e2, As, Ao, Ad, Cs, Co, Cd, f0, f1, f2, f3, f4, f5, f6, hr⟩ := h6 i hi
  exact ⟨b, o, As, Ao, Ad, Cs, Co, Cd, e1, (e2 0 (by omega)).trans (by rw [f0]), (e2 1 (by omega)).trans (by rw [f1]), (e2 2 (by omega)).trans (by rw [f2]), (e2 3 (by omega)).trans (by rw [f3]), (e2 4 (by omega)).trans (by rw [f4]), (e2 5 (by omega)).trans (by rw [f5]), (e2 6 (by omega)).trans (by rw [f6]), hr⟩
def smalls (L : List RecD) : Bool := L.all small && decide (L.length ≤ 40)
theorem smalls_no {L : List RecD} {i : Nat} (hi : i < L.length) (h : small L[i] = false) : smalls L = false := by
  unfold smalls
  rw [show L.all small = false from List.all_eq_false.2 ⟨L[i], List.getElem_mem hi, by simp [h]⟩]
  rfl
theorem smalls_all {L : List RecD} (h : ∀ j (hj : j < L.length), small L[j] = true) : smalls L = decide (L.length ≤ 40) := by
  unfold smalls
  rw [show L.all small = true from List.all_eq_true.2 fun x hx => by
    obtain ⟨j, hj, rfl⟩ := List.getElem_of_mem hx
    exact h j hj]
  rfl
set_option maxHeartbeats 2000000 in
theorem smallC (L : List RecD) (v : Value) (W : World) (h : Recs W v L) :
    Calls Try.prog 9 #[v] W fun e w' => e = .returned (.bool (smalls L)) ∧ Below W.heap.size W w' := by
  obtain ⟨A, C, rfl, g1, g2, -⟩ := Cells.shape h
  have HI := Lib.hid h
  have HALL := Lib.hid (@smalls_all L)
  obtain ⟨N, hN⟩ : ∃ N, L.length = N := ⟨_, rfl⟩
  have HN := Lib.hid hN
  rw [hN] at g1 HI ⊢
  clear h hN
  go_enter Try.func9, Try.ntmps9
  go_wp2
  go_loopw [3] (fun c wr => ∃ i : Nat, i ≤ N ∧ c = .int .i64 i ∧ (∀ j (hj : j < L.length), j < i → small L[j] = true) ∧ Below W.heap.size W wr) (fun c _ => N - (intOf c).toNat)
  case atStart => exact ⟨0, Nat.zero_le _, rfl, fun _ _ q => absurd q (by omega), Below.refl _ _⟩
  case round =>
    obtain ⟨i, hi, rfl, hs, hb⟩ := hrel
    have HB := Lib.hid hb
    have HS := Lib.hid hs
    by_cases hlt : i < N
    · have hil : i < L.length := by rw [HN.out]; exact hlt
      obtain ⟨b, o, As, Ao, Ad, Cs, Co, Cd, rfl, c0, c1, c2, c3, c4, c5, c6, hr⟩ := (HI.out.below hb).at hil
      have HR := Lib.hid (show RecV wr (recVal L[i] As Ao Ad Cs Co Cd) L[i] from ⟨As, Ao, Ad, Cs, Co, Cd, rfl, hr⟩)
      have HNX := Lib.hid (show small L[i] = true → ∀ j (hj : j < L.length), j < i + 1 → small L[j] = true from fun e j hj q => by
        by_cases k : j = i
        · subst k; exact e
        · exact hs j hj (by omega))
      have HNO := Lib.hid (@smalls_no L i hil)
      obtain ⟨x, hx⟩ : ∃ x, L[i] = x := ⟨_, rfl⟩
      rw [hx] at c0 c1 c2 c3 c4 c5 c6 HR HNX HNO
      have q1 : (0 : Int) ≤ (i : Int) := by omega
      have q2 : (i : Int) < (N : Int) := by omega
      clear hx hil hr hs hb
      go_wp2_with fail
      refine (Rec.refSmall HR.out).mono ?_
      rintro _ w1 ⟨rfl, hb1⟩
      have HB1 := Lib.hid (nxt HB.out hb1 (Nat.le_refl _))
      clear hb1 c0 c1 c2 c3 c4 c5 c6
      cases hsm : small x
      · have HE := Lib.hid (HNO.out hsm)
        clear hsm
        go_wp2
        go_ret
        exact ⟨by rw [HE.out]; rfl, HB1.out⟩
      · have HE := Lib.hid (HNX.out hsm)
        clear hsm
        go_wp2
        go_roundw
        case rel => exact ⟨i + 1, by omega, by go_num, HE.out, HB1.out⟩
        case measure => simp [intOf]; omega
    · obtain rfl : i = N := by omega
      have HE := Lib.hid (HALL.out fun j hj => HS.out j hj (by rw [← HN.out]; exact hj))
      clear hs hb hlt
      go_wp2
      go_ret
      refine ⟨?_, HB.out⟩
      rw [HE.out, HN.out]
      simp
      omega
end Go.Proofs.Ytlgdchflegflkaa.Tbl
