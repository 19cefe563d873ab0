/- The program's drive (a table of cells, each with what it has, what lasts and its loose writes), as walks: the calls that read, and those of one cell. -/
import Derived.Test.YthlonnbafekjbaaDc
import Derived.Test.YthlonnbafekjbaaDrvKeeps
import Derived.Test.YthlonnbafekjbaaRefPut
import Derived.WalkSpells
namespace Go.Proofs.Ythlonnbafekjbaa.Drive
set_option linter.unusedVariables false
open Go.ChangeShapes Go.WideShapes Go.ChangeAt Go.RowKit
open Go.Mem Drv
abbrev CAt := DcAt 55 65 67
def PDc : Thing := fun w F p s => s.ok ∧ ∃ R S N L W X, CAt w p F R S N L W X s.slots.length s.cell s.loose.length s.lost
theorem infoWr : (Try.prog.info? 67).map (fun i => (i.zero, i.size, i.bytes)) = some (some (.agg #[.int .i64 0, .slice none 0 0]), 2, 32) := by kernel_rfl
def ifLost (b : Bool) : Int := if b = true then 8 else 0
theorem worksC {w : World} {p : Nat} {b : Bool} (c2 : w.cell? ⟨p, 2, none⟩ = some (.bool b)) :
    Calls Try.prog 29 #[.pointer (some ⟨p, 0, none⟩)] w fun e w' => e = .returned (.int .i64 (ifLost b)) ∧ w = w' := by
  cases b
  · go_enter Try.func29, Try.ntmps29
    go_wp2
    go_ret
    exact ⟨rfl, rfl⟩
  · go_enter Try.func29, Try.ntmps29
    go_wp2
    go_ret
    exact ⟨rfl, rfl⟩
/-- a slot's cell -/
theorem cellYes {w : World} {p bs n q : Nat} (c0 : w.cell? ⟨p, 0, none⟩ = some (.slice (some ⟨bs, 0, none⟩) n n)) (c2 : w.cell? ⟨p, 2, none⟩ = some (.bool false)) (hq : q < n) (hn : n ≤ 128) :
    Calls Try.prog 26 #[.pointer (some ⟨p, 0, none⟩), .int .i64 q] w fun e w' => e = .returned (.tuple #[.pointer (some ⟨bs, q * 3, none⟩), .int .i64 0]) ∧ w = w' := by
  have C2 := Lib.hid c2
  have hd : decide ((q : Int) < 0) = false := by simp
  have l1 : (q : Int) < (n : Int) := by omega
  clear c2
  go_enter Try.func26, Try.ntmps26
  go_wp2_with fail
  refine (worksC C2.out).mono ?_
  rintro _ w1 ⟨rfl, rfl⟩
  rw [show ifLost false = 0 from rfl]
  go_wp2_with fail
  go_ret2
  exact ⟨rfl, rfl⟩
theorem cellNo {w : World} {F : Nat → Prop} {p : Nat} {s : St} (h : PDc w F p s) (i : Int) (l0 : -9223372036854775808 ≤ i) (u0 : i ≤ 9223372036854775807) (hc : s.check i ≠ 0) :
    Calls Try.prog 26 #[.pointer (some ⟨p, 0, none⟩), .int .i64 i] w fun e w' => e = .returned (.tuple #[.pointer none, .int .i64 (s.check i)]) ∧ w = w' := by
  obtain ⟨hok, R, S, N, L, W, X, h⟩ := h
  obtain ⟨c0, c1, c2⟩ := h.cells
  obtain ⟨A, rfl, _⟩ := h.shape
  have hsm := hok.sm
  obtain ⟨n, hn⟩ : ∃ n, s.slots.length = n := ⟨_, rfl⟩
  obtain ⟨x, hx⟩ : ∃ x, s.lost = x := ⟨_, rfl⟩
  have HE := Lib.hid (show s.check i = if x = true then 8 else if i < 0 ∨ (n : Int) ≤ i then 1 else 0 by unfold St.check; rw [hx, hn])
  rw [hn] at c0 hsm
  rw [hx] at c2
  have C2 := Lib.hid c2
  clear hn h c1 c2 hok
  cases x
  · by_cases h1 : i < 0
    · have HE1 := Lib.hid (show s.check i = 1 by rw [HE.out]; simp [h1])
      have hd : decide (i < 0) = true := by simpa using h1
      clear hx hc
      go_enter Try.func26, Try.ntmps26
      go_wp2_with fail
      refine (worksC C2.out).mono ?_
      rintro _ w1 ⟨rfl, rfl⟩
      rw [show ifLost false = 0 from rfl]
      go_wp2_with fail
      go_ret2
      exact ⟨by rw [HE1.out]; rfl, rfl⟩
    · have hd : decide (i < 0) = false := by simpa using h1
      by_cases h2 : (n : Int) ≤ i
      · have HE1 := Lib.hid (show s.check i = 1 by rw [HE.out]; simp [h2])
        clear hx hc
        go_enter Try.func26, Try.ntmps26
        go_wp2_with fail
        refine (worksC C2.out).mono ?_
        rintro _ w1 ⟨rfl, rfl⟩
        rw [show ifLost false = 0 from rfl]
        go_wp2_with fail
        go_ret2
        exact ⟨by rw [HE1.out]; rfl, rfl⟩
      · exact absurd (by rw [HE.out]; simp [h1, h2]) hc
  · have HE1 := Lib.hid (show s.check i = 8 by rw [HE.out]; simp)
    clear hx hc
    go_enter Try.func26, Try.ntmps26
    go_wp2_with fail
    refine (worksC C2.out).mono ?_
    rintro _ w1 ⟨rfl, rfl⟩
    rw [show ifLost true = 8 from rfl]
    go_wp2_with fail
    go_ret2
    exact ⟨by rw [HE1.out]; rfl, rfl⟩
theorem lostC {w : World} {F : Nat → Prop} {p : Nat} {s : St} (h : PDc w F p s) : Calls Try.prog 18 #[.pointer (some ⟨p, 0, none⟩)] w fun e w' => e = .returned (.bool s.lost) ∧ w = w' := by
  obtain ⟨hok, R, S, N, L, W, X, h⟩ := h
  obtain ⟨c0, c1, c2⟩ := h.cells
  obtain ⟨x, hx⟩ : ∃ x, s.lost = x := ⟨_, rfl⟩
  rw [hx] at c2 ⊢
  clear h c0 c1 hx
  go_enter Try.func18, Try.ntmps18
  go_wp2
  go_ret
  exact ⟨rfl, rfl⟩
theorem looseC {w : World} {F : Nat → Prop} {p : Nat} {s : St} (h : PDc w F p s) : Calls Try.prog 19 #[.pointer (some ⟨p, 0, none⟩)] w fun e w' => e = .returned (.int .i64 (s.loose.length : Nat)) ∧ w = w' := by
  obtain ⟨hok, R, S, N, L, W, X, h⟩ := h
  obtain ⟨c0, c1, c2⟩ := h.cells
  obtain ⟨n, hn⟩ : ∃ n, s.loose.length = n := ⟨_, rfl⟩
  rw [hn] at c1 ⊢
  clear h c0 c2 hn
  go_enter Try.func19, Try.ntmps19
  go_wp2
  go_ret
  exact ⟨rfl, rfl⟩
theorem capC {w : World} {F : Nat → Prop} {p : Nat} {s : St} (h : PDc w F p s) : Calls Try.prog 20 #[.pointer (some ⟨p, 0, none⟩)] w fun e w' => e = .returned (.int .i64 (s.slots.length : Nat)) ∧ w = w' := by
  obtain ⟨hok, R, S, N, L, W, X, h⟩ := h
  obtain ⟨c0, c1, c2⟩ := h.cells
  obtain ⟨A, hS, _⟩ := h.shape
  rw [hS] at c0
  obtain ⟨n, hn⟩ : ∃ n, s.slots.length = n := ⟨_, rfl⟩
  rw [hn] at c0 ⊢
  clear h c1 c2 hS hn
  go_enter Try.func20, Try.ntmps20
  go_wp2
  go_ret
  exact ⟨rfl, rfl⟩
theorem loseC {w : World} {F : Nat → Prop} {p : Nat} {s : St} (h : PDc w F p s) : Calls Try.prog 17 #[.pointer (some ⟨p, 0, none⟩)] w fun e w' => e = .returned (.tuple #[]) ∧ Does PDc F p s.lose w w' := by
  obtain ⟨hok, R, S, N, L, W, X, h⟩ := h
  obtain ⟨c0, c1, c2⟩ := h.cells
  have e0 := h.free 0
  have e1 := h.free 1
  have e2 := h.free 2
  obtain ⟨A, hS, _⟩ := h.shape
  rw [hS] at c0
  have HD := Lib.hid (h.lose s.lose.cell)
  have hfp := h.fp
  clear h hS
  go_enter Try.func17, Try.ntmps17
  go_wp2
  go_end0
  exact ⟨rfl, F, ⟨lose_ok s, _, _, _, _, _, _, HD.out⟩, ((Turned.set _ hfp).trans (Turned.set _ hfp) (Grown.refl _ _)).trans (Turned.set _ hfp) (Grown.refl _ _), Grown.refl _ _⟩
theorem fresh_PDc {w : World} {F : Nat → Prop} {p k : Nat} {n : Int} {R : Nat → Prop} {S : Value} {N L W : Nat → Value} {X : Nat → Nat → Value} (hk : k = clamp n) (h : CAt w p F R S N L W X k (fun _ => ⟨[], [], []⟩) 0 false) : PDc w F p (fresh n) := by
  refine ⟨fresh_ok n, R, S, N, L, W, X, ?_⟩
  have e : (fresh n).slots.length = k := by show (List.replicate (clamp n) []).length = k; rw [List.length_replicate, hk]
  rw [e]
  exact h.congr (fun i _ => (cell_fresh n i).symm)
theorem newC (n : Int) (w : World) (l0 : -9223372036854775808 ≤ n) (u0 : n ≤ 9223372036854775807) :
    Calls Try.prog 9 #[.int .i64 n] w fun e w' => ∃ F p, e = .returned (.pointer (some ⟨p, 0, none⟩)) ∧ PDc w' F p (fresh n) ∧ (∀ b, F b → w.heap.size ≤ b) ∧ Below w.heap.size w w' := by
  have hbel : ∀ k c, Below w.heap.size w ((w.alloc (.cells (madeCells #[.slice none 0 0, .slice none 0 0, .slice none 0 0] k) 65)).alloc (.cells c 55)) := fun k c => ((Below.refl _ _).alloc (Nat.le_refl _) _).alloc (by simp) _
  obtain ⟨K, hK⟩ : ∃ K, K = clamp n := ⟨_, rfl⟩
  have hK8 : K ≤ 128 := hK ▸ clamp_le n
  have HFR := Lib.hid (fresh_PDc hK (DcAt.fresh 55 65 67 w K))
  have HBE := Lib.hid hbel
  obtain ⟨i, hi, hz0, hz1, hz2⟩ := info_parts (show (Try.prog.info? 65).map (fun i => (i.zero, i.size, i.bytes)) = some (some (.agg #[.slice none 0 0, .slice none 0 0, .slice none 0 0]), 3, 72) by kernel_rfl)
  have hmk : ∀ (k : Nat), k ≤ 128 → ∀ w : World, (Instr.makeSlice 53 (.int .i64 (k : Nat)) (.int .i64 (k : Nat))).run Try.prog w = .ok (.slice (some ⟨w.heap.size, 0, none⟩) k k) (w.alloc (.cells (madeCells #[.slice none 0 0, .slice none 0 0, .slice none 0 0] (k * 3)) 65)) := fun k hk w => by
    have hr := run_make (P := Try.prog) w 53 65 i _ Try.underlying53 hi hz0 .i64 .i64 k k (by omega) (Int.le_refl _) (by rw [hz2]; omega) (by omega)
    simp only [Int.toNat_natCast, hz1] at hr
    exact hr
  have HMK := Lib.hid hmk
  clear hbel hmk hi hz0 hz1 hz2
  by_cases h1 : n < 0
  · have e0 : K = 0 := by rw [hK]; unfold clamp; rw [if_pos h1]
    subst e0
    clear hK
    have hmk0 : ∀ w : World, (Instr.makeSlice 53 (.int .i64 0) (.int .i64 0)).run Try.prog w = .ok (.slice (some ⟨w.heap.size, 0, none⟩) 0 0) (w.alloc (.cells (madeCells #[.slice none 0 0, .slice none 0 0, .slice none 0 0] 0) 65)) := HMK.out 0 (by omega)
    go_enter Try.func9, Try.ntmps9
    go_wp2
    go_ret
    exact ⟨_, _, rfl, HFR.out, fun b hb => by rcases hb with q | q <;> omega, HBE.out _ _⟩
  · by_cases h2 : 128 < n
    · have e0 : K = 128 := by rw [hK]; unfold clamp; rw [if_neg h1, if_pos h2]
      subst e0
      clear hK
      have hmk8 : ∀ w : World, (Instr.makeSlice 53 (.int .i64 128) (.int .i64 128)).run Try.prog w = .ok (.slice (some ⟨w.heap.size, 0, none⟩) 128 128) (w.alloc (.cells (madeCells #[.slice none 0 0, .slice none 0 0, .slice none 0 0] 384) 65)) := HMK.out 128 (by omega)
      go_enter Try.func9, Try.ntmps9
      go_wp2
      go_ret
      exact ⟨_, _, rfl, HFR.out, fun b hb => by rcases hb with q | q <;> omega, HBE.out _ _⟩
    · have e0 : n = (K : Nat) := by rw [hK]; unfold clamp; rw [if_neg h1, if_neg h2]; omega
      subst e0
      clear hK
      have h3 : (K : Int) ≤ 128 := by omega
      have h4 : 0 ≤ (K : Int) := by omega
      have hmkK := HMK.out K hK8
      go_enter Try.func9, Try.ntmps9
      go_wp2
      all_goals
        go_ret
        exact ⟨_, _, rfl, HFR.out, fun b hb => by rcases hb with q | q <;> omega, HBE.out _ _⟩
theorem cloneC (l : List Nat) (v : Value) (w : World) (h : Bytes w v l) (hl : l.length ≤ 200000) :
    Calls Try.prog 28 #[v] w fun e w' => ∃ u, e = .returned u ∧ Built ByteR w' w.heap.size 5 u l ∧ Below w.heap.size w w' := by
  obtain ⟨A, C, rfl, h1, h2, h3⟩ := h.shape
  have hne := Lib.run_eql_slice_nil (P := Try.prog)
  rcases A with _ | ad
  · have hC := h3 rfl
    have hl0 : l = [] := List.length_eq_zero_iff.1 (by omega)
    subst hl0
    subst hC
    go_enter Try.func28, Try.ntmps28
    go_wp2_with fail
    go_ret
    exact ⟨_, rfl, Built.start _ _ _, Below.refl _ _⟩
  · have hal : Below w.heap.size w (w.alloc (.cells #[] 5)) := (Below.refl _ _).alloc (Nat.le_refl _) _
    have HB := Lib.hid (built_none (R := ByteR) (t := 5) w (Nat.le_refl _))
    have HL := Lib.hid (h.below hal)
    have HA := Lib.hid hal
    have HLL := Lib.hid hl
    clear hal h hl
    go_enter Try.func28, Try.ntmps28
    go_wp2_with (at_builtin; refine wpList_append_list byteR_world byteR_one _ rfl (.tmp 5) (.tmp 6) 28 rfl w.heap.size 5 (.int .u8 0) 1 Try.underlying28 infoByte rfl _ _ rfl HB.out _ _ _ _ rfl HL.out (by have := HLL.out; simp; omega) (by simp) ?_; intro v' w' hbu' hg' hb')
    go_ret
    exact ⟨_, rfl, hbu', HA.out.trans hb'⟩
end Go.Proofs.Ythlonnbafekjbaa.Drive
