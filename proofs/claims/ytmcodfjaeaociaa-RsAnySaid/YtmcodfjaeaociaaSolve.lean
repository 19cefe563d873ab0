/- What slices.Clone and slices.IndexFunc give; the exchange of two rows. -/
import Derived.Test.YtmcodfjaeaociaaSlices
import Derived.WalkSpells
import Derived.BigRegion
namespace Go.Proofs.Ytmcodfjaeaociaa.Mat
open Go.ChangeShapes Go.WideShapes Go.ChangeAt Go.RowKit
open Go.Mem
open GfPlain Gf
set_option maxHeartbeats 1000000 in
theorem cloneC (l : List Nat) (b o C base : Nat) (w : World) (h : Bytes w (.slice (some ⟨b, o, none⟩) l.length C) l) (hl : l.length ≤ 4294967296) (hbase : base ≤ w.heap.size) :
    Calls Try.prog 37 #[.slice (some ⟨b, o, none⟩) l.length C] w fun e w' => ∃ u, e = .returned u ∧ Built ByteR w' base 5 u l ∧ Below base w w' := by
  have hne := Lib.run_eql_slice_nil (P := Try.prog)
  have hal : Below w.heap.size w (w.alloc (.cells #[] 5)) := (Below.refl _ _).alloc (Nat.le_refl _) _
  have HB := Lib.hid (built_made (w := w) (t := 5) (base := base) (cur := #[]) (cap := 0) hbase (Nat.zero_le _) rfl)
  have HL := Lib.hid (h.below hal)
  have HA := Lib.hid (hal.mono hbase)
  clear hal
  go_enter Try.func37, Try.ntmps37
  go_wp2_with (at_builtin; refine wpList_append_list byteR_world byteR_one _ rfl (.tmp 5) (.tmp 6) 22 rfl base 5 (.int .u8 0) 1 Try.underlying22 infoByte rfl _ _ rfl HB.out _ _ _ _ rfl HL.out (by simp; omega) (by simp; omega) ?_; intro v' w' hbu' hg' hb')
  go_ret
  exact ⟨_, rfl, hbu', HA.out.trans hb'⟩
set_option maxHeartbeats 400000 in
theorem solveFn (l : List Nat) (v : Value) (p : Addr) (n : Nat) (w : World) (h : Bytes w v l) (hp : w.cell? p = some (.int .i64 n)) (hn : n < l.length) :
    Calls Try.prog 43 #[v, .pointer (some p)] w fun e w' => e = .returned (.bool ((l[n] : Int) != 0)) ∧ w = w' := by
  obtain ⟨A, C, rfl, h1, h2, _⟩ := h.shape
  obtain ⟨b, o, rfl, hc, hb⟩ := h.at hn
  go_enter Try.func43, Try.ntmps43
  go_wp2
  go_ret
  exact ⟨rfl, rfl⟩
/-- no row of the first k has anything at place n -/
def Bare (M : List (List Nat)) (n k : Nat) : Prop := ∀ i (h : i < M.length) (h' : n < M[i].length), i < k → M[i][n] = 0
theorem Bare.succ {M : List (List Nat)} {n k : Nat} (h : Bare M n k) (hk : k < M.length) (hn : n < M[k].length) (h1 : M[k][n] = 0) : Bare M n (k + 1) := fun i hi hi' hlt => by
  by_cases e : i = k
  · subst e; exact h1
  · exact h i hi hi' (by omega)
def Found (M : List (List Nat)) (n : Nat) (r : Int) : Prop := (r = -1 ∧ Bare M n M.length) ∨ ∃ (i : Nat) (h : i < M.length) (h' : n < M[i].length), r = i ∧ M[i][n] ≠ 0
set_option maxHeartbeats 400000 in
theorem indexC (M : List (List Nat)) (v : Value) (p : Addr) (n : Nat) (w : World) (h : Tab w v M) (hp : w.cell? p = some (.int .i64 n)) (hn : ∀ i (h : i < M.length), n < M[i].length) :
    Calls Try.prog 34 #[v, .func (.func 43) #[] #[.pointer (some p)]] w fun e w' => ∃ r : Int, e = .returned (.int .i64 r) ∧ Found M n r ∧ w = w' := by
  obtain ⟨A, C, rfl, h1, h2, _⟩ := h.shape
  go_enter Try.func34, Try.ntmps34
  go_wp2
  go_loop [8] (fun c => ∃ k : Nat, k ≤ M.length ∧ Bare M n k ∧ c = .int .i64 k) (fun c => M.length - (intOf c).toNat)
  case atStart => exact ⟨0, Nat.zero_le _, fun i _ _ hi => absurd hi (by omega), rfl⟩
  case round =>
    obtain ⟨k, hk, hu, rfl⟩ := hrel
    by_cases hlt : k < M.length
    · obtain ⟨b, o, A', C', rfl, hc, hm, hb⟩ := h.at hlt
      have hnk := hn k hlt
      by_cases hr : M[k][n] = 0
      · have HU := Lib.hid (hu.succ hlt hnk hr)
        have hq : ((M[k][n] : Int) != 0) = false := by rw [hr]; simp
        clear hr
        go_wp2_with (go_at_call 43; refine (solveFn M[k] _ p n _ hb hp hnk).mono ?_; rintro e w' ⟨rfl, rfl⟩)
        go_round
        case rel => exact ⟨k + 1, by omega, HU.out, by go_num⟩
        case measure => simp [intOf]; omega
      · have HN := Lib.hid (show Found M n k from .inr ⟨k, hlt, hnk, rfl, hr⟩)
        have hq : ((M[k][n] : Int) != 0) = true := by rw [bne_iff_ne]; omega
        clear hr
        go_wp2_with (go_at_call 43; refine (solveFn M[k] _ p n _ hb hp hnk).mono ?_; rintro e w' ⟨rfl, rfl⟩)
        go_ret
        exact ⟨_, rfl, HN.out, rfl⟩
    · obtain rfl : k = M.length := by omega
      have HY := Lib.hid (show Found M n (-1) from .inl ⟨rfl, hu⟩)
      go_wp2
      go_ret
      exact ⟨_, rfl, HY.out, rfl⟩
end Go.Proofs.Ytmcodfjaeaociaa.Mat
