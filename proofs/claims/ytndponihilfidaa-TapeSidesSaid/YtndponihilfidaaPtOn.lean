/- The program's change: what of it is kept, and what it makes of bytes. -/
import Derived.Test.YtndponihilfidaaPtSmall
import Derived.WalkSpells
namespace Go.Proofs.Ytndponihilfidaa.Tape
set_option linter.unusedVariables false
open Go.ChangeShapes Go.WideShapes Go.ChangeAt Go.RowKit
open Go.Mem Tp
/-- in place of bytes: their copy -/
theorem on_whole (w : World) (A : Option Addr) (n C : Nat) (v : Value) (l : List Nat) (h : Bytes w (.slice A n C) l) (hl : l.length ≤ 4000000) :
    Calls Try.prog 22 #[.agg #[.slice A n C, .bool true], v] w fun e w' => ∃ u, e = .returned u ∧ Built ByteR w' w.heap.size PU u l ∧ Below w.heap.size w w' := by
  have hx : Below w.heap.size w (w.alloc (.cells #[.slice A n C, .bool true] 49)) := (Below.refl _ _).alloc (Nat.le_refl _) _
  have HX := Lib.hid hx
  have HB := Lib.hid (h.below hx)
  have HL := Lib.hid hl
  clear h hx hl
  go_enter Try.func22, Try.ntmps22
  go_wp2_with fail
  refine (cloneC l _ _ HB.out HL.out).mono ?_
  rintro _ w1 ⟨u, rfl, hu, hb⟩
  have HU := Lib.hid hu
  have HBB := Lib.hid hb
  clear hu hb
  go_wp2
  go_ret
  have hs := HX.out.size
  exact ⟨u, rfl, HU.out.lower hs, HX.out.trans (HBB.out.mono hs)⟩
/-- behind bytes: in their own block, where there is room -/
theorem on_behind (w : World) (A : Option Addr) (n C : Nat) (v : Value) (L l : List Nat) (h : Bytes w (.slice A n C) l) (hv : Built ByteR w 0 PU v L) (hoff : ∀ g, v.ownBlock = some g → Off (.slice A n C) g) (hl : L.length + l.length ≤ 4000000) :
    Calls Try.prog 22 #[.agg #[.slice A n C, .bool false], v] w fun e w' => ∃ u, e = .returned u ∧ Built ByteR w' 0 PU u (L ++ l) ∧ Turned (fun b => v.ownBlock = some b) w w' ∧ ∀ b, u.ownBlock = some b → v.ownBlock = some b ∨ w.heap.size ≤ b := by
  have hx : Below w.heap.size w (w.alloc (.cells #[.slice A n C, .bool false] 49)) := (Below.refl _ _).alloc (Nat.le_refl _) _
  obtain ⟨A0, C0, e0, h1, h2⟩ := hv.len
  obtain ⟨N, hN⟩ : ∃ N, L.length = N := ⟨_, rfl⟩
  rw [hN] at e0 h1
  subst e0
  have HX := Lib.hid hx
  have HB := Lib.hid (h.below hx)
  have HV := Lib.hid (hv.below hx)
  have HL := Lib.hid hl
  clear h hx hl hN hv hoff
  go_enter Try.func22, Try.ntmps22
  go_wp2_with (at_builtin; refine wpList_append_src _ rfl (.tmp 10) (.tmp 12) 27 27 rfl 0 5 Try.underlying27 infoByte _ _ rfl HV.out _ _ rfl (BSrc.ofBytes Try.underlying27 HB.out) (by have := HL.out; omega) (Nat.zero_le _) ?_; intro v' w' hbu' hg' hb' hat')
  go_ret
  refine ⟨_, rfl, hbu', ?_, fun b q => ?_⟩
  · exact (Turned.of_below (fun b => Value.ownBlock (.slice A0 N C0) = some b) HX.out).trans (Turned.grown hg' (fun k hk => hk)) (Grown.refl _ _)
  · rcases hat' with k | k
    · exact .inl (k ▸ q)
    · have q : v'.ownBlock = some b := q
      have := HX.out.size
      have e : some (w.alloc (.cells #[.slice A n C, .bool false] 49)).heap.size = some b := k.symm.trans q
      injection e with e
      exact .inr (by omega)
/-- the lowest bit of any number tells whether it is odd -/
theorem and_low (n : Int) : bits .and .i64 n 1 = n % 2 := by
  have h1 : (BitVec.ofInt 64 1).toNat = 2 ^ 1 - 1 := by decide
  have key : (BitVec.ofInt 64 n &&& BitVec.ofInt 64 1).toNat = (n % ((2 ^ 64 : Nat) : Int)).toNat % 2 ^ 1 := by
    rw [BitVec.toNat_and, BitVec.toNat_ofInt, h1, Nat.and_two_pow_sub_one_eq_mod]
  show IntKind.i64.wrap ((BitVec.ofInt 64 n &&& BitVec.ofInt 64 1).toNat : Nat) = n % 2
  rw [key, IntKind.wrap_i64]
  omega
def keptN (keep : Int) (n : Nat) : Nat := if keep < 0 then 0 else if keep ≤ n then keep.toNat else n
set_option maxHeartbeats 1000000 in
theorem kept_app (w : World) (A : Option Addr) (n C : Nat) (hn : n ≤ C) (hC : C ≤ 9223372036854775807) (h0 : A = none → C = 0) (keep : Int) (lk : -9223372036854775808 ≤ keep) (uk : keep ≤ 9223372036854775807) :
    Calls Try.prog 21 #[.agg #[.slice A n C, .bool false], .int .i64 keep] w fun e w' => e = .returned (.agg #[.slice A (keptN keep n) C, .bool false]) ∧ Below w.heap.size w w' := by
  unfold keptN
  rcases (by omega : keep < 0 ∨ (0 ≤ keep ∧ keep ≤ n) ∨ (0 ≤ keep ∧ n < keep)) with hk | ⟨hk, hk2⟩ | ⟨hk, hk2⟩
  · rw [if_pos hk]
    go_enter Try.func21, Try.ntmps21
    go_wp2
    refine bodyPost_ret (v := .agg #[.slice A 0 C, .bool false]) (by simp [results, Try.results21, go_sem]) rfl ⟨rfl, ?_⟩
    exact ((Below.refl _ _).alloc (Nat.le_refl _) _).alloc (by simp) _
  · rw [if_neg (by omega), if_pos hk2]
    obtain ⟨k, rfl⟩ : ∃ k : Nat, keep = k := ⟨keep.toNat, by omega⟩
    go_enter Try.func21, Try.ntmps21
    go_wp2
    refine bodyPost_ret (v := .agg #[.slice A k C, .bool false]) (by simp [results, Try.results21, go_sem]) rfl ⟨rfl, ?_⟩
    exact ((Below.refl _ _).alloc (Nat.le_refl _) _).alloc (by simp) _
  · rw [if_neg (by omega), if_neg (by omega)]
    go_enter Try.func21, Try.ntmps21
    go_wp2
    refine bodyPost_ret (v := .agg #[.slice A n C, .bool false]) (by simp [results, Try.results21, go_sem]) rfl ⟨rfl, ?_⟩
    exact ((Below.refl _ _).alloc (Nat.le_refl _) _).alloc (by simp) _
set_option maxHeartbeats 1000000 in
theorem kept_odd (w : World) (A : Option Addr) (n C : Nat) (keep : Int) (lk : -9223372036854775808 ≤ keep) (uk : keep ≤ 9223372036854775807) (h : ¬ keep % 2 = 0) :
    Calls Try.prog 21 #[.agg #[.slice A n C, .bool true], .int .i64 keep] w fun e w' => e = .returned (.agg #[.slice A n C, .bool true]) ∧ Below w.heap.size w w' := by
  have hb : (bits BinOp.and IntKind.i64 keep 1 == 0) = false := by rw [and_low, beq_eq_false_iff_ne]; exact h
  clear h
  go_enter Try.func21, Try.ntmps21
  go_wp2
  refine bodyPost_ret (v := .agg #[.slice A n C, .bool true]) (by simp [results, Try.results21, go_sem]) rfl ⟨rfl, ?_⟩
  exact ((Below.refl _ _).alloc (Nat.le_refl _) _).alloc (by simp) _
set_option maxHeartbeats 1000000 in
theorem kept_even (w : World) (A : Option Addr) (n C : Nat) (keep : Int) (lk : -9223372036854775808 ≤ keep) (uk : keep ≤ 9223372036854775807) (h : keep % 2 = 0) :
    Calls Try.prog 21 #[.agg #[.slice A n C, .bool true], .int .i64 keep] w fun e w' => e = .returned (.agg #[.slice none 0 0, .bool false]) ∧ Below w.heap.size w w' := by
  have hb : (bits BinOp.and IntKind.i64 keep 1 == 0) = true := by rw [and_low, beq_iff_eq]; exact h
  clear h
  go_enter Try.func21, Try.ntmps21
  go_wp2
  refine bodyPost_ret (v := .agg #[.slice none 0 0, .bool false]) (by simp [results, Try.results21, go_sem]) rfl ⟨rfl, ?_⟩
  exact ((Below.refl _ _).alloc (Nat.le_refl _) _).alloc (by simp) _
end Go.Proofs.Ytndponihilfidaa.Tape
