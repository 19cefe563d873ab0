/- What the document's answers for numbers in bytes, for bytes as a number, and for a word that is turned, return. -/
import Derived.Test.YtcgjoidfmigpnaaDoorRows
import Derived.Test.YtcgjoidfmigpnaaDoorSha
import Derived.Test.YtcgjoidfmigpnaaDoorBits
import Derived.Test.YtcgjoidfmigpnaaDoorWords
namespace Go.Proofs.YtcgjoidfmigpnaaDoor.Hash
open Go.ChangeShapes Go.WideShapes Go.ChangeAt Go.RowKit
open Go.Mem Sha
theorem infoByte : (Tryd.prog.info? 5).map (fun i => (i.zero, i.size, i.bytes)) = some (some (.int .u8 0), 1, 1) := by kernel_rfl
theorem ret_u32 {a b : Int} (h : a = b) : Ending.returned (.int .u32 a) = .returned (.int .u32 b) := by rw [h]
theorem ret_u64 {a b : Int} (h : a = b) : Ending.returned (.int .u64 a) = .returned (.int .u64 b) := by rw [h]
theorem int_u64 {a b : Int} (h : a = b) : Value.int .u64 a = .int .u64 b := by rw [h]
theorem int_i64 {a b : Int} (h : a = b) : Value.int .i64 a = .int .i64 b := by rw [h]
theorem int_u32 {a b : Int} (h : a = b) : Value.int .u32 a = .int .u32 b := by rw [h]
theorem rotr_raw {x n : Nat} (hx : x < 4294967296) : bits .or .u32 ((x : Int) / 2 ^ n) ((x : Int) * 2 ^ (32 - n) % 4294967296) = ((rotr x n : Nat) : Int) := by
  have h1 : x / 2 ^ n ≤ x := Nat.div_le_self _ _
  rw [show ((x : Int) / 2 ^ n) = ((x / 2 ^ n : Nat) : Int) by simp, show ((x : Int) * 2 ^ (32 - n) % 4294967296) = ((x * 2 ^ (32 - n) % 4294967296 : Nat) : Int) by simp, u32_or_nat _ _ (by omega) (by omega)]
  rfl
set_option maxHeartbeats 1000000 in
theorem rotC (x n : Nat) (hx : x < 4294967296) (hn : n ≤ 31) (w : World) :
    Calls Tryd.prog 29 #[.int .u32 x, .int .u64 n] w fun e w' => e = .returned (.int .u32 (rotr x n : Nat)) ∧ w = w' := by
  have HR := Lib.hid (rotr_raw (x := x) (n := n) hx)
  obtain ⟨m, hm⟩ : ∃ m : Nat, (32 : Int) - n = m := ⟨32 - n, by omega⟩
  have hm' : 32 - n = m := by omega
  rw [hm'] at HR
  go_enter Tryd.func29, Tryd.ntmps29
  go_wp2
  go_ret
  exact ⟨ret_u32 HR.out, rfl⟩
theorem rotI (x : Nat) (k : Int) (hx : x < 4294967296) (h0 : 0 ≤ k) (h1 : k ≤ 31) (w : World) :
    Calls Tryd.prog 29 #[.int .u32 x, .int .u64 k] w fun e w' => e = .returned (.int .u32 (rotr x k.toNat : Nat)) ∧ w = w' := by
  obtain ⟨n, rfl⟩ := Int.eq_ofNat_of_zero_le h0
  exact rotC x n hx (by omega) w
set_option maxHeartbeats 1000000 in
theorem numC (v n : Nat) (hv : v < 18446744073709551616) (hn : n ≤ 8) (w : World) :
    Calls Tryd.prog 21 #[.int .u64 v, .int .i64 n] w fun e w' => ∃ u, e = .returned u ∧ Built ByteR w' w.heap.size 5 u (numB v n) ∧ Below w.heap.size w w' := by
  have hmk := run_make_row' (P := Tryd.prog) 42 5 (.int .u8 0) 1 Tryd.underlying42 infoByte rfl .i64 .i64 n (by omega) (by omega)
  go_enter Tryd.func21, Tryd.ntmps21
  go_wp2
  go_loopw [0, 6] (fun x c wr => ∃ r k : Nat, r + k = n ∧ x = .int .u64 (v / 256 ^ k : Nat) ∧ c = .int .i64 ((r : Int) - 1) ∧ wr.rowIs w.heap.size 5 n (fun i => .int .u8 ((if r ≤ i then v / 256 ^ (n - 1 - i) % 256 else 0 : Nat) : Int)) ∧ Below w.heap.size w wr) (fun _ c _ => (intOf c + 1).toNat)
  case atStart =>
    refine ⟨n, 0, rfl, by simp, rfl, (World.rowIs_made _ _ _ _).congr fun i hi => ?_, (Below.refl _ _).alloc (Nat.le_refl _) _⟩
    rw [if_neg (by omega)]; rfl
  case round =>
    obtain ⟨r, k, hrk, rfl, rfl, hrow, hb⟩ := hrel
    have hxl : v / 256 ^ k ≤ v := Nat.div_le_self _ _
    rcases r with _ | r
    · obtain rfl : k = n := by omega
      go_wp2
      go_ret
      refine ⟨_, rfl, ?_, hb⟩
      exact rowIs_built (F := fun i => v / 256 ^ (k - 1 - i) % 256) (hrow.congr fun i _ => by rw [if_pos (by omega)]) (fun _ _ => Nat.mod_lt _ (by omega)) (Nat.le_refl _) (by omega)
    · have hc := hrow.cell (i := r) (by omega)
      have hf := hrow.frozen r
      rw [show ((r + 1 : Nat) : Int) - 1 = (r : Int) by omega]
      have HX := Lib.hid (show ((v / 256 ^ k : Nat) : Int) / 256 = ((v / 256 ^ (k + 1) : Nat) : Int) by rw [Nat.pow_succ, ← Nat.div_div_eq_div_mul]; simp)
      have HS := Lib.hid (hrow.set r (.int .u8 ((v / 256 ^ k % 256 : Nat) : Int)))
      have HB := Lib.hid (hb.setCell (p := ⟨w.heap.size, r, none⟩) (Nat.le_refl _) (.int .u8 ((v / 256 ^ k % 256 : Nat) : Int)))
      have hkr : n - 1 - r = k := by omega
      have HK := Lib.hid hkr
      clear hrow hb hkr
      obtain ⟨x, hx⟩ : ∃ x, v / 256 ^ k = x := ⟨_, rfl⟩
      rw [hx] at hxl HX HS HB ⊢
      have HXE := Lib.hid hx
      clear hx
      have hr2 : r < n := by omega
      go_wp2
      go_roundw
      case rel =>
        refine ⟨r, k + 1, by omega, int_u64 HX.out, rfl, HS.out.congr fun i hi => ?_, HB.out⟩
        by_cases e : i = r
        · subst e; rw [if_pos rfl, if_pos (Nat.le_refl _), HK.out, HXE.out]
        · rw [if_neg e]
          by_cases h : r ≤ i
          · rw [if_pos h, if_pos (by omega)]
          · rw [if_neg h, if_neg (by omega)]
      case measure => simp [intOf]
set_option maxHeartbeats 1000000 in
theorem readC (l : List Nat) (v : Value) (w : World) (hl : Bytes w v l) :
    Calls Tryd.prog 19 #[v] w fun e w' => e = .returned (.int .u64 (readB l : Nat)) ∧ w = w' := by
  obtain ⟨A, C, rfl, h1, h2, _⟩ := hl.shape
  obtain ⟨L, hL⟩ : ∃ L, l.length = L := ⟨_, rfl⟩
  have HL := Lib.hid hL
  rw [hL] at h1 ⊢
  clear hL
  go_enter Tryd.func19, Tryd.ntmps19
  go_wp2
  go_loop [3, 4] (fun x c => ∃ k : Nat, k ≤ L ∧ x = .int .u64 (readB (l.take k) : Nat) ∧ c = .int .i64 k) (fun _ c => L - (intOf c).toNat)
  case atStart => exact ⟨0, Nat.zero_le _, rfl, rfl⟩
  case round =>
    obtain ⟨k, hk, rfl, rfl⟩ := hrel
    by_cases hlt : k < L
    · have hlt' : k < l.length := by rw [HL.out]; exact hlt
      obtain ⟨b, o, rfl, hc, hx⟩ := hl.at hlt'
      have HS := Lib.hid (show readB (l.take (k + 1)) = (readB (l.take k) * 256 + l[k]) % 18446744073709551616 by
        unfold readB; rw [List.take_succ_eq_append_getElem hlt', List.foldl_append]; rfl)
      obtain ⟨x, hxe⟩ : ∃ x, l[k] = x := ⟨_, rfl⟩
      rw [hxe] at hc hx HS
      clear hxe hlt'
      obtain ⟨y, hy⟩ : ∃ y, readB (l.take k) = y := ⟨_, rfl⟩
      rw [hy] at HS ⊢
      clear hy
      go_wp2
      go_round
      case rel => exact ⟨k + 1, by omega, int_u64 (by rw [HS.out]; simp only [IntKind.wrap_u64]; omega), by go_num⟩
      case measure => simp [intOf]; omega
    · obtain rfl : k = L := by omega
      go_wp2
      go_ret
      exact ⟨ret_u64 (by rw [List.take_of_length_le (by rw [HL.out]; exact Nat.le_refl _)]), rfl⟩
end Go.Proofs.YtcgjoidfmigpnaaDoor.Hash
