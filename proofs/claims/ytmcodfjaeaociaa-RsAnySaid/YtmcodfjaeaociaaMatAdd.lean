/- What mat.addTimes and mat.scale do to a row. -/
import Derived.Test.YtmcodfjaeaociaaMatFilled
import Derived.StillTailTactics
namespace Go.Proofs.Ytmcodfjaeaociaa.Mat
open Go.ChangeShapes Go.WideShapes Go.ChangeAt Go.RowKit
open Go.Mem
open GfPlain Gf
theorem gmul_nat (f x : Nat) : gmul (f : Int) (x : Int) = ((mul f x : Nat) : Int) := by unfold gmul; rw [Int.toNat_natCast, Int.toNat_natCast]
theorem mul_lt (f x : Nat) (hf : f < 256) : mul f x < 256 := mulP_lt f x hf 8
theorem xor_lt {x y : Nat} (hx : x < 256) (hy : y < 256) : x ^^^ y < 256 := Nat.xor_lt_two_pow (n := 8) (by omega) (by omega)
def added (g : Nat → Nat) (m : List Nat) (f k : Nat) : Nat → Nat := fun i => if i < k then g i ^^^ mul f (m.getD i 0) else g i

theorem added_at (g : Nat → Nat) (m : List Nat) (f k : Nat) : added g m f k k = g k := by unfold added; rw [if_neg (by omega)]
theorem added_succ {w : World} {b o : Nat} {g : Nat → Nat} {m : List Nat} {f k n : Nat} (h : Row w b o n (added g m f k)) (hk : k < n) (hf : f < 256) (hm : k < m.length) (hg : g k < 256) :
    Row (w.setCell ⟨b, o + k, none⟩ (.int .u8 ((g k ^^^ mul f m[k] : Nat) : Int))) b o n (added g m f (k + 1)) := by
  refine (h.set hk (xor_lt hg (mul_lt f m[k] hf))).congr fun i hi => ?_
  unfold added
  by_cases e : i = k
  · subst e; rw [if_pos (by omega), if_pos rfl, List.getD_eq_getElem?_getD, List.getElem?_eq_getElem hm]; rfl
  · rw [if_neg e]
    by_cases hlt : i < k
    · rw [if_pos (by omega), if_pos hlt]
    · rw [if_neg (by omega), if_neg hlt]
theorem added_val (f : Int) (x y : Nat) (h0 : 0 ≤ f) (h1 : f ≤ 255) (hx : x < 256) : bits .xor .u8 (x : Int) (gmul f (y : Int)) = ((x ^^^ mul f.toNat y : Nat) : Int) := by
  obtain ⟨n, rfl⟩ := Int.eq_ofNat_of_zero_le h0
  rw [gmul_nat, Int.toNat_natCast, u8_xor_nat _ _ hx (mul_lt _ _ (by omega))]
set_option maxHeartbeats 400000 in
theorem addTimesC (g : Nat → Nat) (m : List Nat) (f : Int) (b o n C : Nat) (v : Value) (w : World) (hf0 : 0 ≤ f) (hf1 : f ≤ 255) (hn : n ≤ 9223372036854775807) (hr : Row w b o n g) (h : Bytes w v m) (hv : Off v b) (hmn : m.length ≤ n) :
    Calls Try.prog 30 #[.slice (some ⟨b, o, none⟩) n C, v, .int .u8 f] w fun e w' => e = .returned (.tuple #[]) ∧ Row w' b o n (added g m f.toNat m.length) ∧ w.grownBy w' (some b) := by
  obtain ⟨A, C1, rfl, h1, h2, _⟩ := h.shape
  go_enter Try.func30, Try.ntmps30
  go_wp2
  go_loopw [10] (fun c wr => ∃ k : Nat, k ≤ m.length ∧ c = .int .i64 k ∧ Row wr b o n (added g m f.toNat k) ∧ w.grownBy wr (some b)) (fun c _ => m.length - (intOf c).toNat)
  case atStart => exact ⟨0, Nat.zero_le _, rfl, hr.congr (fun i _ => if_neg (by omega)), World.grownBy.refl w _⟩
  case round =>
    obtain ⟨k, hk, rfl, hrow, hg⟩ := hrel
    by_cases hlt : k < m.length
    · have hb := h.off hv hg
      obtain ⟨b1, o1, rfl, hc, hm⟩ := hb.at hlt
      have hcr := hrow.cell k (by omega)
      rw [added_at] at hcr
      have hfr := hrow.free k (by omega)
      have hgk := hr.bd k (by omega)
      have hkn : k < n := by omega
      have HX := Lib.hid (added_val f (g k) m[k] hf0 hf1 hgk)
      have HR := Lib.hid ((added_succ hrow hkn (by omega) hlt hgk).drew)
      clear hb
      go_wp2
      go_still_tail 9, (by kernel_rfl)
      still_call (still_of (mulC _ _ hf0 hf1 (by omega) (by omega) _))
      repeat still_step
      refine wpStill_nil ?_
      change wpList _ _ _ _ _ wr.drew
      go_wp2
      go_roundw
      case rel => exact ⟨k + 1, by omega, by go_num, by rw [HX.out]; exact HR.out, grown_set (grown_drewN hg 1) _⟩
      case measure => simp [intOf]; omega
    · obtain rfl : k = m.length := by omega
      go_wp2
      go_end0
      exact ⟨rfl, hrow, hg⟩
def scaled (g : Nat → Nat) (f k : Nat) : Nat → Nat := fun i => if i < k then mul f (g i) else g i
theorem scaled_at (g : Nat → Nat) (f k : Nat) : scaled g f k k = g k := by unfold scaled; rw [if_neg (by omega)]
theorem scaled_succ {w : World} {b o : Nat} {g : Nat → Nat} {f k n : Nat} (h : Row w b o n (scaled g f k)) (hk : k < n) (hf : f < 256) :
    Row (w.setCell ⟨b, o + k, none⟩ (.int .u8 ((mul f (g k) : Nat) : Int))) b o n (scaled g f (k + 1)) := by
  refine (h.set hk (mul_lt f _ hf)).congr fun i hi => ?_
  unfold scaled
  by_cases e : i = k
  · subst e; rw [if_pos (by omega), if_pos rfl]
  · rw [if_neg e]
    by_cases hlt : i < k
    · rw [if_pos (by omega), if_pos hlt]
    · rw [if_neg (by omega), if_neg hlt]
theorem gmul_int (f : Int) (y : Nat) : gmul f (y : Int) = ((mul f.toNat y : Nat) : Int) := by
  unfold gmul; rw [Int.toNat_natCast]
set_option maxHeartbeats 400000 in
theorem scaleC (g : Nat → Nat) (f : Int) (b o n C : Nat) (w : World) (hf0 : 0 ≤ f) (hf1 : f ≤ 255) (hn : n ≤ 9223372036854775807) (hr : Row w b o n g) :
    Calls Try.prog 44 #[.slice (some ⟨b, o, none⟩) n C, .int .u8 f] w fun e w' => e = .returned (.tuple #[]) ∧ Row w' b o n (scaled g f.toNat n) ∧ w.grownBy w' (some b) := by
  go_enter Try.func44, Try.ntmps44
  go_wp2
  go_loopw [8] (fun c wr => ∃ k : Nat, k ≤ n ∧ c = .int .i64 k ∧ Row wr b o n (scaled g f.toNat k) ∧ w.grownBy wr (some b)) (fun c _ => n - (intOf c).toNat)
  case atStart => exact ⟨0, Nat.zero_le _, rfl, hr.congr (fun i _ => if_neg (by omega)), World.grownBy.refl w _⟩
  case round =>
    obtain ⟨k, hk, rfl, hrow, hg⟩ := hrel
    by_cases hlt : k < n
    · have hcr := hrow.cell k (by omega)
      rw [scaled_at] at hcr
      have hfr := hrow.free k (by omega)
      have hgk := hr.bd k (by omega)
      have HX := Lib.hid (gmul_int f (g k))
      have HR := Lib.hid (scaled_succ hrow hlt (by omega))
      go_wp2_with (go_at_call 42; refine (mulC _ _ hf0 hf1 (by omega) (by omega) _).mono ?_; rintro e w' ⟨rfl, rfl⟩)
      go_roundw
      case rel => exact ⟨k + 1, by omega, by go_num, by rw [HX.out]; exact HR.out, grown_set hg _⟩
      case measure => simp [intOf]; omega
    · obtain rfl : k = n := by omega
      go_wp2
      go_end0
      exact ⟨rfl, hrow, hg⟩
end Go.Proofs.Ytmcodfjaeaociaa.Mat
