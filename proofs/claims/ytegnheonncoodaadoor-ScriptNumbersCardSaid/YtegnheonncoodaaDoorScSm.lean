/- The law's own test for small steps. -/
import Derived.Test.YtegnheonncoodaaDoorScMem
import Derived.Deep.QuietTactic
import Derived.BigQuiet
namespace Go.Proofs.YtegnheonncoodaaDoor.Scr
set_option linter.unusedVariables false
open Go.ChangeShapes Go.WideShapes Go.ChangeAt Go.RowKit
open Go.Mem Sc
def SmallL (L : List SD) : Prop := L.length ≤ 100 ∧ ∀ i (h : i < L.length), L[i].key.length + L[i].data.length ≤ 300
def SizedL (L : List SD) : Prop := ∀ i (h : i < L.length), L[i].key.length ≤ 140737488355328 ∧ L[i].data.length ≤ 140737488355328
set_option maxHeartbeats 8000000 in
set_option maxRecDepth 100000 in
theorem smallC (L : List SD) (v : Value) (w : World) (hv : Steps w v L) (hz : SizedL L) : Calls Tryd.prog 8 #[v] w fun e w' => (∃ b, e = .returned (.bool b) ∧ (b = true → SmallL L) ∧ (L.length = 0 → b = true)) ∧ ∃ n, w' = w.drewN n := by
  obtain ⟨A, C, rfl, hl, hC, _⟩ := hv.shape
  have HV := Lib.hid hv
  have HZ := Lib.hid hz
  clear hv hz
  go_enter Tryd.func8, Tryd.ntmps8
  go_wp2
  go_loopw [3] (fun i wr => ∃ k : Nat, k ≤ L.length ∧ i = .int .i64 k ∧ (∀ i (h : i < L.length), i < k → L[i].key.length + L[i].data.length ≤ 300) ∧ (0 < k → L.length ≤ 100) ∧ ∃ n, wr = w.drewN n) (fun i _ => L.length - (intOf i).toNat)
  case atStart => exact ⟨0, Nat.zero_le _, rfl, (fun i h q => by omega), (fun h => by omega), 0, rfl⟩
  case round =>
    obtain ⟨k, hk, rfl, hO, h100, n, rfl⟩ := hrel
    have HO := Lib.hid hO
    have H100 := Lib.hid h100
    clear hO h100
    by_cases hlt : k < L.length
    · obtain ⟨b, o, A1, C1, rfl, c0, c1, c2, c3, c4, hby, hok⟩ := HV.out.at hlt
      have hz := HZ.out k hlt
      have HX : Hid (∀ y, L[k] = y → y.key.length + y.data.length ≤ 300 → ∀ i (h : i < L.length), i < k + 1 → L[i].key.length + L[i].data.length ≤ 300) := fun y e hy i h q => by
        by_cases hik : i < k
        · exact HO.out i h hik
        · obtain rfl : i = k := by omega
          rw [e]; exact hy
      generalize he : L[k] = x at c0 c1 c2 c3 c4 hby hok hz HX
      have HE := Lib.hid he
      clear he c0 c1 c4 hby hok
      have k0 : (0 : Int) ≤ (k : Int) := by omega
      have k1 : (k : Int) < (L.length : Int) := by omega
      by_cases hn : L.length ≤ 100
      · have hd : decide ((100 : Int) < (L.length : Int)) = false := by simp; omega
        have hsz : (str x.key).size = x.key.length := str_size _
        have hw : IntKind.i64.wrap ((x.key.length : Int) + (x.data.length : Int)) = (x.key.length : Int) + (x.data.length : Int) := IntWalk.i64_in _ (by omega)
        by_cases h3 : x.key.length + x.data.length ≤ 300
        · have hd3 : decide ((300 : Int) < (x.key.length : Int) + (x.data.length : Int)) = false := by simp; omega
          go_wp2_with fail
          go_quiet (fail)
          clear hw
          go_wp2
          go_roundw
          case rel => exact ⟨k + 1, by omega, by go_num, HX.out x rfl h3, fun _ => hn, _, rfl⟩
          case measure => simp [intOf]; omega
        · have hd3 : decide ((300 : Int) < (x.key.length : Int) + (x.data.length : Int)) = true := by simp; omega
          go_wp2_with fail
          go_quiet (fail)
          clear hw
          go_wp2
          go_ret
          exact ⟨⟨_, rfl, (fun h => by cases h), fun h => by omega⟩, quiets _ _ _⟩
      · have hd : decide ((100 : Int) < (L.length : Int)) = true := by simp; omega
        go_wp2_with fail
        go_quiet (fail)
        go_wp2
        go_ret
        exact ⟨⟨_, rfl, (fun h => by cases h), fun h => by omega⟩, quiets _ _ _⟩
    · obtain rfl : k = L.length := by omega
      go_wp2
      go_ret
      exact ⟨⟨_, rfl, (fun _ => ⟨by
        rcases Nat.eq_zero_or_pos L.length with h | h
        · omega
        · exact H100.out h, fun i h => HO.out i h h⟩), fun _ => rfl⟩, _, rfl⟩
end Go.Proofs.YtegnheonncoodaaDoor.Scr
