/- A drive as plain mathematics: slots, loose writes, lost. No program is named here. -/
import Derived.Laws.BitsLemmas
namespace Drv
structure St where
  slots : List (List Nat)
  loose : List (Nat × List Nat)
  lost : Bool
def clamp (n : Int) : Nat := if n < 0 then 0 else if 128 < n then 128 else n.toNat
def fresh (n : Int) : St := ⟨List.replicate (clamp n) [], [], false⟩
def St.check (s : St) (i : Int) : Int := if s.lost = true then 8 else if i < 0 ∨ (s.slots.length : Int) ≤ i then 1 else 0
def St.putE (s : St) (i : Int) (n : Nat) : Int := if s.check i = 0 then (if 64 < n then 1 else 0) else s.check i
def St.put (s : St) (i : Int) (l : List Nat) : St := if s.putE i l.length = 0 then { s with loose := s.loose ++ [(i.toNat, l)] } else s
/-- the slots when the first k loose writes are done -/
def St.flushN (s : St) : Nat → List (List Nat)
  | 0 => s.slots
  | k + 1 => (s.flushN k).set (s.loose.getD k (0, [])).1 (s.loose.getD k (0, [])).2
def St.flushE (s : St) : Int := if s.lost = true then 8 else 0
def St.flush (s : St) : St := if s.lost = true then s else ⟨s.flushN s.loose.length, [], false⟩
/-- is the write of number k kept? -/
def kept (keep k : Nat) : Bool := decide (k < 64) && decide (keep / 2 ^ k % 2 = 1)
def St.crashN (s : St) (keep : Nat) : Nat → List (List Nat)
  | 0 => s.slots
  | k + 1 => if kept keep k = true then (s.crashN keep k).set (s.loose.getD k (0, [])).1 (s.loose.getD k (0, [])).2 else s.crashN keep k
def St.crash (s : St) (keep : Nat) : St := ⟨s.crashN keep s.loose.length, [], s.lost⟩
def St.lose (_ : St) : St := ⟨[], [], true⟩
/-- what slot i has when the first k loose writes are looked at -/
def St.getN (s : St) (i : Nat) : Nat → List Nat
  | 0 => s.slots.getD i []
  | k + 1 => if (s.loose.getD k (0, [])).1 = i then (s.loose.getD k (0, [])).2 else s.getN i k
def St.get (s : St) (i : Nat) : List Nat := s.getN i s.loose.length
/-- loose writes are of slots that there are; what is lost is empty -/
structure St.ok (s : St) : Prop where
  lt : ∀ j (h : j < s.loose.length), s.loose[j].1 < s.slots.length
  sm : s.slots.length ≤ 128
  em : s.lost = true → s.slots.length = 0
  sl : ∀ l ∈ s.slots, l.length ≤ 64
  ll : ∀ x ∈ s.loose, x.2.length ≤ 64
theorem flushN_len (s : St) : ∀ k, (s.flushN k).length = s.slots.length
  | 0 => rfl
  | k + 1 => by rw [St.flushN, List.length_set, flushN_len s k]
theorem crashN_len (s : St) (keep : Nat) : ∀ k, (s.crashN keep k).length = s.slots.length
  | 0 => rfl
  | k + 1 => by
    rw [St.crashN]
    split
    · rw [List.length_set, crashN_len s keep k]
    · exact crashN_len s keep k
theorem clamp_le (n : Int) : clamp n ≤ 128 := by unfold clamp; split; omega; split <;> omega
theorem fresh_ok (n : Int) : (fresh n).ok := ⟨fun j h => absurd h (by simp [fresh]), by simp [fresh]; exact clamp_le n, fun h => by simp [fresh] at h, fun l h => by
  have := List.eq_of_mem_replicate (show l ∈ List.replicate (clamp n) [] from h); subst this; simp, fun x h => by simp [fresh] at h⟩
theorem put_ok {s : St} (h : s.ok) (i : Int) (l : List Nat) : (s.put i l).ok := by
  unfold St.put
  split
  · rename_i he
    refine ⟨fun j hj => ?_, h.sm, h.em, h.sl, fun x hx => ?_⟩
    rotate_left
    · rcases List.mem_append.1 (show x ∈ s.loose ++ [(i.toNat, l)] from hx) with q | q
      · exact h.ll x q
      · rw [List.mem_singleton] at q
        subst q
        unfold St.putE at he
        show l.length ≤ 64
        split at he
        · split at he <;> omega
        · omega
    by_cases hlt : j < s.loose.length
    · show (s.loose ++ [(i.toNat, l)])[j].1 < s.slots.length
      rw [List.getElem_append_left hlt]; exact h.lt j hlt
    · have hj' : j = s.loose.length := by simp at hj; omega
      subst hj'
      show (s.loose ++ [(i.toNat, l)])[s.loose.length].1 < s.slots.length
      rw [List.getElem_append_right (Nat.le_refl _)]
      unfold St.putE St.check at he
      simp
      split at he <;> (try split at he) <;> (try split at he) <;> (try split at he) <;> omega
  · exact h
theorem getD_ll {s : St} (h : s.ok) (k : Nat) : (s.loose.getD k (0, [])).2.length ≤ 64 := by
  rw [List.getD_eq_getElem?_getD]
  by_cases hk : k < s.loose.length
  · rw [List.getElem?_eq_getElem hk]; exact h.ll _ (List.getElem_mem hk)
  · rw [List.getElem?_eq_none (by omega)]; simp
theorem flushN_sl {s : St} (h : s.ok) : ∀ k, ∀ l ∈ s.flushN k, l.length ≤ 64
  | 0, l, hl => h.sl l hl
  | k + 1, l, hl => by
    rw [St.flushN] at hl
    rcases List.mem_or_eq_of_mem_set hl with q | q
    · exact flushN_sl h k l q
    · rw [q]; exact getD_ll h k
theorem crashN_sl {s : St} (h : s.ok) (keep : Nat) : ∀ k, ∀ l ∈ s.crashN keep k, l.length ≤ 64
  | 0, l, hl => h.sl l hl
  | k + 1, l, hl => by
    rw [St.crashN] at hl
    split at hl
    · rcases List.mem_or_eq_of_mem_set hl with q | q
      · exact crashN_sl h keep k l q
      · rw [q]; exact getD_ll h k
    · exact crashN_sl h keep k l hl
theorem getN_sl {s : St} (h : s.ok) (i : Nat) : ∀ k, (s.getN i k).length ≤ 64
  | 0 => by
    rw [St.getN, List.getD_eq_getElem?_getD]
    by_cases hi : i < s.slots.length
    · rw [List.getElem?_eq_getElem hi]; exact h.sl _ (List.getElem_mem hi)
    · rw [List.getElem?_eq_none (by omega)]; simp
  | k + 1 => by
    rw [St.getN]
    split
    · exact getD_ll h k
    · exact getN_sl h i k
theorem flush_ok {s : St} (h : s.ok) : s.flush.ok := by
  unfold St.flush
  split
  · exact h
  · exact ⟨fun j hj => absurd hj (by simp), by rw [flushN_len]; exact h.sm, (fun q => by cases q), flushN_sl h _, fun x hx => absurd hx (by simp)⟩
theorem crash_ok {s : St} (h : s.ok) (keep : Nat) : (s.crash keep).ok := ⟨fun j hj => absurd hj (by simp [St.crash]), by show (s.crashN keep _).length ≤ 128; rw [crashN_len]; exact h.sm, fun q => by show (s.crashN keep _).length = 0; rw [crashN_len]; exact h.em q, crashN_sl h keep _, fun x hx => absurd hx (by simp [St.crash])⟩
theorem lose_ok (s : St) : s.lose.ok := ⟨fun j hj => absurd hj (by simp [St.lose]), by simp [St.lose], fun _ => rfl, fun l hl => absurd hl (by simp [St.lose]), fun x hx => absurd hx (by simp [St.lose])⟩
end Drv
