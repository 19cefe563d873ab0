/- Two tapes as plain mathematics: their sides, what is loose, the fuse, the power. No program is named here. -/
import Derived.Laws.BitsLemmas
namespace Tp
structure Sd where
  b : List Nat
  l : List Nat
  wet : Bool
  swap : Bool
  lost : Bool
structure St where
  s0 : Sd
  s1 : Sd
  fuse : Int
  down : Bool
def Sd.fresh : Sd := ⟨[], [], false, false, false⟩
def fresh : St := ⟨Sd.fresh, Sd.fresh, -1, false⟩
/-- a side's bytes, when so much of what is loose lasts -/
def Sd.all (s : Sd) (keep : Int) : List Nat := if s.wet = false then s.b else if s.swap = true then (if keep % 2 = 0 then s.b else s.l) else s.b ++ s.l.take keep.toNat
/-- .. when all of it does -/
def Sd.view (s : Sd) : List Nat := if s.wet = false then s.b else if s.swap = true then s.l else s.b ++ s.l
def St.sd (s : St) (i : Int) : Sd := if i = 0 then s.s0 else s.s1
def Sd.put (s : Sd) (l : List Nat) (swap : Bool) : Sd := { s with b := if swap = true then l else s.b ++ l }
def Sd.wets (s : Sd) (l : List Nat) (swap : Bool) : Sd := ⟨s.b, l, true, swap, s.lost⟩
/-- a side's write: the power goes in it -/
def goes (s : Sd) (fuse : Int) : Bool := !s.lost && decide (fuse = 0)
def Sd.did (s : Sd) (fuse : Int) (l : List Nat) (swap : Bool) : Sd := if s.lost = true then s else if fuse = 0 then s.wets l swap else s.put l swap
def left (s : Sd) (fuse : Int) : Int := if s.lost = true then fuse else if 0 < fuse then fuse - 1 else fuse
def St.writeE (s : St) : Int := if s.down = true then 9 else if s.s0.lost = true ∧ s.s1.lost = true then 8 else if goes s.s0 s.fuse = true then 9 else if goes s.s1 (left s.s0 s.fuse) = true then 9 else 0
def St.write (s : St) (l : List Nat) (swap : Bool) : St :=
  if s.down = true then s else if s.s0.lost = true ∧ s.s1.lost = true then s else if goes s.s0 s.fuse = true then ⟨s.s0.did s.fuse l swap, s.s1, s.fuse, true⟩
  else ⟨s.s0.did s.fuse l swap, s.s1.did (left s.s0 s.fuse) l swap, left s.s1 (left s.s0 s.fuse), goes s.s1 (left s.s0 s.fuse)⟩
def Sd.crash (s : Sd) (keep : Int) : Sd := ⟨s.all keep, [], false, false, s.lost⟩
def St.crash (s : St) (keep : Int) : St := ⟨s.s0.crash keep, s.s1.crash keep, -1, false⟩
def St.set (s : St) (i : Int) (x : Sd) : St := if i = 0 then { s with s0 := x } else if i = 1 then { s with s1 := x } else s
def St.lose (s : St) (i : Int) : St := s.set i ⟨[], [], false, false, true⟩
def St.spoil (s : St) (i : Int) (l : List Nat) : St := s.set i ⟨l, [], false, false, (s.sd i).lost⟩
def St.burn (s : St) (n : Int) : St := { s with fuse := if n < 0 then 0 else n }
def St.readE (s : St) (i : Int) : Int := if i < 0 ∨ 1 < i then 1 else if (s.sd i).lost = true then 8 else 0
def St.readB (s : St) (i : Int) : List Nat := if s.readE i = 0 then (s.sd i).view else []
/-- nothing is longer than n -/
def Sd.upto (s : Sd) (n : Nat) : Prop := s.b.length ≤ n ∧ s.l.length ≤ n
def St.upto (s : St) (n : Nat) : Prop := s.s0.upto n ∧ s.s1.upto n
theorem fresh_upto (n : Nat) : fresh.upto n := ⟨⟨Nat.zero_le _, Nat.zero_le _⟩, ⟨Nat.zero_le _, Nat.zero_le _⟩⟩
theorem did_upto {s : Sd} {n m : Nat} (h : s.upto n) (fuse : Int) {l : List Nat} (hl : l.length ≤ m) (swap : Bool) : (s.did fuse l swap).upto (n + m) := by
  obtain ⟨h1, h2⟩ := h
  unfold Sd.did
  split
  · exact ⟨by omega, by omega⟩
  · split
    · exact ⟨by show s.b.length ≤ _; omega, by show l.length ≤ _; omega⟩
    · refine ⟨?_, by show s.l.length ≤ _; omega⟩
      unfold Sd.put
      cases swap
      · simp; omega
      · simp; omega
theorem upto_mono {s : St} {n m : Nat} (h : s.upto n) (hm : n ≤ m) : s.upto m := ⟨⟨Nat.le_trans h.1.1 hm, Nat.le_trans h.1.2 hm⟩, ⟨Nat.le_trans h.2.1 hm, Nat.le_trans h.2.2 hm⟩⟩
theorem write_upto {s : St} {n m : Nat} (h : s.upto n) {l : List Nat} (hl : l.length ≤ m) (swap : Bool) : (s.write l swap).upto (n + m) := by
  unfold St.write
  split
  · exact upto_mono h (by omega)
  · split
    · exact upto_mono h (by omega)
    · split
      · exact ⟨did_upto h.1 _ hl _, ⟨Nat.le_trans h.2.1 (by omega), Nat.le_trans h.2.2 (by omega)⟩⟩
      · exact ⟨did_upto h.1 _ hl _, did_upto h.2 _ hl _⟩
theorem all_len (s : Sd) (keep : Int) : (s.all keep).length ≤ s.b.length + s.l.length := by
  unfold Sd.all
  split
  · omega
  · split
    · split <;> omega
    · rw [List.length_append, List.length_take]; omega
end Tp
