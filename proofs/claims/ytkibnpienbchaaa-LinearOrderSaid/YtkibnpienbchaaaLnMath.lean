/- Clients' calls as plain data, beside where their parts lie: whether they are as if done one after the other on a map. No program is named here. -/
import Derived.Test.YtkibnpienbchaaaHsOn
namespace Ln
set_option linter.unusedVariables false
open Go Go.Mem
/-- a call; dA, dC: where its data lies; oA, oC: where what it read; kA, nk, kC: the slice of its keys -/
structure Cl where
  task : Int
  op : Int
  key : ByteArray
  data : List Nat
  dA : Option Addr
  dC : Nat
  fr : Int
  to : Int
  mo : Int
  e : Int
  out : List Nat
  oA : Option Addr
  oC : Nat
  nk : Nat
  kA : Option Addr
  kC : Nat
instance : Inhabited Cl := ⟨⟨0, 0, ⟨#[]⟩, [], none, 0, 0, 0, 0, 0, [], none, 0, 0, none, 0⟩⟩
def enc (x : Cl) : List Value := [.int .i64 x.task, .int .i64 x.op, .string x.key, .slice x.dA x.data.length x.dC, .int .i64 x.fr, .int .i64 x.to, .int .i64 x.mo, .int .i64 x.e, .slice x.oA x.out.length x.oC, .slice x.kA x.nk x.kC]
theorem enc_len (x : Cl) : (enc x).length = 10 := rfl
theorem enc_one (x : Cl) : ∀ v ∈ enc x, v.oneCell' = true := by
  intro v hv
  simp only [enc, List.mem_cons, List.not_mem_nil, or_false] at hv
  rcases hv with rfl | rfl | rfl | rfl | rfl | rfl | rfl | rfl | rfl | rfl <;> rfl
def clVal (x : Cl) : Value := .agg #[.int .i64 x.task, .int .i64 x.op, .string x.key, .slice x.dA x.data.length x.dC, .int .i64 x.fr, .int .i64 x.to, .int .i64 x.mo, .int .i64 x.e, .slice x.oA x.out.length x.oC, .slice x.kA x.nk x.kC]
/-- it was done between its beginning and its end -/
def inIt (c : Cl) : Bool := decide (c.fr ≤ c.mo) && (decide (c.to ≤ 0) || decide (c.mo ≤ c.to))
/-- what there is, by keys: the Put that it is of -/
abbrev Mp := ByteArray → Option Cl
def noMap : Mp := fun _ => none
def put (m : Mp) (c : Cl) : Mp := fun s => if s = c.key then some c else m s
def next (m : Mp) (c : Cl) : Mp := if c.op = 1 then (if c.e = 0 then put m c else m) else m
def got (m : Mp) (c : Cl) : Bool := if c.e = 0 then (match m c.key with | some x => decide (c.out = x.data) | none => false) else if c.e = 7 then (m c.key).isNone else decide (c.e = 8)
/-- of a Put, or a Get, alone -/
def does (m : Mp) (c : Cl) : Bool := if c.op = 1 then true else (decide (c.to = 0) || got m c)
def goes : Mp → List Cl → Bool
  | _, [] => true
  | m, c :: S => inIt c && does m c && goes (next m c) S
def dones (L : List Cl) : List Cl := L.filter (fun c => decide (0 < c.mo))
theorem goes_cons {m : Mp} {S : List Cl} {i : Nat} (hi : i < S.length) : goes m (S.drop i) = (inIt S[i] && does m S[i] && goes (next m S[i]) (S.drop (i + 1))) := by
  rw [List.drop_eq_getElem_cons hi]; rfl
theorem dones_take {L : List Cl} {i : Nat} (hi : i < L.length) : dones (L.take (i + 1)) = if 0 < L[i].mo then dones (L.take i) ++ [L[i]] else dones (L.take i) := by
  rw [List.take_succ_eq_append_getElem hi]
  unfold dones
  rw [List.filter_append]
  by_cases h : 0 < L[i].mo
  · rw [if_pos h]; simp [h]
  · rw [if_neg h]; simp [h]
theorem dones_len (L : List Cl) (i : Nat) : (dones (L.take i)).length ≤ i := by
  have h1 : (dones (L.take i)).length ≤ (L.take i).length := List.length_filter_le _ _
  have h2 : (L.take i).length ≤ i := List.length_take_le _ _
  omega
/-- by their moments, all of them unlike -/
def Ord (S : List Cl) : Prop := S.Pairwise (fun a b => a.mo < b.mo)
theorem sort_one : ∀ {S S' : List Cl}, Ord S → S'.Perm S → S'.Pairwise (fun a b => ¬ b.mo < a.mo) → S' = S
  | [], S', _, hp, _ => hp.eq_nil
  | a :: S, [], _, hp, _ => absurd hp.length_eq (by simp)
  | a :: S, b :: S', h, hp, h' => by
    obtain ⟨h1, h2⟩ := List.pairwise_cons.1 h
    obtain ⟨k1, k2⟩ := List.pairwise_cons.1 h'
    have hb : b = a := by
      rcases List.mem_cons.1 (hp.mem_iff.1 (List.mem_cons_self (a := b) (l := S'))) with q | q
      · exact q
      · rcases List.mem_cons.1 (hp.mem_iff.2 (List.mem_cons_self (a := a) (l := S))) with z | z
        · exact z.symm
        · exact absurd (h1 b q) (k1 a z)
    subst hb
    rw [sort_one h2 ((List.perm_cons b).1 hp) k2]
/-- one that is not between its beginning and its end, and it is not so -/
theorem goes_bad : ∀ {S : List Cl} {m : Mp} {c : Cl}, c ∈ S → inIt c = false → goes m S = false
  | [], m, c, h, _ => by cases h
  | a :: S, m, c, h, hc => by
    unfold goes
    rcases List.mem_cons.1 h with q | q
    · subst q; rw [hc]; rfl
    · rw [goes_bad q hc]; simp
theorem dones_all {L : List Cl} (h : ∀ c ∈ L, 0 < c.mo) : dones L = L := List.filter_eq_self.2 fun c hc => by simpa using h c hc
theorem dones_none {L : List Cl} (h : ∀ c ∈ L, ¬ 0 < c.mo) : dones L = [] := List.filter_eq_nil_iff.2 fun c hc => by simpa using h c hc
end Ln
