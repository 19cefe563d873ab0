/- The lines of a text, one by one. -/
import Derived.Test.YtegnheonncoodaaDoorScRd
import Derived.Test.YtegnheonncoodaaDoorScRng
import Derived.RangeFuncBound
import Derived.RangeFuncBox
import Derived.RangeFuncCalls
import Derived.RangeFuncLeaves
import Derived.Shelf.Abstract
import Derived.OwnWalkIn
import Derived.TacticsInMore
import Derived.LoopNIn
import Derived.LoopIn
namespace Go.Proofs.YtegnheonncoodaaDoor.Scr
set_option linter.unusedVariables false
open Go.ChangeShapes Go.WideShapes Go.ChangeAt Go.RowKit Go.Shelf
open Go.Mem Sc
attribute [local go_sem] Oper.semAt_some
theorem linesC (t : List UInt8) (w : World) : Calls Tryd.prog 16 #[.string (str t)] w fun e w' => e = .returned (.func (.func 26) #[] #[.pointer (some ⟨w.heap.size, 0, none⟩)]) ∧ w' = w.alloc (.cells #[.string (str t)] 9) := by
  go_enter Tryd.func16, Tryd.ntmps16
  go_wp2_with fail
  go_ret
  exact ⟨rfl, rfl⟩
theorem lines_cut {t : List UInt8} {i : Nat} (h : Lib.indexByte t 10 = i) (hi : i < t.length) : lines t = t.take (i + 1) :: lines (t.drop (i + 1)) := by
  obtain ⟨h1, h2⟩ := Lib.indexByte_some h
  have hn : (10 : UInt8) ∉ t.take i := fun q => by
    obtain ⟨k, hk, e⟩ := List.getElem_of_mem q
    have hk' : k < i := by rw [List.length_take] at hk; omega
    refine h2 k hk' ?_
    rw [List.getElem_take] at e
    rw [← e]
    exact List.getElem?_eq_getElem (by omega)
  have e : t = t.take i ++ 10 :: t.drop (i + 1) := by
    conv => lhs; rw [← List.take_append_drop i t, List.drop_eq_getElem_cons hi]
    rw [show t[i] = 10 by rw [List.getElem?_eq_getElem hi] at h1; exact Option.some.inj h1]
  have e2 : t.take (i + 1) = t.take i ++ [10] := by
    rw [List.take_succ_eq_append_getElem hi, show t[i] = 10 by rw [List.getElem?_eq_getElem hi] at h1; exact Option.some.inj h1]
  rw [e2]
  conv => lhs; rw [e]
  exact lines_hit _ _ hn
theorem lines_rest {t : List UInt8} (h : Lib.indexByte t 10 = -1) (h0 : t ≠ []) : lines t = [t] := by
  refine lines_miss t (fun q => ?_) h0
  obtain ⟨k, hk, e⟩ := List.getElem_of_mem q
  exact Lib.indexByte_none h k (by rw [← e]; exact List.getElem?_eq_getElem hk)
/-- the text that is left, in its box -/
def Left (b : Nat) (t : List UInt8) (W : World) : Prop := W.rowIs b 9 1 (fun _ => .string (str t))
theorem Left.cell {b : Nat} {t : List UInt8} {W : World} (h : Left b t W) : W.cell? ⟨b, 0, none⟩ = some (.string (str t)) := World.rowIs.cell h (i := 0) (by omega)
theorem Left.free {b : Nat} {t : List UInt8} {W : World} (h : Left b t W) : W.frozen? ⟨b, 0, none⟩ = false := World.rowIs.frozen h 0
theorem Left.put {b : Nat} {t : List UInt8} {W : World} (h : Left b t W) (u : List UInt8) : Left b u (W.setCell ⟨b, 0, none⟩ (.string (str u))) := (World.rowIs.set h 0 _).congr fun i hi => by
  have : i = 0 := by omega
  subst this; rfl
theorem Left.stays {b : Nat} {t : List UInt8} {W W' : World} (h : Left b t W) (hs : Stays b W W') : Left b t W' := World.rowIs.of_block h hs
theorem Left.drew {b : Nat} {t : List UInt8} {W : World} (h : Left b t W) : Left b t W.drew := h
def leftOf (b : Nat) (W : World) : Nat := match W.cell? ⟨b, 0, none⟩ with
  | some (.string s) => s.size
  | _ => 0
theorem Left.left {b : Nat} {t : List UInt8} {W : World} (h : Left b t W) : leftOf b W = t.length := by unfold leftOf; rw [h.cell]; exact str_size t
/-- a line that is not too long -/
abbrev Ln := { x : List UInt8 // x.length ≤ 1000000 }
def raw (l : List Ln) : List (List UInt8) := l.map (·.1)
theorem raw_snoc (l : List Ln) (x : Ln) : raw (l ++ [x]) = raw l ++ [x.1] := by simp [raw]
theorem raw_len (l : List Ln) : (raw l).length = l.length := by simp [raw]
set_option maxRecDepth 100000 in
set_option maxHeartbeats 4000000 in
theorem lines1_in (n : Nat) (hn : 1 ≤ n) (l b : Nat) (t : List UInt8) (ht : t.length ≤ 1000000) (J Jx : List Ln → World → Prop) (hJ : Abide b J) (hJx : Abide b Jx)
    (hY : ∀ pre (x : Ln) W1, J pre W1 → pre.length < 1000000 → YieldAt Fence.wide (n - 1) Tryd.prog l #[.string (str x.1)] W1 fun e W' => (e = .returned (.bool true) ∧ J (pre ++ [x]) W' ∧ Stays b W1 W') ∨ (e = .returned (.bool false) ∧ Jx (pre ++ [x]) W'))
    (W : World) (hb : Left b t W) (h0 : J [] W) :
    CallsIn Fence.wide n Tryd.prog 26 #[.func (.yield l) #[] #[], .pointer (some ⟨b, 0, none⟩)] W fun e W' => (∃ v, e = .returned v) ∧ ((∃ xs, raw xs = lines t ∧ J xs W') ∨ (∃ pre, (∃ r, lines t = raw pre ++ r) ∧ Jx pre W')) := by
  refine callsIn_of_wp Tryd.func26 rfl trivial ?_ rfl
  simp only [Tryd.ntmps26, List.size_toArray, List.length_cons, List.length_nil, Nat.reduceAdd, Nat.reduceSub, Array.replicate_succ, Array.replicate_zero, List.push_toArray, List.append_toArray, List.nil_append, List.cons_append]
  gi_wp2
  gi_loopw [3] (fun _ wr => ∃ (pre : List Ln) (r : List UInt8), r.length ≤ 1000000 ∧ Hid (lines t = raw pre ++ lines r) ∧ J pre wr ∧ Left b r wr) (fun _ wr => leftOf b wr)
  case atStart => exact ⟨[], t, ht, rfl, h0, hb⟩
  case round =>
    obtain ⟨pre, r, hr, HL, hJp, hLf⟩ := hrel
    have hc := hLf.cell
    have hfr := hLf.free
    have hlf := hLf.left
    have hsz := str_size r
    by_cases hr0 : r = []
    · subst hr0
      gi_wp2
      go_end0
      exact ⟨⟨_, rfl⟩, .inl ⟨_, by have := HL.out; rw [lines_nil, List.append_nil] at this; exact this.symm, hJp⟩⟩
    · have hcnt : ∀ (m : Nat), (lines r).length = m + 1 → pre.length < 1000000 := fun m hm => by
        have h1 := congrArg List.length HL.out
        have h2 := lines_le t
        rw [List.length_append, raw_len, hm] at h1
        omega
      have hpos : 0 < r.length := by cases r with
        | nil => exact absurd rfl hr0
        | cons c r => simp
      rcases index_cases r 10 with hi | ⟨i, hi, hil⟩
      · have HE := Lib.hid (lines_rest hi hr0)
        have hcn := hcnt 0 (by rw [HE.out]; rfl)
        have HI := Lib.hid hi
        have hLf2 := hLf.put []
        have hJ2 := hJ _ _ _ hJp (grown_set (o := 0) (World.grownBy.refl wr (some b)) (.string ⟨#[]⟩))
        obtain ⟨fn, tmps, assign, body, hy, hR⟩ := hY pre ⟨r, hr⟩ _ hJ2 hcn
        clear hi hr0 hJ2 hcnt hcn
        dsimp only at hy
        gi_wp2_with (refine ⟨trivial, ?_⟩; gi_at_call 27; refine (callsIn_wide.2 (Tryd.strings_IndexByte (str r) 10 _)).mono ?_; rintro e w' ⟨rfl, rfl⟩; rw [show Lib.indexByte (str r).data.toList (10 : Int).toNat.toUInt8 = -1 from HI.out])
        refine hR.mono ?_
        rintro e W3 (⟨rfl, hJ3, hk3⟩ | ⟨rfl, hJx3⟩)
        · have hL3 := Left.stays hLf2 hk3
          have hm : leftOf b W3 = 0 := hL3.left
          have HM := Lib.hid hm
          clear hm hc hfr
          gi_wp2
          go_roundw
          case rel => exact ⟨pre ++ [⟨r, hr⟩], [], by simp, by rw [Hid, HL.out, HE.out, lines_nil, raw_snoc]; simp, hJ3, hL3⟩
          case measure => rw [HM.out]; omega
        · gi_wp2
          refine bodyPost_ret (results_none rfl _ _ _) rfl ?_
          exact ⟨⟨_, rfl⟩, .inr ⟨_, ⟨[], by rw [HL.out, HE.out, List.append_nil, raw_snoc]⟩, hJx3⟩⟩
      · have HE := Lib.hid (lines_cut hi hil)
        have hcn := hcnt (lines (r.drop (i + 1))).length (by rw [HE.out]; rfl)
        have HI := Lib.hid hi
        have hLf2 := (hLf.put (r.drop (i + 1))).drew
        have hg : wr.grownBy (wr.setCell ⟨b, 0, none⟩ (.string (str (r.drop (i + 1))))).drew (some b) := grown_drewN (grown_set (o := 0) (World.grownBy.refl wr (some b)) (.string (str (r.drop (i + 1))))) 1
        have hJ2 := hJ _ _ _ hJp hg
        obtain ⟨fn, tmps, assign, body, hy, hR⟩ := hY pre ⟨r.take (i + 1), Nat.le_trans (List.length_take_le _ _) (by omega)⟩ _ hJ2 hcn
        have hw : IntKind.i64.wrap ((i : Int) + 1) = (i : Int) + 1 := IntWalk.i64_in _ (by omega)
        have q1 : 0 ≤ (i : Int) + 1 := by omega
        have q2 : ((i : Int) + 1).toNat = i + 1 := by omega
        have q3 : (i : Int) + 1 ≤ (r.length : Int) := by omega
        have s1 : (str r).extract 0 (i + 1) = str (r.take (i + 1)) := str_eq (by rw [Lib.extract_data, List.drop_zero, Nat.sub_zero]; rfl)
        have s2 : (str r).extract (i + 1) r.length = str (r.drop (i + 1)) := str_eq (by rw [← hsz, Lib.extract_to_end]; rfl)
        clear hi hr0 hJ2 hcnt hcn
        dsimp only at hy
        gi_wp2_with (refine ⟨trivial, ?_⟩; gi_at_call 27; refine (callsIn_wide.2 (Tryd.strings_IndexByte (str r) 10 _)).mono ?_; rintro e w' ⟨rfl, rfl⟩; rw [show Lib.indexByte (str r).data.toList (10 : Int).toNat.toUInt8 = (i : Int) from HI.out])
        gi_region
        gi_wp2
        refine hR.mono ?_
        rintro e W3 (⟨rfl, hJ3, hk3⟩ | ⟨rfl, hJx3⟩)
        · have hL3 := Left.stays hLf2 hk3
          have hm : leftOf b W3 = (r.drop (i + 1)).length := hL3.left
          rw [List.length_drop] at hm
          have HM := Lib.hid hm
          clear hm hc hfr
          gi_wp2
          go_roundw
          case rel => exact ⟨pre ++ [⟨r.take (i + 1), Nat.le_trans (List.length_take_le _ _) (by omega)⟩], r.drop (i + 1), by rw [List.length_drop]; omega, by rw [Hid, HL.out, HE.out, raw_snoc]; simp, hJ3, hL3⟩
          case measure => rw [HM.out]; omega
        · gi_wp2
          refine bodyPost_ret (results_none rfl _ _ _) rfl ?_
          exact ⟨⟨_, rfl⟩, .inr ⟨_, ⟨lines (r.drop (i + 1)), by rw [HL.out, HE.out, raw_snoc]; simp⟩, hJx3⟩⟩
theorem lines_tell (n : Nat) (hn : 1 ≤ n) (b : Nat) (t : List UInt8) (ht : t.length ≤ 1000000) (w : World) (hlt : b < w.heap.size) (hb : Left b t w) :
    Tells Fence.wide n Tryd.prog 26 #[.pointer (some ⟨b, 0, none⟩)] (fun x : Ln => #[.string (str x.1)]) b (fun xs => raw xs = lines t) (fun pre => ∃ r, lines t = raw pre ++ r) 1000000 w := fun l J Jx W hW hJ hJx hY h0 =>
  lines1_in n hn l b t ht J Jx hJ hJx hY W (hb.stays (hW.block b hlt)) h0
end Go.Proofs.YtegnheonncoodaaDoor.Scr
