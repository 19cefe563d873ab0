/- Law MatUnit as a walk: products of three, and a unit. -/
import Derived.Test.YtmcodfjaeaociaaMatLaws
import Derived.Test.YtmcodfjaeaociaaInvMath
namespace Go.Proofs.Ytmcodfjaeaociaa.Mat
open Go.ChangeShapes Go.WideShapes Go.ChangeAt Go.RowKit
open Go.Mem
open GfPlain Gf GfLin
theorem times_len (a b : List (List Nat)) : (times a b).length = a.length := tabOf_len _ _ _
theorem times_bd {a b : List (List Nat)} (ha : Byt a) : Byt (times a b) := byt_tab fun r _ c _ => dot_bd (row_bd ha r) c _
theorem can_intro {a b : List (List Nat)} (h1 : fitB a = true) (h2 : fitB b = true) (h3 : width a = b.length) : canTimes a b = true := by
  unfold canTimes; rw [h1, h2, h3]; simp
theorem tab_self {a : List (List Nat)} (h : fitB a = true) : tabOf a.length (width a) (entry a) = a := by
  obtain ⟨_, hw⟩ := fitB_iff.1 h
  refine List.ext_getElem (tabOf_len _ _ _) fun i hi hi' => ?_
  rw [tabOf_get]
  refine List.ext_getElem (by simp; exact (hw i hi' hi').symm) fun j hj hj' => ?_
  unfold entry
  simp [hi', hj']
theorem times_assoc {a b c : List (List Nat)} (ba : Byt a) (bb : Byt b) (bc : Byt c) (pb : 0 < b.length) (h1 : width b = c.length) : times (times a b) c = times a (times b c) := by
  unfold times
  rw [tabOf_len, width_tab pb]
  refine tab_ext fun r hr j hj => tg_inj (dot_bd (row_bd (times_bd (a := a) (b := b) ba) r) j _) (dot_bd (row_bd ba r) j _) ?_
  have bAB : Byt (tabOf a.length (width b) (prodF a b)) := times_bd ba
  have bBC : Byt (tabOf b.length (width c) (prodF b c)) := times_bd bb
  rw [times_entry bAB bc, times_entry ba bBC, tabOf_len]
  rw [S_congr (g := fun k => S b.length (fun i => tg (entry a r i) * tg (entry b i k) * tg (entry c k j))) (fun k hk => by
    rw [entry_tab hr (by omega), times_entry ba bb, S_rmul])]
  rw [S_comm]
  refine S_congr fun i hi => ?_
  rw [entry_tab hi hj, times_entry bb bc, S_mul]
  exact S_congr fun k _ => mulA' _ _ _
theorem unit_bd (n : Nat) : Byt (unitT n) := byt_tab fun r _ c _ => unitF_bd r c
theorem times_one {a : List (List Nat)} (ba : Byt a) (h : fitB a = true) : times (unitT a.length) a = a := by
  have e : times (unitT a.length) a = tabOf a.length (width a) (entry a) := by
    unfold times
    rw [show (unitT a.length).length = a.length from tabOf_len _ _ _]
    refine tab_ext fun r hr c hc => tg_inj (dot_bd (row_bd (unit_bd _) r) c _) (entry_bd ba r c) ?_
    rw [times_entry (unit_bd _) ba, S_one hr (fun i hi hne => by unfold unitT; rw [entry_tab hr hi, tg_unit, eye_off (fun q => hne q.symm), zmul])]
    unfold unitT
    rw [entry_tab hr hr, tg_unit, show eye r r = g1 from if_pos rfl, omul]
  rw [e, tab_self h]
end Go.Proofs.Ytmcodfjaeaociaa.Mat
