/- The laws of layer 5 as walks. -/
import Derived.Test.YtcgjoidfmigpnaaDoorHashWei
import Derived.Test.YtcgjoidfmigpnaaDoorSame
namespace Go.Proofs.YtcgjoidfmigpnaaDoor.Hash
open Go.ChangeShapes Go.WideShapes Go.ChangeAt Go.RowKit
open Go.Mem Sha Same
theorem no_bytes (w : World) : Bytes w (.slice none 0 0) [] := ⟨none, 0, 0, rfl, rfl, Nat.le_refl _, Nat.zero_le _, fun _ => rfl, fun i hi => absurd hi (by simp)⟩
theorem sha_nil_at {i : Nat} (hi : i < 4) (h : i < (sha []).length) : (sha [])[i] = ([227, 176, 196, 66] : List Nat).getD i 0 := by
  have h1 : ((sha []).take 4)[i]? = ([227, 176, 196, 66] : List Nat)[i]? := by rw [sha_nil]
  rw [List.getElem?_take, if_pos hi, List.getElem?_eq_getElem h] at h1
  rw [List.getD_eq_getElem?_getD, ← h1]; rfl
theorem same_self (l : List Nat) : sameB l l = true := decide_eq_true rfl
end Go.Proofs.YtcgjoidfmigpnaaDoor.Hash
