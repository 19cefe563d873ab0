/- The padding of a text in two parts: whole blocks, and the last ones. -/
import Derived.Test.YtcgjoidfmigpnaaDoorHashEnd
namespace Sha
/-- the last blocks of l, of which the first q blocks stand by themselves -/
def endOf (l : List Nat) (q : Nat) : List Nat := l.drop (64 * q) ++ [128] ++ List.replicate (zerosOf (l.drop (64 * q)).length) 0 ++ numB (l.length * 8) 8
theorem endOf_len {l : List Nat} {q R : Nat} (hl : l.length = 64 * q + R) : (endOf l q).length = R + 1 + zerosOf R + 8 := by
  have hd : (l.drop (64 * q)).length = R := by rw [List.length_drop]; omega
  unfold endOf
  rw [hd]
  simp only [List.length_append, List.length_replicate, numB_len, hd, List.length_cons, List.length_nil]
theorem pad_parts {l : List Nat} {q R : Nat} (hl : l.length = 64 * q + R) (h5 : l.length ≤ 100000) : pad l = l.take (64 * q) ++ endOf l q := by
  have hd : (l.drop (64 * q)).length = R := by rw [List.length_drop]; omega
  have hz : zerosOf R = zerosOf l.length := by unfold zerosOf; omega
  unfold pad endOf
  rw [hd, hz, Nat.mod_eq_of_lt (by omega), Nat.mul_comm 8]
  simp only [← List.append_assoc, List.take_append_drop]
theorem sha_parts {l : List Nat} {q R : Nat} (hl : l.length = 64 * q + R) (h5 : l.length ≤ 100000) (hR : R < 64) :
    ∃ e, e ≤ 10000 ∧ (endOf l q).length = 64 * e ∧ sha l = outB (blocksFrom (endOf l q) (blocksFrom (l.take (64 * q)) begun q) e) 8 := by
  have h1 := endOf_len hl
  have h2 : zerosOf R = (119 - R % 64) % 64 := rfl
  obtain ⟨e, he⟩ : ∃ e, (endOf l q).length = 64 * e := ⟨(endOf l q).length / 64, by omega⟩
  refine ⟨e, by omega, he, ?_⟩
  have ht : (l.take (64 * q)).length = 64 * q := by rw [List.length_take]; omega
  unfold sha
  rw [← blocksFrom_begun, pad_parts hl h5, List.length_append, ht, he, show (64 * q + 64 * e) / 64 = q + e by omega, blocksFrom_right ht]
end Sha
