/- Rows of words of 32 bits, whole in a block; a row of bytes that was made, as a slice that can be appended to. No program is named here. -/
import Derived.Test.YtcgjoidfmigpnaaDoorOwn
namespace Go.Mem
open Go.RowKit
/-- block b holds n words; word i is F i -/
def Words (w : World) (b t n : Nat) (F : Nat → Nat) : Prop := w.rowIs b t n (fun i => .int .u32 (F i : Nat))
section
variable {w w' : World} {b t n : Nat} {F G : Nat → Nat}
theorem Words.cell (h : Words w b t n F) {i : Nat} (hi : i < n) : w.cell? ⟨b, i, none⟩ = some (.int .u32 (F i : Nat)) := World.rowIs.cell h hi
theorem Words.free (h : Words w b t n F) (i : Nat) : w.frozen? ⟨b, i, none⟩ = false := World.rowIs.frozen h i
theorem Words.lt (h : Words w b t n F) : b < w.heap.size := World.rowIs.lt h
theorem Words.keep (h : Words w b t n F) (e : w'.heap[b]? = w.heap[b]?) : Words w' b t n F := World.rowIs.of_block h e
theorem Words.drewN (h : Words w b t n F) (k : Nat) : Words (w.drewN k) b t n F := h.keep rfl
theorem Words.drew (h : Words w b t n F) : Words w.drew b t n F := h.keep rfl
theorem Words.congr (h : Words w b t n F) (e : ∀ i, i < n → G i = F i) : Words w b t n G := by
  obtain ⟨c, h1, h2, h3⟩ := h
  exact ⟨c, h1, h2, fun i hi => by rw [h3 i hi]; dsimp only; rw [e i hi]⟩
theorem Words.set (h : Words w b t n F) (k x : Nat) : Words (w.setCell ⟨b, k, none⟩ (.int .u32 (x : Nat))) b t n (fun i => if i = k then x else F i) := by
  obtain ⟨c, h1, h2, h3⟩ := World.rowIs.set h k (.int .u32 (x : Nat))
  exact ⟨c, h1, h2, fun i hi => by rw [h3 i hi]; dsimp only; split <;> rfl⟩
theorem Words.below (h : Words w b t n F) (hb : Below w.heap.size w w') : Words w' b t n F := h.keep (hb.block b h.lt)
theorem Words.arr (h : Words w b t n F) : w.heap[b]? = some (.cells ((List.range n).map fun i => Value.int .u32 (F i : Nat)).toArray t (0, 0)) := by
  obtain ⟨c, h1, h2, h3⟩ := h
  rw [h1]
  have : c = ((List.range n).map fun i => Value.int .u32 (F i : Nat)).toArray := by
    apply Array.ext
    · simp [h2]
    · intro i h4 h5
      have h6 := h3 i (by omega)
      rw [Array.getElem?_eq_getElem h4] at h6
      injection h6 with h6
      rw [h6]; simp
  rw [this]
theorem Words.of_block {c : Array Value} (h1 : w.heap[b]? = some (.cells c t (0, 0))) (h2 : c.size = n) (h3 : ∀ i, i < n → c[i]? = some (.int .u32 (F i : Nat))) : Words w b t n F := ⟨c, h1, h2, h3⟩
end
/-- a row of bytes that the call made, as a slice that can be appended to -/
theorem rowIs_built {w : World} {g t n base : Nat} {F : Nat → Nat} (h : w.rowIs g t n (fun i => .int .u8 (F i : Nat))) (hF : ∀ i, i < n → F i < 256) (hb : base ≤ g) (hn : n ≤ 9223372036854775807) :
    Built ByteR w base t (.slice (some ⟨g, 0, none⟩) n n) ((List.range n).map F) := by
  obtain ⟨c, hc, hsz, hV⟩ := h
  refine ⟨c.toList, ⟨by simp [hsz], .inr ⟨g, n, c, by simp, hb, hc, by simp, by unfold maxLen; exact hn, by omega, by simp [← hsz, List.take_of_length_le]⟩⟩, fun i hi => ?_⟩
  have hi' : i < n := by simpa using hi
  exact ⟨.int .u8 (F i : Nat), by rw [Array.getElem?_toList]; exact hV i hi', fun w' _ => ⟨by simp, by simpa using hF i hi'⟩⟩
end Go.Mem
