/- Two drives side by side, and what happens to them: memory that the law of layer 6 of whatever happens goes through. -/
import Derived.Test.YthlonnbafekjbaaDrvKeeps
import Derived.Test.YthlonnbafekjbaaRefPut
import Derived.Test.YthlonnbafekjbaaActs
namespace Go.Proofs.Ythlonnbafekjbaa.Drive
set_option linter.unusedVariables false
open Go.ChangeShapes Go.WideShapes Go.ChangeAt Go.RowKit
open Go.Mem Drv Same
/-- the program's drive at p, the document's at r, and blocks N that are neither's -/
def Both (PD : Thing) (W w : World) (p r : Nat) (s t : St) (N : Nat → Prop) : Prop := ∃ F G, PD w F p s ∧ RDr w G r t ∧ (∀ b, F b → ¬ G b) ∧ (∀ b, F b → W.heap.size ≤ b) ∧ (∀ b, G b → W.heap.size ≤ b) ∧ Below W.heap.size W w ∧
  (∀ b, N b → ¬ F b ∧ ¬ G b ∧ b < w.heap.size ∧ W.heap.size ≤ b)
variable {PD : Thing} {W w w' : World} {p r : Nat} {s t s' t' : St} {N : Nat → Prop}
theorem Both.bel (h : Both PD W w p r s t N) : Below W.heap.size W w := by
  obtain ⟨F, G, _, _, _, _, _, h, _⟩ := h
  exact h
/-- only blocks of N, and new ones, turn -/
theorem Both.turned (I : Iface PD) (h : Both PD W w p r s t N) (ht : Turned N w w') : Both PD W w' p r s t N := by
  obtain ⟨F, G, h1, h2, h3, h4, h5, h6, h7⟩ := h
  exact ⟨F, G, I.turned h1 ht (fun b hb => (h7 b hb).1), h2.turned ht (fun b hb => (h7 b hb).2.1), h3, h4, h5, h6.trans (ht.below (fun b hb => (h7 b hb).2.2.2) h6.size), fun b hb => ⟨(h7 b hb).1, (h7 b hb).2.1, Nat.lt_of_lt_of_le (h7 b hb).2.2.1 ht.size, (h7 b hb).2.2.2⟩⟩
theorem Both.below (I : Iface PD) (h : Both PD W w p r s t N) (hb : Below w.heap.size w w') : Both PD W w' p r s t N := h.turned I (Turned.of_below N hb)
/-- a block that is new is neither's -/
theorem Both.more (I : Iface PD) (h : Both PD W w p r s t N) (hb : Below w.heap.size w w') {M : Nat → Prop} (hM : ∀ b, M b → w.heap.size ≤ b ∧ b < w'.heap.size) : Both PD W w' p r s t (fun b => N b ∨ M b) := by
  have hlt : ∀ F G, PD w F p s → RDr w G r t → ∀ b, M b → ¬ F b ∧ ¬ G b := fun F G k1 k2 b hb => ⟨fun q => by have := I.lt k1 b q; have := hM b hb; omega, fun q => by have := k2.lt b q; have := hM b hb; omega⟩
  obtain ⟨F, G, h1, h2, h3, h4, h5, h6, h7⟩ := h.below I hb
  obtain ⟨F0, G0, k1, k2, k3, k4, k5, k6, k7⟩ := h
  have hx := hb.size
  refine ⟨F0, G0, I.turned k1 (Turned.of_below (fun _ => False) hb) (fun _ q => q.elim), k2.turned (Turned.of_below (fun _ => False) hb) (fun _ q => q.elim), k3, k4, k5, h6, fun b hb' => ?_⟩
  rcases hb' with q | q
  · exact ⟨(k7 b q).1, (k7 b q).2.1, Nat.lt_of_lt_of_le (k7 b q).2.2.1 hx, (k7 b q).2.2.2⟩
  · exact ⟨(hlt F0 G0 k1 k2 b q).1, (hlt F0 G0 k1 k2 b q).2, (hM b q).2, Nat.le_trans k6.size (hM b q).1⟩
theorem Both.less (h : Both PD W w p r s t N) {M : Nat → Prop} (hM : ∀ b, M b → N b) : Both PD W w p r s t M := by
  obtain ⟨F, G, h1, h2, h3, h4, h5, h6, h7⟩ := h
  exact ⟨F, G, h1, h2, h3, h4, h5, h6, fun b hb => h7 b (hM b hb)⟩
theorem Both.prog (I : Iface PD) {F G : Nat → Prop} (h1 : PD w F p s) (h2 : RDr w G r t) (h3 : ∀ b, F b → ¬ G b) (h4 : ∀ b, F b → W.heap.size ≤ b) (h5 : ∀ b, G b → W.heap.size ≤ b) (h6 : Below W.heap.size W w)
    (h7 : ∀ b, N b → ¬ F b ∧ ¬ G b ∧ b < w.heap.size ∧ W.heap.size ≤ b) (hd : Does PD F p s' w w') : Both PD W w' p r s' t N ∧ ∀ b, N b → w'.heap[b]? = w.heap[b]? := by
  obtain ⟨F', k1, k2, k3⟩ := hd
  refine ⟨⟨F', G, k1, h2.turned k2 h3, fun b hb hG => ?_, fun b hb => ?_, h5, h6.trans (k2.below h4 h6.size), fun b hb => ⟨fun q => ?_, (h7 b hb).2.1, Nat.lt_of_lt_of_le (h7 b hb).2.2.1 k2.size, (h7 b hb).2.2.2⟩⟩, fun b hb => k2.block b (h7 b hb).2.2.1 (h7 b hb).1⟩
  · rcases k3 b hb with q | q
    · exact h3 b q hG
    · have := h2.lt b hG; omega
  · rcases k3 b hb with q | q
    · exact h4 b q
    · have := h6.size; omega
  · rcases k3 b q with x | x
    · exact (h7 b hb).1 x
    · have := (h7 b hb).2.2.1; omega
theorem Both.ref (I : Iface PD) {F G : Nat → Prop} (h1 : PD w F p s) (h2 : RDr w G r t) (h3 : ∀ b, F b → ¬ G b) (h4 : ∀ b, F b → W.heap.size ≤ b) (h5 : ∀ b, G b → W.heap.size ≤ b) (h6 : Below W.heap.size W w)
    (h7 : ∀ b, N b → ¬ F b ∧ ¬ G b ∧ b < w.heap.size ∧ W.heap.size ≤ b) {G' : Nat → Prop} (k1 : RDr w' G' r t') (k2 : Turned G w w') (k3 : Grown G G' w) : Both PD W w' p r s t' N ∧ ∀ b, N b → w'.heap[b]? = w.heap[b]? := by
  refine ⟨⟨F, G', I.turned h1 k2 (fun b hb hF => h3 b hF hb), k1, fun b hF hG => ?_, h4, fun b hb => ?_, h6.trans (k2.below h5 h6.size), fun b hb => ⟨(h7 b hb).1, fun q => ?_, Nat.lt_of_lt_of_le (h7 b hb).2.2.1 k2.size, (h7 b hb).2.2.2⟩⟩, fun b hb => k2.block b (h7 b hb).2.2.1 (h7 b hb).2.1⟩
  · rcases k3 b hG with q | q
    · exact h3 b hF q
    · have := I.lt h1 b hF; omega
  · rcases k3 b hb with q | q
    · exact h5 b q
    · have := h6.size; omega
  · rcases k3 b q with x | x
    · exact (h7 b hb).2.1 x
    · have := (h7 b hb).2.2.1; omega
/-- the calls that turn a drive -/
theorem Both.write (I : Iface PD) (h : Both PD W w p r s t N) (i : Int) (l : List Nat) (u : Value) (l0 : -9223372036854775808 ≤ i) (u0 : i ≤ 9223372036854775807) (hu : Bytes w u l) (hl : l.length ≤ 100000) (hs : s.loose.length ≤ 1000) :
    Calls Try.prog 11 #[.pointer (some ⟨p, 0, none⟩), .int .i64 i, u] w fun e w' => e = .returned (.int .i64 (s.putE i l.length)) ∧ Both PD W w' p r (s.put i l) t N ∧ ∀ b, N b → w'.heap[b]? = w.heap[b]? := by
  obtain ⟨F, G, h1, h2, h3, h4, h5, h6, h7⟩ := h
  exact (I.write h1 i l u l0 u0 hu hl hs).mono fun e w' hh => ⟨hh.1, Both.prog I h1 h2 h3 h4 h5 h6 h7 hh.2⟩
theorem Both.flush (I : Iface PD) (h : Both PD W w p r s t N) (hs : s.loose.length ≤ 1000) :
    Calls Try.prog 13 #[.pointer (some ⟨p, 0, none⟩)] w fun e w' => e = .returned (.int .i64 s.flushE) ∧ Both PD W w' p r s.flush t N ∧ ∀ b, N b → w'.heap[b]? = w.heap[b]? := by
  obtain ⟨F, G, h1, h2, h3, h4, h5, h6, h7⟩ := h
  exact (I.flush h1 hs).mono fun e w' hh => ⟨hh.1, Both.prog I h1 h2 h3 h4 h5 h6 h7 hh.2⟩
theorem Both.crash (I : Iface PD) (h : Both PD W w p r s t N) (hs : s.loose.length ≤ 1000) (keep : Nat) (hk : keep < 18446744073709551616) :
    Calls Try.prog 15 #[.pointer (some ⟨p, 0, none⟩), .int .u64 keep] w fun e w' => e = .returned (.tuple #[]) ∧ Both PD W w' p r (s.crash keep) t N ∧ ∀ b, N b → w'.heap[b]? = w.heap[b]? := by
  obtain ⟨F, G, h1, h2, h3, h4, h5, h6, h7⟩ := h
  exact (I.crash h1 hs keep hk).mono fun e w' hh => ⟨hh.1, Both.prog I h1 h2 h3 h4 h5 h6 h7 hh.2⟩
theorem Both.lose (I : Iface PD) (h : Both PD W w p r s t N) :
    Calls Try.prog 17 #[.pointer (some ⟨p, 0, none⟩)] w fun e w' => e = .returned (.tuple #[]) ∧ Both PD W w' p r s.lose t N ∧ ∀ b, N b → w'.heap[b]? = w.heap[b]? := by
  obtain ⟨F, G, h1, h2, h3, h4, h5, h6, h7⟩ := h
  exact (I.lose h1).mono fun e w' hh => ⟨hh.1, Both.prog I h1 h2 h3 h4 h5 h6 h7 hh.2⟩
theorem Both.put (I : Iface PD) (h : Both PD W w p r s t N) (i : Int) (l : List Nat) (u : Value) (l0 : -9223372036854775808 ≤ i) (u0 : i ≤ 9223372036854775807) (hu : Bytes w u l) (hs : t.loose.length ≤ 1000) :
    Calls Try.prog 12 #[.pointer (some ⟨r, 0, none⟩), .int .i64 i, u] w fun e w' => e = .returned (.int .i64 (t.putE i l.length)) ∧ Both PD W w' p r s (t.put i l) N ∧ ∀ b, N b → w'.heap[b]? = w.heap[b]? := by
  obtain ⟨F, G, h1, h2, h3, h4, h5, h6, h7⟩ := h
  exact (refPutC h2 (by omega) i l0 u0 l u hu).mono fun e w' hh => by
    obtain ⟨e1, G', k1, k2, k3⟩ := hh
    exact ⟨e1, Both.ref I h1 h2 h3 h4 h5 h6 h7 k1 k2 k3⟩
theorem Both.rflush (I : Iface PD) (h : Both PD W w p r s t N) (hs : t.loose.length ≤ 1000) :
    Calls Try.prog 14 #[.pointer (some ⟨r, 0, none⟩)] w fun e w' => e = .returned (.int .i64 t.flushE) ∧ Both PD W w' p r s t.flush N ∧ ∀ b, N b → w'.heap[b]? = w.heap[b]? := by
  obtain ⟨F, G, h1, h2, h3, h4, h5, h6, h7⟩ := h
  exact (refFlushC h2 (by omega)).mono fun e w' hh => by
    obtain ⟨e1, k1, k2⟩ := hh
    exact ⟨e1, Both.ref I h1 h2 h3 h4 h5 h6 h7 k1 k2 (Grown.refl _ _)⟩
theorem Both.rcrash (I : Iface PD) (h : Both PD W w p r s t N) (hs : t.loose.length ≤ 1000) (keep : Nat) (hk : keep < 18446744073709551616) :
    Calls Try.prog 16 #[.pointer (some ⟨r, 0, none⟩), .int .u64 keep] w fun e w' => e = .returned (.tuple #[]) ∧ Both PD W w' p r s (t.crash keep) N ∧ ∀ b, N b → w'.heap[b]? = w.heap[b]? := by
  obtain ⟨F, G, h1, h2, h3, h4, h5, h6, h7⟩ := h
  exact (refCrashC h2 (by omega) keep hk).mono fun e w' hh => by
    obtain ⟨e1, k1, k2⟩ := hh
    exact ⟨e1, Both.ref I h1 h2 h3 h4 h5 h6 h7 k1 k2 (Grown.refl _ _)⟩
theorem lose_at {T tS tW : Nat} {G : Nat → Prop} (h : Dr T tS tW w G r t) : Dr T tS tW (((w.setCell ⟨r, 2, none⟩ (.bool true)).setCell ⟨r, 1, none⟩ (.slice none 0 0)).setCell ⟨r, 0, none⟩ (.slice none 0 0)) G r t.lose := by
  obtain ⟨R, S, L, V, X, h⟩ := h
  refine ⟨R, .slice none 0 0, .slice none 0 0, V, X, (((h.head.set 2 (.bool true)).set 1 (.slice none 0 0)).set 0 (.slice none 0 0)).congr fun i hi => ?_, .inl ⟨rfl, rfl⟩, fun i hi => absurd hi (by simp [St.lose]), World.ownsRow_nil _ _ _ _, fun j hj => absurd hj (by simp [St.lose]), (fun b hb => by cases hb), h.fp, h.rp, h.rf, fun b hb => by simpa [World.setCell] using h.lt b hb, lose_ok t⟩
  unfold fld
  rcases (by omega : i = 0 ∨ i = 1 ∨ i = 2) with rfl | rfl | rfl <;> rfl
theorem Both.rlose (I : Iface PD) (h : Both PD W w p r s t N) : Both PD W (((w.setCell ⟨r, 2, none⟩ (.bool true)).setCell ⟨r, 1, none⟩ (.slice none 0 0)).setCell ⟨r, 0, none⟩ (.slice none 0 0)) p r s t.lose N ∧
    ∀ b, N b → (((w.setCell ⟨r, 2, none⟩ (.bool true)).setCell ⟨r, 1, none⟩ (.slice none 0 0)).setCell ⟨r, 0, none⟩ (.slice none 0 0)).heap[b]? = w.heap[b]? := by
  obtain ⟨F, G, h1, h2, h3, h4, h5, h6, h7⟩ := h
  have k := lose_at h2
  have hr := h2.fp
  exact Both.ref I h1 h2 h3 h4 h5 h6 h7 k (((Turned.set (.bool true) hr).trans (Turned.set (.slice none 0 0) hr) (Grown.refl _ _)).trans (Turned.set (.slice none 0 0) hr) (Grown.refl _ _)) (Grown.refl _ _)
/-- what the document's drive reads as -/
theorem Both.rat (h : Both PD W w p r s t N) : ∃ G R S L V X, RAt w r G R S L V X t := by
  obtain ⟨F, G, _, ⟨R, S, L, V, X, h⟩, _⟩ := h
  exact ⟨G, R, S, L, V, X, h⟩
end Go.Proofs.Ythlonnbafekjbaa.Drive
