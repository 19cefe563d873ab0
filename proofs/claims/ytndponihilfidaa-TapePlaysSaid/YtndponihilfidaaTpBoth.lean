/- Two tapes side by side, and what happens to them: memory that the law of layer 10 of whatever happens goes through. -/
import Derived.Test.YtndponihilfidaaTpLaws
import Derived.Test.YtndponihilfidaaRefCrash
import Derived.Test.YtndponihilfidaaTpActs
namespace Tp
/-- how long a side can be -/
def Sd.tot (s : Sd) (n : Nat) : Prop := s.b.length + s.l.length ≤ n
def St.fit (s : St) (n : Nat) : Prop := s.s0.tot n ∧ s.s1.tot n ∧ s.fuse ≤ 9223372036854775807
theorem fit_upto {s : St} {n : Nat} (h : s.fit n) (hn : n ≤ 1000000) : s.upto 1000000 := by
  obtain ⟨h0, h1, _⟩ := h
  unfold Sd.tot at h0 h1
  exact ⟨⟨by omega, by omega⟩, ⟨by omega, by omega⟩⟩
theorem fresh_fit (n : Nat) : fresh.fit n := ⟨Nat.zero_le _, Nat.zero_le _, by decide⟩
theorem fit_mono {s : St} {n m : Nat} (h : s.fit n) (hm : n ≤ m) : s.fit m := ⟨Nat.le_trans h.1 hm, Nat.le_trans h.2.1 hm, h.2.2⟩
theorem did_tot {s : Sd} {n m : Nat} (h : s.tot n) (f : Int) {l : List Nat} (hl : l.length ≤ m) (sw : Bool) : (s.did f l sw).tot (n + m) := by
  unfold Sd.tot at h
  unfold Sd.did
  split
  · show s.b.length + s.l.length ≤ _; omega
  · split
    · show s.b.length + l.length ≤ _; omega
    · unfold Sd.put
      cases sw
      · show (s.b ++ l).length + s.l.length ≤ _; rw [List.length_append]; omega
      · show l.length + s.l.length ≤ _; omega
theorem left_le {s : Sd} {f : Int} (h : f ≤ 9223372036854775807) : left s f ≤ 9223372036854775807 := by
  unfold left
  split
  · exact h
  · split <;> omega
theorem write_fit {s : St} {n m : Nat} (h : s.fit n) {l : List Nat} (hl : l.length ≤ m) (sw : Bool) : (s.write l sw).fit (n + m) := by
  have h1 : s.s1.tot (n + m) := Nat.le_trans h.2.1 (by omega)
  unfold St.write
  split
  · exact fit_mono h (by omega)
  · split
    · exact fit_mono h (by omega)
    · split
      · exact ⟨did_tot h.1 _ hl _, h1, h.2.2⟩
      · exact ⟨did_tot h.1 _ hl _, did_tot h.2.1 _ hl _, left_le (left_le h.2.2)⟩
theorem crash_fit {s : St} {n : Nat} (h : s.fit n) (keep : Int) : (s.crash keep).fit n := by
  obtain ⟨h0, h1, _⟩ := h
  unfold Sd.tot at h0 h1
  refine ⟨?_, ?_, by show (-1 : Int) ≤ _; omega⟩
  · have := all_len s.s0 keep; show (s.s0.all keep).length + 0 ≤ n; omega
  · have := all_len s.s1 keep; show (s.s1.all keep).length + 0 ≤ n; omega
theorem burn_fit {s : St} {n : Nat} (h : s.fit n) {k : Int} (hk : k ≤ 9223372036854775807) : (s.burn k).fit n := ⟨h.1, h.2.1, by show (if k < 0 then 0 else k) ≤ _; split <;> omega⟩
theorem set_fit {s : St} {n : Nat} (h : s.fit n) (i : Int) {x : Sd} (hx : x.tot n) : (s.set i x).fit n := by
  unfold St.set
  split
  · exact ⟨hx, h.2.1, h.2.2⟩
  · split
    · exact ⟨h.1, hx, h.2.2⟩
    · exact h
theorem lose_fit {s : St} {n : Nat} (h : s.fit n) (i : Int) : (s.lose i).fit n := set_fit h i (Nat.zero_le _)
theorem spoil_fit {s : St} {n m : Nat} (h : s.fit n) (i : Int) {l : List Nat} (hl : l.length ≤ m) : (s.spoil i l).fit (n + m) := set_fit (fit_mono h (by omega)) i (by show l.length + 0 ≤ _; omega)
end Tp
namespace Go.Proofs.Ytndponihilfidaa.Tape
set_option linter.unusedVariables false
open Go.ChangeShapes Go.WideShapes Go.ChangeAt Go.RowKit
open Go.Mem Tp Same
theorem refWriteC {w : World} {G : Nat → Prop} {r : Nat} {t : St} (h : RTp TT w G r t) (ht : t.upto 1000000) (hz : t.fuse ≤ 9223372036854775807) (l : List Nat) (u : Value) (hu : RowIn (fun b => ¬ G b) w u l) (hl : l.length ≤ 1000) (sw : Bool) :
    Calls Try.prog 10 #[.pointer (some ⟨r, 0, none⟩), u, .bool sw] w (WritePost w G r t l sw) := by
  cases hd : t.down
  · by_cases hb : t.s0.lost = true ∧ t.s1.lost = true
    · exact refWrite_lost h ht hz l u hu hl sw hd hb
    · exact refWrite_go h ht hz l u hu hl sw hd hb
  · exact refWrite_down h ht hz l u hu hl sw hd
/-- the program's tapes at p, the document's at r, and blocks N that are neither's -/
def Both (PD : Thing) (W w : World) (p r : Nat) (s t : St) (N : Nat → Prop) : Prop := ∃ F G, PD w F p s ∧ RTp TT w G r t ∧ (∀ b, F b → ¬ G b) ∧ (∀ b, F b → W.heap.size ≤ b) ∧ (∀ b, G b → W.heap.size ≤ b) ∧ Below W.heap.size W w ∧
  (∀ b, N b → ¬ F b ∧ ¬ G b ∧ b < w.heap.size ∧ W.heap.size ≤ b)
variable {PD : Thing} {W w w' : World} {p r : Nat} {s t s' t' : St} {N : Nat → Prop}
theorem Both.bel (h : Both PD W w p r s t N) : Below W.heap.size W w := by
  obtain ⟨F, G, _, _, _, _, _, h, _⟩ := h
  exact h
/-- only blocks of N, and new ones, turn -/
theorem Both.turned (I : Iface PD) (h : Both PD W w p r s t N) (ht : Turned N w w') : Both PD W w' p r s t N := by
  obtain ⟨F, G, h1, h2, h3, h4, h5, h6, h7⟩ := h
  exact ⟨F, G, I.turned h1 ht (fun b hb => (h7 b hb).1), h2.turned ht (fun b hb => (h7 b hb).2.1), h3, h4, h5, h6.trans (ht.below (fun b hb => (h7 b hb).2.2.2) h6.size), fun b hb => ⟨(h7 b hb).1, (h7 b hb).2.1, Nat.lt_of_lt_of_le (h7 b hb).2.2.1 ht.size, (h7 b hb).2.2.2⟩⟩
theorem Both.below (I : Iface PD) (h : Both PD W w p r s t N) (hb : Below w.heap.size w w') : Both PD W w' p r s t N := h.turned I (Turned.of_below N hb)
/-- a block that is new is neither's -/
theorem Both.more (I : Iface PD) (h : Both PD W w p r s t N) (hb : Below w.heap.size w w') {M : Nat → Prop} (hM : ∀ b, M b → w.heap.size ≤ b ∧ b < w'.heap.size) : Both PD W w' p r s t (fun b => N b ∨ M b) := by
  have hlt : ∀ F G, PD w F p s → RTp TT w G r t → ∀ b, M b → ¬ F b ∧ ¬ G b := fun F G k1 k2 b hb => ⟨fun q => by have := I.lt k1 b q; have := hM b hb; omega, fun q => by have := k2.lt b q; have := hM b hb; omega⟩
  obtain ⟨F, G, h1, h2, h3, h4, h5, h6, h7⟩ := h.below I hb
  obtain ⟨F0, G0, k1, k2, k3, k4, k5, k6, k7⟩ := h
  have hx := hb.size
  refine ⟨F0, G0, I.turned k1 (Turned.of_below (fun _ => False) hb) (fun _ q => q.elim), k2.turned (Turned.of_below (fun _ => False) hb) (fun _ q => q.elim), k3, k4, k5, h6, fun b hb' => ?_⟩
  rcases hb' with q | q
  · exact ⟨(k7 b q).1, (k7 b q).2.1, Nat.lt_of_lt_of_le (k7 b q).2.2.1 hx, (k7 b q).2.2.2⟩
  · exact ⟨(hlt F0 G0 k1 k2 b q).1, (hlt F0 G0 k1 k2 b q).2, (hM b q).2, Nat.le_trans k6.size (hM b q).1⟩
theorem Both.less (h : Both PD W w p r s t N) {M : Nat → Prop} (hM : ∀ b, M b → N b) : Both PD W w p r s t M := by
  obtain ⟨F, G, h1, h2, h3, h4, h5, h6, h7⟩ := h
  exact ⟨F, G, h1, h2, h3, h4, h5, h6, fun b hb => h7 b (hM b hb)⟩
theorem Both.prog (I : Iface PD) {F G : Nat → Prop} (h1 : PD w F p s) (h2 : RTp TT w G r t) (h3 : ∀ b, F b → ¬ G b) (h4 : ∀ b, F b → W.heap.size ≤ b) (h5 : ∀ b, G b → W.heap.size ≤ b) (h6 : Below W.heap.size W w)
    (h7 : ∀ b, N b → ¬ F b ∧ ¬ G b ∧ b < w.heap.size ∧ W.heap.size ≤ b) (hd : Does PD F p s' w w') : Both PD W w' p r s' t N ∧ ∀ b, N b → w'.heap[b]? = w.heap[b]? := by
  obtain ⟨F', k1, k2, k3⟩ := hd
  refine ⟨⟨F', G, k1, h2.turned k2 h3, fun b hb hG => ?_, fun b hb => ?_, h5, h6.trans (k2.below h4 h6.size), fun b hb => ⟨fun q => ?_, (h7 b hb).2.1, Nat.lt_of_lt_of_le (h7 b hb).2.2.1 k2.size, (h7 b hb).2.2.2⟩⟩, fun b hb => k2.block b (h7 b hb).2.2.1 (h7 b hb).1⟩
  · rcases k3 b hb with q | q
    · exact h3 b q hG
    · have := h2.lt b hG; omega
  · rcases k3 b hb with q | q
    · exact h4 b q
    · have := h6.size; omega
  · rcases k3 b q with x | x
    · exact (h7 b hb).1 x
    · have := (h7 b hb).2.2.1; omega
theorem Both.ref (I : Iface PD) {F G : Nat → Prop} (h1 : PD w F p s) (h2 : RTp TT w G r t) (h3 : ∀ b, F b → ¬ G b) (h4 : ∀ b, F b → W.heap.size ≤ b) (h5 : ∀ b, G b → W.heap.size ≤ b) (h6 : Below W.heap.size W w)
    (h7 : ∀ b, N b → ¬ F b ∧ ¬ G b ∧ b < w.heap.size ∧ W.heap.size ≤ b) {G' : Nat → Prop} (k1 : RTp TT w' G' r t') (k2 : Turned G w w') (k3 : Grown G G' w) : Both PD W w' p r s t' N ∧ ∀ b, N b → w'.heap[b]? = w.heap[b]? := by
  refine ⟨⟨F, G', I.turned h1 k2 (fun b hb hF => h3 b hF hb), k1, fun b hF hG => ?_, h4, fun b hb => ?_, h6.trans (k2.below h5 h6.size), fun b hb => ⟨(h7 b hb).1, fun q => ?_, Nat.lt_of_lt_of_le (h7 b hb).2.2.1 k2.size, (h7 b hb).2.2.2⟩⟩, fun b hb => k2.block b (h7 b hb).2.2.1 (h7 b hb).2.1⟩
  · rcases k3 b hG with q | q
    · exact h3 b hF q
    · have := I.lt h1 b hF; omega
  · rcases k3 b hb with q | q
    · exact h5 b q
    · have := h6.size; omega
  · rcases k3 b q with x | x
    · exact (h7 b hb).2.1 x
    · have := (h7 b hb).2.2.1; omega
/-- the calls that turn tapes -/
theorem Both.append (I : Iface PD) (h : Both PD W w p r s t N) (hs : s.upto 1000000) (l : List Nat) (u : Value) (hu : RowIn N w u l) (hl : l.length ≤ 1000) :
    Calls Try.prog 9 #[.pointer (some ⟨p, 0, none⟩), u] w fun e w' => e = .returned (.int .i64 s.writeE) ∧ Both PD W w' p r (s.write l false) t N ∧ ∀ b, N b → w'.heap[b]? = w.heap[b]? := by
  obtain ⟨F, G, h1, h2, h3, h4, h5, h6, h7⟩ := h
  exact (I.append h1 hs l u (hu.same (fun _ _ => rfl) (fun b q => (h7 b q).1)) hl).mono fun e w' hh => ⟨hh.1, Both.prog I h1 h2 h3 h4 h5 h6 h7 hh.2⟩
theorem Both.replace (I : Iface PD) (h : Both PD W w p r s t N) (hs : s.upto 1000000) (l : List Nat) (u : Value) (hu : RowIn N w u l) (hl : l.length ≤ 1000) :
    Calls Try.prog 11 #[.pointer (some ⟨p, 0, none⟩), u] w fun e w' => e = .returned (.int .i64 s.writeE) ∧ Both PD W w' p r (s.write l true) t N ∧ ∀ b, N b → w'.heap[b]? = w.heap[b]? := by
  obtain ⟨F, G, h1, h2, h3, h4, h5, h6, h7⟩ := h
  exact (I.replace h1 hs l u (hu.same (fun _ _ => rfl) (fun b q => (h7 b q).1)) hl).mono fun e w' hh => ⟨hh.1, Both.prog I h1 h2 h3 h4 h5 h6 h7 hh.2⟩
theorem Both.spoil (I : Iface PD) (h : Both PD W w p r s t N) (hs : s.upto 1000000) (i : Int) (hi : I64 i) (l : List Nat) (u : Value) (hu : RowIn N w u l) (hl : l.length ≤ 1000) :
    Calls Try.prog 16 #[.pointer (some ⟨p, 0, none⟩), .int .i64 i, u] w fun e w' => e = .returned (.tuple #[]) ∧ Both PD W w' p r (s.spoil i l) t N ∧ ∀ b, N b → w'.heap[b]? = w.heap[b]? := by
  obtain ⟨F, G, h1, h2, h3, h4, h5, h6, h7⟩ := h
  exact (I.spoil h1 hs i l u hi (hu.same (fun _ _ => rfl) (fun b q => (h7 b q).1)) hl).mono fun e w' hh => ⟨hh.1, Both.prog I h1 h2 h3 h4 h5 h6 h7 hh.2⟩
theorem Both.lose (I : Iface PD) (h : Both PD W w p r s t N) (i : Int) (hi : I64 i) :
    Calls Try.prog 15 #[.pointer (some ⟨p, 0, none⟩), .int .i64 i] w fun e w' => e = .returned (.tuple #[]) ∧ Both PD W w' p r (s.lose i) t N ∧ ∀ b, N b → w'.heap[b]? = w.heap[b]? := by
  obtain ⟨F, G, h1, h2, h3, h4, h5, h6, h7⟩ := h
  exact (I.lose h1 i hi).mono fun e w' hh => ⟨hh.1, Both.prog I h1 h2 h3 h4 h5 h6 h7 hh.2⟩
theorem Both.fuse (I : Iface PD) (h : Both PD W w p r s t N) (i : Int) (hi : I64 i) :
    Calls Try.prog 12 #[.pointer (some ⟨p, 0, none⟩), .int .i64 i] w fun e w' => e = .returned (.tuple #[]) ∧ Both PD W w' p r (s.burn i) t N ∧ ∀ b, N b → w'.heap[b]? = w.heap[b]? := by
  obtain ⟨F, G, h1, h2, h3, h4, h5, h6, h7⟩ := h
  exact (I.fuse h1 i hi).mono fun e w' hh => ⟨hh.1, Both.prog I h1 h2 h3 h4 h5 h6 h7 hh.2⟩
theorem Both.crash (I : Iface PD) (h : Both PD W w p r s t N) (hs : s.upto 1000000) (i : Int) (hi : I64 i) :
    Calls Try.prog 13 #[.pointer (some ⟨p, 0, none⟩), .int .i64 i] w fun e w' => e = .returned (.tuple #[]) ∧ Both PD W w' p r (s.crash i) t N ∧ ∀ b, N b → w'.heap[b]? = w.heap[b]? := by
  obtain ⟨F, G, h1, h2, h3, h4, h5, h6, h7⟩ := h
  exact (I.crash h1 hs i hi).mono fun e w' hh => ⟨hh.1, Both.prog I h1 h2 h3 h4 h5 h6 h7 hh.2⟩
theorem Both.read (I : Iface PD) (h : Both PD W w p r s t N) (hs : s.upto 1000000) (i : Int) (hi : I64 i) : Calls Try.prog 17 #[.pointer (some ⟨p, 0, none⟩), .int .i64 i] w fun e w' =>
    ∃ u, e = .returned (.tuple #[u, .int .i64 (s.readE i)]) ∧ Bytes w' u (s.readB i) ∧ Below w.heap.size w w' := by
  obtain ⟨F, G, h1, _⟩ := h
  exact (I.read h1 hs i hi).mono fun e w' hh => by
    obtain ⟨u, k1, k2, k3⟩ := hh
    exact ⟨u, k1, k2.1, k3⟩
theorem Both.rwrite (I : Iface PD) (h : Both PD W w p r s t N) (ht : t.upto 1000000) (hz : t.fuse ≤ 9223372036854775807) (l : List Nat) (u : Value) (hu : Bytes W u l) (hl : l.length ≤ 1000) (sw : Bool) :
    Calls Try.prog 10 #[.pointer (some ⟨r, 0, none⟩), u, .bool sw] w fun e w' => e = .returned (.int .i64 t.writeE) ∧ Both PD W w' p r s (t.write l sw) N ∧ ∀ b, N b → w'.heap[b]? = w.heap[b]? := by
  obtain ⟨F, G, h1, h2, h3, h4, h5, h6, h7⟩ := h
  exact (refWriteC h2 ht hz l u (bytes_away hu h5 h6) hl sw).mono fun e w' hh => by
    obtain ⟨e1, G', k1, k2, k3⟩ := hh
    exact ⟨e1, Both.ref I h1 h2 h3 h4 h5 h6 h7 k1 k2 k3⟩
theorem Both.rcrash (I : Iface PD) (h : Both PD W w p r s t N) (ht : t.upto 1000000) (i : Int) (hi : I64 i) :
    Calls Try.prog 14 #[.pointer (some ⟨r, 0, none⟩), .int .i64 i] w fun e w' => e = .returned (.tuple #[]) ∧ Both PD W w' p r s (t.crash i) N ∧ ∀ b, N b → w'.heap[b]? = w.heap[b]? := by
  obtain ⟨F, G, h1, h2, h3, h4, h5, h6, h7⟩ := h
  exact (refCrashC h2 ht i hi.1 hi.2).mono fun e w' hh => by
    obtain ⟨e1, G', k1, k2, k3⟩ := hh
    exact ⟨e1, Both.ref I h1 h2 h3 h4 h5 h6 h7 k1 k2 k3⟩
/-- a change of the document's tapes that is no call -/
theorem Both.ron (I : Iface PD) (h : Both PD W w p r s t N) : ∃ G V, TpAt TT w G r V t ∧ ∀ (t' : St) (w' : World) (G' : Nat → Prop) (V' : Nat → Value), On w G w' G' r V' t' → Both PD W w' p r s t' N ∧ ∀ b, N b → w'.heap[b]? = w.heap[b]? := by
  obtain ⟨F, G, h1, ⟨V, h2⟩, h3, h4, h5, h6, h7⟩ := h
  exact ⟨G, V, h2, fun t' w' G' V' k => Both.ref I h1 ⟨V, h2⟩ h3 h4 h5 h6 h7 ⟨V', k.1⟩ k.2.1 k.2.2⟩
end Go.Proofs.Ytndponihilfidaa.Tape
