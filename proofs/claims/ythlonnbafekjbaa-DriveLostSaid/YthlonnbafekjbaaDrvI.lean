/- What the laws of layer 6 ask of the program's drive: its calls' contracts, over whatever stands for a drive in memory. -/
import Derived.Test.YthlonnbafekjbaaRows
import Derived.Test.YthlonnbafekjbaaFoot
import Derived.Test.YthlonnbafekjbaaDrvSt
import Derived.Test.YthlonnbafekjbaaWrites
import Derived.Test.YthlonnbafekjbaaZeros
import Derived.Test.YthlonnbafekjbaaSame
import Derived.Laws.BytesArg
namespace Go.Proofs.Ythlonnbafekjbaa.Drive
set_option linter.unusedVariables false
open Go.ChangeShapes Go.WideShapes Go.ChangeAt Go.RowKit
open Go.Mem Drv
abbrev Thing := World → (Nat → Prop) → Nat → St → Prop
def ptr (p : Nat) : Value := .pointer (some ⟨p, 0, none⟩)
/-- the drive does as s' behind a call -/
def Does (PD : Thing) (F : Nat → Prop) (p : Nat) (s' : St) (w w' : World) : Prop := ∃ F', PD w' F' p s' ∧ Turned F w w' ∧ Grown F F' w
structure Iface (PD : Thing) : Prop where
  turned : ∀ {w w' : World} {F G : Nat → Prop} {p : Nat} {s : St}, PD w F p s → Turned G w w' → (∀ b, G b → ¬ F b) → PD w' F p s
  lt : ∀ {w : World} {F : Nat → Prop} {p : Nat} {s : St}, PD w F p s → ∀ b, F b → b < w.heap.size
  new : ∀ (n : Int) (w : World), -9223372036854775808 ≤ n → n ≤ 9223372036854775807 → Calls Try.prog 9 #[.int .i64 n] w fun e w' => ∃ F p, e = .returned (.pointer (some ⟨p, 0, none⟩)) ∧ PD w' F p (fresh n) ∧ (∀ b, F b → w.heap.size ≤ b) ∧ Below w.heap.size w w'
  write : ∀ {w : World} {F : Nat → Prop} {p : Nat} {s : St}, PD w F p s → ∀ (i : Int) (l : List Nat) (u : Value), -9223372036854775808 ≤ i → i ≤ 9223372036854775807 → Bytes w u l → l.length ≤ 100000 → s.loose.length ≤ 1000 →
    Calls Try.prog 11 #[.pointer (some ⟨p, 0, none⟩), .int .i64 i, u] w fun e w' => e = .returned (.int .i64 (s.putE i l.length)) ∧ Does PD F p (s.put i l) w w'
  flush : ∀ {w : World} {F : Nat → Prop} {p : Nat} {s : St}, PD w F p s → s.loose.length ≤ 1000 → Calls Try.prog 13 #[.pointer (some ⟨p, 0, none⟩)] w fun e w' => e = .returned (.int .i64 s.flushE) ∧ Does PD F p s.flush w w'
  crash : ∀ {w : World} {F : Nat → Prop} {p : Nat} {s : St}, PD w F p s → s.loose.length ≤ 1000 → ∀ keep : Nat, keep < 18446744073709551616 → Calls Try.prog 15 #[.pointer (some ⟨p, 0, none⟩), .int .u64 keep] w fun e w' => e = .returned (.tuple #[]) ∧ Does PD F p (s.crash keep) w w'
  lose : ∀ {w : World} {F : Nat → Prop} {p : Nat} {s : St}, PD w F p s → Calls Try.prog 17 #[.pointer (some ⟨p, 0, none⟩)] w fun e w' => e = .returned (.tuple #[]) ∧ Does PD F p s.lose w w'
  lost : ∀ {w : World} {F : Nat → Prop} {p : Nat} {s : St}, PD w F p s → Calls Try.prog 18 #[.pointer (some ⟨p, 0, none⟩)] w fun e w' => e = .returned (.bool s.lost) ∧ w = w'
  loose : ∀ {w : World} {F : Nat → Prop} {p : Nat} {s : St}, PD w F p s → Calls Try.prog 19 #[.pointer (some ⟨p, 0, none⟩)] w fun e w' => e = .returned (.int .i64 (s.loose.length : Nat)) ∧ w = w'
  cap : ∀ {w : World} {F : Nat → Prop} {p : Nat} {s : St}, PD w F p s → Calls Try.prog 20 #[.pointer (some ⟨p, 0, none⟩)] w fun e w' => e = .returned (.int .i64 (s.slots.length : Nat)) ∧ w = w'
  read : ∀ {w : World} {F : Nat → Prop} {p : Nat} {s : St}, PD w F p s → s.loose.length ≤ 1000 → ∀ i : Int, -9223372036854775808 ≤ i → i ≤ 9223372036854775807 → Calls Try.prog 21 #[.pointer (some ⟨p, 0, none⟩), .int .i64 i] w fun e w' =>
    ∃ u, e = .returned (.tuple #[u, .int .i64 (s.check i)]) ∧ RowIn (fun b => w.heap.size ≤ b) w' u (if s.check i = 0 then s.get i.toNat else []) ∧ Below w.heap.size w w'
  lasts : ∀ {w : World} {F : Nat → Prop} {p : Nat} {s : St}, PD w F p s → ∀ i : Int, -9223372036854775808 ≤ i → i ≤ 9223372036854775807 → Calls Try.prog 22 #[.pointer (some ⟨p, 0, none⟩), .int .i64 i] w fun e w' =>
    ∃ u, e = .returned (.tuple #[u, .int .i64 (s.check i)]) ∧ RowIn (fun b => w.heap.size ≤ b) w' u (if s.check i = 0 then s.slots.getD i.toNat [] else []) ∧ Below w.heap.size w w'
/-- .. and of a drive that is none -/
structure NoDrive : Prop where
  write : ∀ (w : World) (i : Int) (u : Value), Calls Try.prog 11 #[.pointer none, .int .i64 i, u] w fun e w' => e = .returned (.int .i64 1) ∧ Below w.heap.size w w'
  flush : ∀ (w : World), Calls Try.prog 13 #[.pointer none] w fun e w' => e = .returned (.int .i64 1) ∧ Below w.heap.size w w'
  crash : ∀ (w : World) (keep : Int), Calls Try.prog 15 #[.pointer none, .int .u64 keep] w fun e w' => e = .returned (.tuple #[]) ∧ Below w.heap.size w w'
  lose : ∀ (w : World), Calls Try.prog 17 #[.pointer none] w fun e w' => e = .returned (.tuple #[]) ∧ Below w.heap.size w w'
  lost : ∀ (w : World), Calls Try.prog 18 #[.pointer none] w fun e w' => e = .returned (.bool false) ∧ w = w'
  loose : ∀ (w : World), Calls Try.prog 19 #[.pointer none] w fun e w' => e = .returned (.int .i64 0) ∧ w = w'
  cap : ∀ (w : World), Calls Try.prog 20 #[.pointer none] w fun e w' => e = .returned (.int .i64 0) ∧ w = w'
  read : ∀ (w : World) (i : Int), Calls Try.prog 21 #[.pointer none, .int .i64 i] w fun e w' => ∃ u, e = .returned (.tuple #[u, .int .i64 1]) ∧ Bytes w' u [] ∧ Below w.heap.size w w'
  lasts : ∀ (w : World) (i : Int), Calls Try.prog 22 #[.pointer none, .int .i64 i] w fun e w' => ∃ u, e = .returned (.tuple #[u, .int .i64 1]) ∧ Bytes w' u [] ∧ Below w.heap.size w w'
/-- what was read stays, whatever the drive does -/
theorem row_does {PD : Thing} {w0 w w' : World} {F : Nat → Prop} {p : Nat} {s' : St} {u : Value} {l : List Nat} (h : RowIn (fun b => w0.heap.size ≤ b) w u l) (hF : ∀ b, F b → b < w0.heap.size) (hd : Does PD F p s' w w') : RowIn (fun b => w0.heap.size ≤ b) w' u l := by
  obtain ⟨F', k1, k2, k3⟩ := hd
  obtain ⟨⟨A, n, C, h1, h2, h3, h4, h5, h6⟩, hin⟩ := h
  refine ⟨⟨A, n, C, h1, h2, h3, h4, h5, fun i hi => ?_⟩, hin⟩
  obtain ⟨b, o, c, e1, e2, e3⟩ := h6 i hi
  have hb : w0.heap.size ≤ b := hin ⟨b, o, none⟩ n C (by rw [h1, e1]) (by omega)
  have hlt : b < w.heap.size := World.block_lt_of_cell? _ _ e2
  exact ⟨b, o, c, e1, (World.cell?_of_block (w := w) (a := ⟨b, o + i, none⟩) (k2.block b hlt (fun q => by have := hF b q; omega))).trans e2, e3⟩
theorem row_below {w0 w w' : World} {u : Value} {l : List Nat} (h : RowIn (fun b => w0.heap.size ≤ b) w u l) (hb : Below w.heap.size w w') : RowIn (fun b => w0.heap.size ≤ b) w' u l := ⟨h.1.below hb, h.2⟩
/-- a drive that a call has made for itself -/
def Mine (PD : Thing) (W w : World) (p : Nat) (s : St) : Prop := ∃ F, PD w F p s ∧ (∀ b, F b → W.heap.size ≤ b) ∧ Below W.heap.size W w
section
variable {PD : Thing} {W w : World} {p : Nat} {s : St}
theorem Mine.bel (h : Mine PD W w p s) : Below W.heap.size W w := by
  obtain ⟨F, _, _, h⟩ := h
  exact h
theorem Mine.below (I : Iface PD) (h : Mine PD W w p s) {w' : World} (hb : Below w.heap.size w w') : Mine PD W w' p s := by
  obtain ⟨F, h1, h2, h3⟩ := h
  exact ⟨F, I.turned h1 (Turned.of_below (fun _ => False) hb) (fun _ q => q.elim), h2, h3.trans (hb.mono h3.size)⟩
theorem Mine.does {F : Nat → Prop} {s' : St} {w' : World} (h2 : ∀ b, F b → W.heap.size ≤ b) (h3 : Below W.heap.size W w) (hd : Does PD F p s' w w') : Mine PD W w' p s' := by
  obtain ⟨F', k1, k2, k3⟩ := hd
  refine ⟨F', k1, fun b hb => ?_, h3.trans (k2.below h2 h3.size)⟩
  rcases k3 b hb with q | q
  · exact h2 b q
  · have := h3.size; omega
theorem Mine.new (I : Iface PD) (n : Int) (w : World) (h : Below W.heap.size W w) (l0 : -9223372036854775808 ≤ n) (u0 : n ≤ 9223372036854775807) : Calls Try.prog 9 #[.int .i64 n] w fun e w' => ∃ p, e = .returned (.pointer (some ⟨p, 0, none⟩)) ∧ Mine PD W w' p (fresh n) :=
  (I.new n w l0 u0).mono fun e w' hh => by
    obtain ⟨F, p, h1, h2, h3, h4⟩ := hh
    exact ⟨p, h1, F, h2, fun b hb => Nat.le_trans h.size (h3 b hb), h.trans (h4.mono h.size)⟩
theorem Mine.write (I : Iface PD) (h : Mine PD W w p s) (i : Int) (l : List Nat) (u : Value) (l0 : -9223372036854775808 ≤ i) (u0 : i ≤ 9223372036854775807) (hu : Bytes w u l) (hl : l.length ≤ 100000) (hs : s.loose.length ≤ 1000) :
    Calls Try.prog 11 #[.pointer (some ⟨p, 0, none⟩), .int .i64 i, u] w fun e w' => e = .returned (.int .i64 (s.putE i l.length)) ∧ Mine PD W w' p (s.put i l) := by
  obtain ⟨F, h1, h2, h3⟩ := h
  exact (I.write h1 i l u l0 u0 hu hl hs).mono fun e w' hh => ⟨hh.1, Mine.does h2 h3 hh.2⟩
theorem Mine.flush (I : Iface PD) (h : Mine PD W w p s) (hs : s.loose.length ≤ 1000) : Calls Try.prog 13 #[.pointer (some ⟨p, 0, none⟩)] w fun e w' => e = .returned (.int .i64 s.flushE) ∧ Mine PD W w' p s.flush := by
  obtain ⟨F, h1, h2, h3⟩ := h
  exact (I.flush h1 hs).mono fun e w' hh => ⟨hh.1, Mine.does h2 h3 hh.2⟩
theorem Mine.crash (I : Iface PD) (h : Mine PD W w p s) (hs : s.loose.length ≤ 1000) (keep : Nat) (hk : keep < 18446744073709551616) : Calls Try.prog 15 #[.pointer (some ⟨p, 0, none⟩), .int .u64 keep] w fun e w' => e = .returned (.tuple #[]) ∧ Mine PD W w' p (s.crash keep) := by
  obtain ⟨F, h1, h2, h3⟩ := h
  exact (I.crash h1 hs keep hk).mono fun e w' hh => ⟨hh.1, Mine.does h2 h3 hh.2⟩
theorem Mine.lose (I : Iface PD) (h : Mine PD W w p s) : Calls Try.prog 17 #[.pointer (some ⟨p, 0, none⟩)] w fun e w' => e = .returned (.tuple #[]) ∧ Mine PD W w' p s.lose := by
  obtain ⟨F, h1, h2, h3⟩ := h
  exact (I.lose h1).mono fun e w' hh => ⟨hh.1, Mine.does h2 h3 hh.2⟩
theorem Mine.lost (I : Iface PD) (h : Mine PD W w p s) : Calls Try.prog 18 #[.pointer (some ⟨p, 0, none⟩)] w fun e w' => e = .returned (.bool s.lost) ∧ w = w' := by
  obtain ⟨F, h1, h2, h3⟩ := h
  exact I.lost h1
theorem Mine.loose (I : Iface PD) (h : Mine PD W w p s) : Calls Try.prog 19 #[.pointer (some ⟨p, 0, none⟩)] w fun e w' => e = .returned (.int .i64 (s.loose.length : Nat)) ∧ w = w' := by
  obtain ⟨F, h1, h2, h3⟩ := h
  exact I.loose h1
theorem Mine.cap (I : Iface PD) (h : Mine PD W w p s) : Calls Try.prog 20 #[.pointer (some ⟨p, 0, none⟩)] w fun e w' => e = .returned (.int .i64 (s.slots.length : Nat)) ∧ w = w' := by
  obtain ⟨F, h1, h2, h3⟩ := h
  exact I.cap h1
theorem Mine.read (I : Iface PD) (h : Mine PD W w p s) (hs : s.loose.length ≤ 1000) (i : Int) (l0 : -9223372036854775808 ≤ i) (u0 : i ≤ 9223372036854775807) : Calls Try.prog 21 #[.pointer (some ⟨p, 0, none⟩), .int .i64 i] w fun e w' =>
    ∃ u, e = .returned (.tuple #[u, .int .i64 (s.check i)]) ∧ RowIn (fun b => w.heap.size ≤ b) w' u (if s.check i = 0 then s.get i.toNat else []) ∧ Mine PD W w' p s ∧ Below w.heap.size w w' := by
  have h0 := h
  obtain ⟨F, h1, h2, h3⟩ := h
  exact (I.read h1 hs i l0 u0).mono fun e w' hh => by
    obtain ⟨u, k1, k2, k3⟩ := hh
    exact ⟨u, k1, k2, h0.below I k3, k3⟩
theorem Mine.lasts (I : Iface PD) (h : Mine PD W w p s) (i : Int) (l0 : -9223372036854775808 ≤ i) (u0 : i ≤ 9223372036854775807) : Calls Try.prog 22 #[.pointer (some ⟨p, 0, none⟩), .int .i64 i] w fun e w' =>
    ∃ u, e = .returned (.tuple #[u, .int .i64 (s.check i)]) ∧ RowIn (fun b => w.heap.size ≤ b) w' u (if s.check i = 0 then s.slots.getD i.toNat [] else []) ∧ Mine PD W w' p s ∧ Below w.heap.size w w' := by
  have h0 := h
  obtain ⟨F, h1, h2, h3⟩ := h
  exact (I.lasts h1 i l0 u0).mono fun e w' hh => by
    obtain ⟨u, k1, k2, k3⟩ := hh
    exact ⟨u, k1, k2, h0.below I k3, k3⟩
end
end Go.Proofs.Ythlonnbafekjbaa.Drive
