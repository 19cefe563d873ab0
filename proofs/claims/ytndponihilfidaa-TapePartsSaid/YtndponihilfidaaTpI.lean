/- What the laws of layer 10 ask of the program's tapes: their calls' contracts, over whatever stands for two tapes in memory. -/
import Derived.Test.YtndponihilfidaaRows
import Derived.Test.YtndponihilfidaaFoot
import Derived.Test.YtndponihilfidaaTpSt
import Derived.Test.YtndponihilfidaaWrites
import Derived.Test.YtndponihilfidaaZeros
import Derived.Test.YtndponihilfidaaSame
import Derived.Laws.BytesArg
import Derived.Lib.SlBytesConst
namespace Go.Proofs.Ytndponihilfidaa.Tape
set_option linter.unusedVariables false
open Go.ChangeShapes Go.WideShapes Go.ChangeAt Go.RowKit
open Go.Mem Tp Same
theorem infoByte : (Try.prog.info? 5).map (fun i => (i.zero, i.size, i.bytes)) = some (some (.int .u8 0), 1, 1) := by kernel_rfl
def I64 (z : Int) : Prop := -9223372036854775808 ≤ z ∧ z ≤ 9223372036854775807
abbrev Thing := World → (Nat → Prop) → Nat → St → Prop
/-- the tapes do as s' behind a call -/
def Does (PD : Thing) (F : Nat → Prop) (p : Nat) (s' : St) (w w' : World) : Prop := ∃ F', PD w' F' p s' ∧ Turned F w w' ∧ Grown F F' w
structure Iface (PD : Thing) : Prop where
  turned : ∀ {w w' : World} {F G : Nat → Prop} {p : Nat} {s : St}, PD w F p s → Turned G w w' → (∀ b, G b → ¬ F b) → PD w' F p s
  lt : ∀ {w : World} {F : Nat → Prop} {p : Nat} {s : St}, PD w F p s → ∀ b, F b → b < w.heap.size
  new : ∀ (w : World), Calls Try.prog 8 #[] w fun e w' => ∃ F p, e = .returned (.pointer (some ⟨p, 0, none⟩)) ∧ PD w' F p fresh ∧ (∀ b, F b → w.heap.size ≤ b) ∧ Below w.heap.size w w'
  append : ∀ {w : World} {F : Nat → Prop} {p : Nat} {s : St}, PD w F p s → s.upto 1000000 → ∀ (l : List Nat) (u : Value), RowIn (fun b => ¬ F b) w u l → l.length ≤ 1000 →
    Calls Try.prog 9 #[.pointer (some ⟨p, 0, none⟩), u] w fun e w' => e = .returned (.int .i64 s.writeE) ∧ Does PD F p (s.write l false) w w'
  replace : ∀ {w : World} {F : Nat → Prop} {p : Nat} {s : St}, PD w F p s → s.upto 1000000 → ∀ (l : List Nat) (u : Value), RowIn (fun b => ¬ F b) w u l → l.length ≤ 1000 →
    Calls Try.prog 11 #[.pointer (some ⟨p, 0, none⟩), u] w fun e w' => e = .returned (.int .i64 s.writeE) ∧ Does PD F p (s.write l true) w w'
  read : ∀ {w : World} {F : Nat → Prop} {p : Nat} {s : St}, PD w F p s → s.upto 1000000 → ∀ i : Int, I64 i →
    Calls Try.prog 17 #[.pointer (some ⟨p, 0, none⟩), .int .i64 i] w fun e w' => ∃ u, e = .returned (.tuple #[u, .int .i64 (s.readE i)]) ∧ RowIn (fun b => w.heap.size ≤ b) w' u (s.readB i) ∧ Below w.heap.size w w'
  spoil : ∀ {w : World} {F : Nat → Prop} {p : Nat} {s : St}, PD w F p s → s.upto 1000000 → ∀ (i : Int) (l : List Nat) (u : Value), I64 i → RowIn (fun b => ¬ F b) w u l → l.length ≤ 1000 →
    Calls Try.prog 16 #[.pointer (some ⟨p, 0, none⟩), .int .i64 i, u] w fun e w' => e = .returned (.tuple #[]) ∧ Does PD F p (s.spoil i l) w w'
  lose : ∀ {w : World} {F : Nat → Prop} {p : Nat} {s : St}, PD w F p s → ∀ i : Int, I64 i → Calls Try.prog 15 #[.pointer (some ⟨p, 0, none⟩), .int .i64 i] w fun e w' => e = .returned (.tuple #[]) ∧ Does PD F p (s.lose i) w w'
  fuse : ∀ {w : World} {F : Nat → Prop} {p : Nat} {s : St}, PD w F p s → ∀ n : Int, I64 n → Calls Try.prog 12 #[.pointer (some ⟨p, 0, none⟩), .int .i64 n] w fun e w' => e = .returned (.tuple #[]) ∧ Does PD F p (s.burn n) w w'
  crash : ∀ {w : World} {F : Nat → Prop} {p : Nat} {s : St}, PD w F p s → s.upto 1000000 → ∀ n : Int, I64 n → Calls Try.prog 13 #[.pointer (some ⟨p, 0, none⟩), .int .i64 n] w fun e w' => e = .returned (.tuple #[]) ∧ Does PD F p (s.crash n) w w'
/-- .. and of tapes that are none -/
structure NoTape : Prop where
  append : ∀ (w : World) (u : Value), Calls Try.prog 9 #[.pointer none, u] w fun e w' => e = .returned (.int .i64 1) ∧ Below w.heap.size w w'
  replace : ∀ (w : World) (u : Value), Calls Try.prog 11 #[.pointer none, u] w fun e w' => e = .returned (.int .i64 1) ∧ Below w.heap.size w w'
  read : ∀ (w : World) (i : Int), Calls Try.prog 17 #[.pointer none, .int .i64 i] w fun e w' => ∃ u, e = .returned (.tuple #[u, .int .i64 1]) ∧ Bytes w' u [] ∧ Below w.heap.size w w'
  spoil : ∀ (w : World) (i : Int) (u : Value), Calls Try.prog 16 #[.pointer none, .int .i64 i, u] w fun e w' => e = .returned (.tuple #[]) ∧ Below w.heap.size w w'
  lose : ∀ (w : World) (i : Int), Calls Try.prog 15 #[.pointer none, .int .i64 i] w fun e w' => e = .returned (.tuple #[]) ∧ Below w.heap.size w w'
  fuse : ∀ (w : World) (i : Int), Calls Try.prog 12 #[.pointer none, .int .i64 i] w fun e w' => e = .returned (.tuple #[]) ∧ Below w.heap.size w w'
  crash : ∀ (w : World) (i : Int), Calls Try.prog 13 #[.pointer none, .int .i64 i] w fun e w' => e = .returned (.tuple #[]) ∧ Below w.heap.size w w'
/-- what was there when the call began is in none of the blocks that the call has made -/
theorem bytes_away {W w : World} {F : Nat → Prop} {u : Value} {l : List Nat} (hu : Bytes W u l) (hF : ∀ b, F b → W.heap.size ≤ b) (hb : Below W.heap.size W w) : RowIn (fun b => ¬ F b) w u l := by
  refine ⟨hu.below hb, fun a n C e hn hf => ?_⟩
  obtain ⟨A, m, C', e1, e2, _, _, _, h6⟩ := hu
  rw [e] at e1
  cases e1
  obtain ⟨b, o, c, k1, k2, k3⟩ := h6 0 (by omega)
  cases k1
  have := World.block_lt_of_cell? _ _ k2
  have := hF _ hf
  simp only at *
  omega
/-- tapes that a call has made for itself -/
def Mine (PD : Thing) (W w : World) (p : Nat) (s : St) : Prop := ∃ F, PD w F p s ∧ (∀ b, F b → W.heap.size ≤ b) ∧ Below W.heap.size W w
section
variable {PD : Thing} {W w : World} {p : Nat} {s : St}
theorem Mine.bel (h : Mine PD W w p s) : Below W.heap.size W w := by
  obtain ⟨F, _, _, h⟩ := h
  exact h
theorem Mine.below (I : Iface PD) (h : Mine PD W w p s) {w' : World} (hb : Below w.heap.size w w') : Mine PD W w' p s := by
  obtain ⟨F, h1, h2, h3⟩ := h
  exact ⟨F, I.turned h1 (Turned.of_below (fun _ => False) hb) (fun _ q => q.elim), h2, h3.trans (hb.mono h3.size)⟩
theorem Mine.does {F : Nat → Prop} {s' : St} {w' : World} (h2 : ∀ b, F b → W.heap.size ≤ b) (h3 : Below W.heap.size W w) (hd : Does PD F p s' w w') : Mine PD W w' p s' := by
  obtain ⟨F', k1, k2, k3⟩ := hd
  refine ⟨F', k1, fun b hb => ?_, h3.trans (k2.below h2 h3.size)⟩
  rcases k3 b hb with q | q
  · exact h2 b q
  · have := h3.size; omega
theorem Mine.new (I : Iface PD) (w : World) (h : Below W.heap.size W w) : Calls Try.prog 8 #[] w fun e w' => ∃ p, e = .returned (.pointer (some ⟨p, 0, none⟩)) ∧ Mine PD W w' p fresh :=
  (I.new w).mono fun e w' hh => by
    obtain ⟨F, p, h1, h2, h3, h4⟩ := hh
    exact ⟨p, h1, F, h2, fun b hb => Nat.le_trans h.size (h3 b hb), h.trans (h4.mono h.size)⟩
theorem Mine.append (I : Iface PD) (h : Mine PD W w p s) (hs : s.upto 1000000) (l : List Nat) (u : Value) (hu : Bytes W u l) (hl : l.length ≤ 1000) :
    Calls Try.prog 9 #[.pointer (some ⟨p, 0, none⟩), u] w fun e w' => e = .returned (.int .i64 s.writeE) ∧ Mine PD W w' p (s.write l false) := by
  obtain ⟨F, h1, h2, h3⟩ := h
  exact (I.append h1 hs l u (bytes_away hu h2 h3) hl).mono fun e w' hh => ⟨hh.1, Mine.does h2 h3 hh.2⟩
theorem Mine.replace (I : Iface PD) (h : Mine PD W w p s) (hs : s.upto 1000000) (l : List Nat) (u : Value) (hu : Bytes W u l) (hl : l.length ≤ 1000) :
    Calls Try.prog 11 #[.pointer (some ⟨p, 0, none⟩), u] w fun e w' => e = .returned (.int .i64 s.writeE) ∧ Mine PD W w' p (s.write l true) := by
  obtain ⟨F, h1, h2, h3⟩ := h
  exact (I.replace h1 hs l u (bytes_away hu h2 h3) hl).mono fun e w' hh => ⟨hh.1, Mine.does h2 h3 hh.2⟩
theorem Mine.fuse (I : Iface PD) (h : Mine PD W w p s) (n : Int) (hn : I64 n) : Calls Try.prog 12 #[.pointer (some ⟨p, 0, none⟩), .int .i64 n] w fun e w' => e = .returned (.tuple #[]) ∧ Mine PD W w' p (s.burn n) := by
  obtain ⟨F, h1, h2, h3⟩ := h
  exact (I.fuse h1 n hn).mono fun e w' hh => ⟨hh.1, Mine.does h2 h3 hh.2⟩
theorem Mine.crash (I : Iface PD) (h : Mine PD W w p s) (hs : s.upto 1000000) (n : Int) (hn : I64 n) : Calls Try.prog 13 #[.pointer (some ⟨p, 0, none⟩), .int .i64 n] w fun e w' => e = .returned (.tuple #[]) ∧ Mine PD W w' p (s.crash n) := by
  obtain ⟨F, h1, h2, h3⟩ := h
  exact (I.crash h1 hs n hn).mono fun e w' hh => ⟨hh.1, Mine.does h2 h3 hh.2⟩
theorem Mine.read (I : Iface PD) (h : Mine PD W w p s) (hs : s.upto 1000000) (i : Int) (hi : I64 i) : Calls Try.prog 17 #[.pointer (some ⟨p, 0, none⟩), .int .i64 i] w fun e w' =>
    ∃ u, e = .returned (.tuple #[u, .int .i64 (s.readE i)]) ∧ RowIn (fun b => w.heap.size ≤ b) w' u (s.readB i) ∧ Mine PD W w' p s ∧ Below w.heap.size w w' := by
  have h0 := h
  obtain ⟨F, h1, h2, h3⟩ := h
  exact (I.read h1 hs i hi).mono fun e w' hh => by
    obtain ⟨u, k1, k2, k3⟩ := hh
    exact ⟨u, k1, k2, h0.below I k3, k3⟩
end
def MineN (PD : Thing) (W w : World) (p : Nat) (s : St) (N : Nat → Prop) : Prop := ∃ F, PD w F p s ∧ (∀ b, F b → W.heap.size ≤ b) ∧ Below W.heap.size W w ∧ (∀ b, N b → ¬ F b ∧ b < w.heap.size)
section
variable {PD : Thing} {W w w' : World} {p : Nat} {s s' : St} {N : Nat → Prop}
theorem MineN.mine (h : MineN PD W w p s N) : Mine PD W w p s := by
  obtain ⟨F, h1, h2, h3, _⟩ := h
  exact ⟨F, h1, h2, h3⟩
theorem MineN.bel (h : MineN PD W w p s N) : Below W.heap.size W w := h.mine.bel
theorem MineN.below (I : Iface PD) (h : MineN PD W w p s N) (hb : Below w.heap.size w w') : MineN PD W w' p s N := by
  obtain ⟨F, h1, h2, h3, h4⟩ := h
  exact ⟨F, I.turned h1 (Turned.of_below (fun _ => False) hb) (fun _ q => q.elim), h2, h3.trans (hb.mono h3.size), fun b q => ⟨(h4 b q).1, Nat.lt_of_lt_of_le (h4 b q).2 hb.size⟩⟩
/-- what is new is none of the tapes' -/
theorem Mine.news (I : Iface PD) (h : Mine PD W w p s) (hb : Below w.heap.size w w') (hN : ∀ b, N b → w.heap.size ≤ b ∧ b < w'.heap.size) : MineN PD W w' p s N := by
  obtain ⟨F, h1, h2, h3⟩ := h
  exact ⟨F, I.turned h1 (Turned.of_below (fun _ => False) hb) (fun _ q => q.elim), h2, h3.trans (hb.mono h3.size), fun b q => ⟨fun k => by have := I.lt h1 b k; have := (hN b q).1; omega, (hN b q).2⟩⟩
theorem MineN.does {F : Nat → Prop} (h2 : ∀ b, F b → W.heap.size ≤ b) (h3 : Below W.heap.size W w) (h4 : ∀ b, N b → ¬ F b ∧ b < w.heap.size) (hd : Does PD F p s' w w') : MineN PD W w' p s' N ∧ ∀ b, N b → w'.heap[b]? = w.heap[b]? := by
  obtain ⟨F', k1, k2, k3⟩ := hd
  refine ⟨⟨F', k1, fun b hb => ?_, h3.trans (k2.below h2 h3.size), fun b hb => ⟨fun q => ?_, Nat.lt_of_lt_of_le (h4 b hb).2 k2.size⟩⟩, fun b hb => k2.block b (h4 b hb).2 (h4 b hb).1⟩
  · rcases k3 b hb with q | q
    · exact h2 b q
    · have := h3.size; omega
  · rcases k3 b q with x | x
    · exact (h4 b hb).1 x
    · have := (h4 b hb).2; omega
theorem MineN.append (I : Iface PD) (h : MineN PD W w p s N) (hs : s.upto 1000000) (l : List Nat) (u : Value) (hu : Bytes W u l) (hl : l.length ≤ 1000) :
    Calls Try.prog 9 #[.pointer (some ⟨p, 0, none⟩), u] w fun e w' => e = .returned (.int .i64 s.writeE) ∧ MineN PD W w' p (s.write l false) N ∧ ∀ b, N b → w'.heap[b]? = w.heap[b]? := by
  obtain ⟨F, h1, h2, h3, h4⟩ := h
  exact (I.append h1 hs l u (bytes_away hu h2 h3) hl).mono fun e w' hh => ⟨hh.1, MineN.does h2 h3 h4 hh.2⟩
theorem MineN.replace (I : Iface PD) (h : MineN PD W w p s N) (hs : s.upto 1000000) (l : List Nat) (u : Value) (hu : Bytes W u l) (hl : l.length ≤ 1000) :
    Calls Try.prog 11 #[.pointer (some ⟨p, 0, none⟩), u] w fun e w' => e = .returned (.int .i64 s.writeE) ∧ MineN PD W w' p (s.write l true) N ∧ ∀ b, N b → w'.heap[b]? = w.heap[b]? := by
  obtain ⟨F, h1, h2, h3, h4⟩ := h
  exact (I.replace h1 hs l u (bytes_away hu h2 h3) hl).mono fun e w' hh => ⟨hh.1, MineN.does h2 h3 h4 hh.2⟩
theorem MineN.fuse (I : Iface PD) (h : MineN PD W w p s N) (n : Int) (hn : I64 n) : Calls Try.prog 12 #[.pointer (some ⟨p, 0, none⟩), .int .i64 n] w fun e w' => e = .returned (.tuple #[]) ∧ MineN PD W w' p (s.burn n) N ∧ ∀ b, N b → w'.heap[b]? = w.heap[b]? := by
  obtain ⟨F, h1, h2, h3, h4⟩ := h
  exact (I.fuse h1 n hn).mono fun e w' hh => ⟨hh.1, MineN.does h2 h3 h4 hh.2⟩
theorem MineN.crash (I : Iface PD) (h : MineN PD W w p s N) (hs : s.upto 1000000) (n : Int) (hn : I64 n) : Calls Try.prog 13 #[.pointer (some ⟨p, 0, none⟩), .int .i64 n] w fun e w' => e = .returned (.tuple #[]) ∧ MineN PD W w' p (s.crash n) N ∧ ∀ b, N b → w'.heap[b]? = w.heap[b]? := by
  obtain ⟨F, h1, h2, h3, h4⟩ := h
  exact (I.crash h1 hs n hn).mono fun e w' hh => ⟨hh.1, MineN.does h2 h3 h4 hh.2⟩
theorem MineN.append_own (I : Iface PD) (h : MineN PD W w p s N) (hs : s.upto 1000000) (l : List Nat) (u : Value) (hu : RowIn N w u l) (hl : l.length ≤ 1000) :
    Calls Try.prog 9 #[.pointer (some ⟨p, 0, none⟩), u] w fun e w' => e = .returned (.int .i64 s.writeE) ∧ MineN PD W w' p (s.write l false) N ∧ ∀ b, N b → w'.heap[b]? = w.heap[b]? := by
  obtain ⟨F, h1, h2, h3, h4⟩ := h
  exact (I.append h1 hs l u (hu.same (fun _ _ => rfl) (fun b q => (h4 b q).1)) hl).mono fun e w' hh => ⟨hh.1, MineN.does h2 h3 h4 hh.2⟩
end
variable {PD : Thing}
theorem ab_str {w : World} {A : Option Addr} {n C : Nat} (h : Bytes w (.slice A n C) [97, 98]) : (convert 27 9 (.slice A n C)).run Try.prog w = .ok (.string { data := #[97, 98] }) w := by
  have h0 := h
  obtain ⟨A', n', C', e, e2, _, _, _, _⟩ := h0
  cases e
  obtain ⟨b, o, rfl, _, _⟩ := Bytes.at h (i := 0) (by decide)
  have := run_convert_bytes_arg (P := Try.prog) w 27 5 Try.underlying27 Try.underlying5 b o n C [(97 : Int), 98] (by rw [e2]; rfl)
    (fun i hi => by
      rw [e2] at hi
      have h1 := (Bytes.here h hi).1
      rw [h1]
      have hi' : i < 2 := hi
      rcases (by omega : i = 0 ∨ i = 1) with rfl | rfl <;> rfl) 9 Try.underlying9
  exact this
theorem ans_st : fresh.writeE = 0 ∧ (fresh.write [97, 98] false).readE 0 = 0 ∧ (fresh.write [97, 98] false).readE 1 = 0 ∧ (fresh.write [97, 98] false).readB 0 = [97, 98] ∧ (fresh.write [97, 98] false).readB 1 = [97, 98] := by decide
theorem ans_upto : (fresh.write [97, 98] false).upto 1000000 := upto_mono (write_upto (fresh_upto 0) (m := 2) (by decide) false) (by omega)
set_option maxHeartbeats 2000000 in
theorem answersC (I : Iface PD) (w : World) :
    Calls Try.prog 7 #[] w fun e w' => e = .returned (.bool true) ∧ Below w.heap.size w w' := by
  have kc := fun (w : World) (C : Array Value) (n c : Nat) => Lib.run_convert_bytes_const (P := Try.prog) w 27 5 C n c Try.underlying27 Try.underlying5
  go_enter Try.func7, Try.ntmps7
  go_wp2_with fail
  refine (Mine.new I w (W := w) (Below.refl _ _)).mono ?_
  rintro _ w1 ⟨p, rfl, hm1⟩
  have HM1 := Lib.hid hm1
  clear hm1
  go_wp2_with fail
  have hb1 : Below w1.heap.size w1 (w1.alloc (.cells #[.int .u8 97, .int .u8 98] 5 (2, 3))) := (Below.refl _ _).alloc (Nat.le_refl _) _
  have ha : Bytes (w1.alloc (.cells #[.int .u8 97, .int .u8 98] 5 (2, 3))) (.slice (some ⟨w1.heap.size, 0, none⟩) 2 2) [97, 98] := const_bytes w1 5 (2, 3) [97, 98] (by simp) (by simp)
  refine (MineN.append_own I (HM1.out.news I hb1 (N := fun b => b = w1.heap.size) (fun b hb => by subst hb; simp)) (fresh_upto _) [97, 98] _ ⟨ha, fun a n C e hn => by cases e; rfl⟩ (by decide)).mono ?_
  rintro _ w2 ⟨rfl, hm2, -⟩
  have hm2 := hm2.mine
  rw [ans_st.1]
  have HM2 := Lib.hid hm2
  clear hm2 hb1 ha
  go_wp2_with fail
  refine (Mine.read I HM2.out ans_upto 0 ⟨by omega, by omega⟩).mono ?_
  rintro _ w3 ⟨u3, rfl, hu3, hm3, hb3⟩
  rw [ans_st.2.1]
  rw [ans_st.2.2.2.1] at hu3
  have HM3 := Lib.hid hm3
  have HU3 := Lib.hid hu3.1
  obtain ⟨A3, C3, rfl, -, -, -⟩ := hu3.1.shape
  rw [show ([97, 98] : List Nat).length = 2 from rfl] at HU3 ⊢
  clear hu3 hm3 hb3
  go_wp2_with fail
  refine (Mine.read I HM3.out ans_upto 1 ⟨by omega, by omega⟩).mono ?_
  rintro _ w4 ⟨u4, rfl, hu4, hm4, hb4⟩
  rw [ans_st.2.2.1]
  rw [ans_st.2.2.2.2] at hu4
  have HM4 := Lib.hid hm4
  have hc3 := ab_str (HU3.out.below hb4)
  have hu4' := hu4.1
  obtain ⟨A4, C4, rfl, -, -, -⟩ := hu4.1.shape
  rw [show ([97, 98] : List Nat).length = 2 from rfl] at hu4' ⊢
  have hc4 := ab_str hu4'
  clear hu4 hu4' hm4 hb4
  go_wp2
  go_ret
  exact ⟨rfl, HM4.out.bel⟩
end Go.Proofs.Ytndponihilfidaa.Tape
