/- SHA-256 over Nat: the words of a block, its rounds, the padding, the digest. No program is named here. -/
import Derived.Laws.BitsAllLaws
import Derived.Laws.BitsLemmas
namespace Sha
def M32 : Nat := 4294967296
def rotr (x n : Nat) : Nat := x / 2 ^ n ||| x * 2 ^ (32 - n) % 4294967296
def s0 (x : Nat) : Nat := rotr x 7 ^^^ rotr x 18 ^^^ x / 8
def s1 (x : Nat) : Nat := rotr x 17 ^^^ rotr x 19 ^^^ x / 1024
def S1 (e : Nat) : Nat := rotr e 6 ^^^ rotr e 11 ^^^ rotr e 25
def S0 (a : Nat) : Nat := rotr a 2 ^^^ rotr a 13 ^^^ rotr a 22
def ch (e f g : Nat) : Nat := (e &&& f) ^^^ ((4294967295 ^^^ e) &&& g)
def maj (a b c : Nat) : Nat := (a &&& b) ^^^ (a &&& c) ^^^ (b &&& c)
structure St where
  a : Nat
  b : Nat
  c : Nat
  d : Nat
  e : Nat
  f : Nat
  g : Nat
  h : Nat
def St.get (s : St) (i : Nat) : Nat := [s.a, s.b, s.c, s.d, s.e, s.f, s.g, s.h].getD i 0
def St.ok (s : St) : Prop := s.a < 4294967296 ∧ s.b < 4294967296 ∧ s.c < 4294967296 ∧ s.d < 4294967296 ∧ s.e < 4294967296 ∧ s.f < 4294967296 ∧ s.g < 4294967296 ∧ s.h < 4294967296
def xF (s : St) (k w : Nat) : Nat := (s.h + S1 s.e + ch s.e s.f s.g + k + w) % 4294967296
def yF (s : St) : Nat := (S0 s.a + maj s.a s.b s.c) % 4294967296
def rnd (k w : Nat) (s : St) : St := ⟨(xF s k w + yF s) % 4294967296, s.a, s.b, s.c, (s.d + xF s k w) % 4294967296, s.e, s.f, s.g⟩
def nextW (L : List Nat) (t : Nat) : Nat := (L.getD (t - 16) 0 + L.getD (t - 7) 0 + s0 (L.getD (t - 15) 0) + s1 (L.getD (t - 2) 0)) % 4294967296
def sched (m : Nat → Nat) : Nat → List Nat
  | 0 => []
  | t + 1 => sched m t ++ [if t < 16 then m t else nextW (sched m t) t]
def kL : List Nat := [1116352408, 1899447441, 3049323471, 3921009573, 961987163, 1508970993, 2453635748, 2870763221, 3624381080, 310598401, 607225278, 1426881987, 1925078388, 2162078206, 2614888103, 3248222580, 3835390401, 4022224774, 264347078, 604807628, 770255983, 1249150122, 1555081692, 1996064986, 2554220882, 2821834349, 2952996808, 3210313671, 3336571891, 3584528711, 113926993, 338241895, 666307205, 773529912, 1294757372, 1396182291, 1695183700, 1986661051, 2177026350, 2456956037, 2730485921, 2820302411, 3259730800, 3345764771, 3516065817, 3600352804, 4094571909, 275423344, 430227734, 506948616, 659060556, 883997877, 958139571, 1322822218, 1537002063, 1747873779, 1955562222, 2024104815, 2227730452, 2361852424, 2428436474, 2756734187, 3204031479, 3329325298]
def kF (i : Nat) : Nat := kL.getD i 0
def begun : St := ⟨1779033703, 3144134277, 1013904242, 2773480762, 1359893119, 2600822924, 528734635, 1541459225⟩
/-- the state behind n rounds of a block whose words are m -/
def rnds (m : Nat → Nat) (s : St) : Nat → St
  | 0 => s
  | n + 1 => rnd (kF n) ((sched m (n + 1)).getD n 0) (rnds m s n)
def addSt (s t : St) : St := ⟨(s.a + t.a) % 4294967296, (s.b + t.b) % 4294967296, (s.c + t.c) % 4294967296, (s.d + t.d) % 4294967296, (s.e + t.e) % 4294967296, (s.f + t.f) % 4294967296, (s.g + t.g) % 4294967296, (s.h + t.h) % 4294967296⟩
/-- four bytes as a word, the highest first -/
def word (M : List Nat) (o : Nat) : Nat := ((M.getD o 0 * 256 + M.getD (o + 1) 0) * 256 + M.getD (o + 2) 0) * 256 + M.getD (o + 3) 0
def block (M : List Nat) (o : Nat) (s : St) : St := addSt s (rnds (fun j => word M (o + 4 * j)) s 64)
/-- the state behind n blocks -/
def blocks (M : List Nat) : Nat → St
  | 0 => begun
  | n + 1 => block M (64 * n) (blocks M n)
/-- v in n bytes, the highest first -/
def numB (v n : Nat) : List Nat := (List.range n).map fun i => v / 256 ^ (n - 1 - i) % 256
def zerosOf (n : Nat) : Nat := (119 - n % 64) % 64
def pad (l : List Nat) : List Nat := l ++ [128] ++ List.replicate (zerosOf l.length) 0 ++ numB (8 * l.length % 18446744073709551616) 8
def outB (s : St) : Nat → List Nat
  | 0 => []
  | j + 1 => outB s j ++ numB (s.get j) 4
def sha (l : List Nat) : List Nat := outB (blocks (pad l) ((pad l).length / 64)) 8
/-- bytes as a number of 64 bits -/
def readB (l : List Nat) : Nat := l.foldl (fun v x => (v * 256 + x) % 18446744073709551616) 0
def weight (a b : Nat) : Nat := readB ((sha (numB a 8 ++ numB b 8)).take 8)
set_option maxRecDepth 100000 in
theorem sha_nil : (sha []).take 4 = [227, 176, 196, 66] := by decide +kernel
theorem numB_len (v n : Nat) : (numB v n).length = n := by simp [numB]
theorem numB_bd {v n : Nat} : ∀ x ∈ numB v n, x < 256 := by
  intro x hx
  unfold numB at hx
  obtain ⟨i, _, rfl⟩ := List.mem_map.1 hx
  exact Nat.mod_lt _ (by omega)
theorem outB_len (s : St) : ∀ j, (outB s j).length = 4 * j
  | 0 => rfl
  | j + 1 => by rw [outB, List.length_append, outB_len s j, numB_len]; omega
theorem sha_len (l : List Nat) : (sha l).length = 32 := outB_len _ 8
theorem pad_len (l : List Nat) : (pad l).length = l.length + 1 + zerosOf l.length + 8 := by unfold pad; simp [numB_len]; omega
theorem pad_64 (l : List Nat) : (pad l).length % 64 = 0 := by rw [pad_len]; unfold zerosOf; omega
theorem rotr_lt {x n : Nat} (hx : x < 4294967296) : rotr x n < 4294967296 := by
  unfold rotr
  have h1 : x / 2 ^ n ≤ x := Nat.div_le_self _ _
  exact Nat.or_lt_two_pow (n := 32) (by omega) (by omega)
theorem xor32 {a b : Nat} (ha : a < 4294967296) (hb : b < 4294967296) : a ^^^ b < 4294967296 := Nat.xor_lt_two_pow (n := 32) ha hb
theorem and32 {a b : Nat} (hb : b < 4294967296) : a &&& b < 4294967296 := Nat.and_lt_two_pow (n := 32) _ hb
theorem S1_lt {x : Nat} (hx : x < 4294967296) : S1 x < 4294967296 := xor32 (xor32 (rotr_lt hx) (rotr_lt hx)) (rotr_lt hx)
theorem S0_lt {x : Nat} (hx : x < 4294967296) : S0 x < 4294967296 := xor32 (xor32 (rotr_lt hx) (rotr_lt hx)) (rotr_lt hx)
theorem s0_lt {x : Nat} (hx : x < 4294967296) : s0 x < 4294967296 := xor32 (xor32 (rotr_lt hx) (rotr_lt hx)) (by omega)
theorem s1_lt {x : Nat} (hx : x < 4294967296) : s1 x < 4294967296 := xor32 (xor32 (rotr_lt hx) (rotr_lt hx)) (by omega)
theorem ch_lt {e f g : Nat} (hf : f < 4294967296) (hg : g < 4294967296) : ch e f g < 4294967296 := xor32 (and32 hf) (and32 hg)
theorem maj_lt {a b c : Nat} (hb : b < 4294967296) (hc : c < 4294967296) : maj a b c < 4294967296 := xor32 (xor32 (and32 hb) (and32 hc)) (and32 hc)
theorem xF_lt (s : St) (k w : Nat) : xF s k w < 4294967296 := Nat.mod_lt _ (by omega)
theorem yF_lt (s : St) : yF s < 4294967296 := Nat.mod_lt _ (by omega)
theorem rnd_ok {k w : Nat} {s : St} (h : s.ok) : (rnd k w s).ok := by
  obtain ⟨h1, h2, h3, h4, h5, h6, h7, h8⟩ := h
  exact ⟨Nat.mod_lt _ (by omega), h1, h2, h3, Nat.mod_lt _ (by omega), h5, h6, h7⟩
theorem rnds_ok {m : Nat → Nat} {s : St} (h : s.ok) : ∀ n, (rnds m s n).ok
  | 0 => h
  | n + 1 => rnd_ok (rnds_ok h n)
theorem addSt_ok (s t : St) : (addSt s t).ok := by
  unfold addSt St.ok
  refine ⟨?_, ?_, ?_, ?_, ?_, ?_, ?_, ?_⟩ <;> exact Nat.mod_lt _ (by omega)
theorem begun_ok : begun.ok := by unfold begun St.ok; decide
theorem blocks_ok (M : List Nat) : ∀ n, (blocks M n).ok
  | 0 => begun_ok
  | _ + 1 => addSt_ok _ _
theorem sched_len (m : Nat → Nat) : ∀ n, (sched m n).length = n
  | 0 => rfl
  | n + 1 => by rw [sched, List.length_append, sched_len m n]; rfl
theorem sched_lt {m : Nat → Nat} (hm : ∀ j, m j < 4294967296) : ∀ n, ∀ x ∈ sched m n, x < 4294967296
  | 0, x, hx => by simp [sched] at hx
  | n + 1, x, hx => by
    rw [sched] at hx
    rcases List.mem_append.1 hx with h | h
    · exact sched_lt hm n x h
    · rw [List.mem_singleton] at h
      rw [h]; split
      · exact hm n
      · exact Nat.mod_lt _ (by omega)
theorem getD_lt32 {l : List Nat} (h : ∀ x ∈ l, x < 4294967296) (i : Nat) : l.getD i 0 < 4294967296 := by
  by_cases hi : i < l.length
  · simpa [hi] using h _ (List.getElem_mem hi)
  · simp [Nat.le_of_not_lt hi]
/-- the words that stand there when n are made -/
def wF (m : Nat → Nat) (n : Nat) : Nat → Nat := fun c => (sched m n).getD c 0
theorem wF_lt {m : Nat → Nat} (hm : ∀ j, m j < 4294967296) (n c : Nat) : wF m n c < 4294967296 := getD_lt32 (sched_lt hm n) c
theorem wF_zero (m : Nat → Nat) (c : Nat) : wF m 0 c = 0 := by simp [wF, sched]
theorem wF_succ (m : Nat → Nat) (n c : Nat) : wF m (n + 1) c = if c = n then (if n < 16 then m n else nextW (sched m n) n) else wF m n c := by
  unfold wF
  rw [sched]
  by_cases e : c = n
  · rw [if_pos e, e]
    simp [List.getD_eq_getElem?_getD, sched_len]
  · rw [if_neg e]
    simp only [List.getD_eq_getElem?_getD]
    by_cases h : c < n
    · rw [List.getElem?_append_left (by rw [sched_len]; exact h)]
    · rw [List.getElem?_append_right (by rw [sched_len]; omega), sched_len, List.getElem?_eq_none (l := sched m n) (by rw [sched_len]; omega), List.getElem?_eq_none (by simp; omega)]
theorem word_lt {M : List Nat} (h : ∀ x ∈ M, x < 256) (o : Nat) : word M o < 4294967296 := by
  have g : ∀ i, M.getD i 0 < 256 := fun i => by
    by_cases hi : i < M.length
    · simpa [hi] using h _ (List.getElem_mem hi)
    · simp [Nat.le_of_not_lt hi]
  unfold word
  have := g o; have := g (o + 1); have := g (o + 2); have := g (o + 3)
  omega
theorem kF_lt (i : Nat) : kF i < 4294967296 := getD_lt32 (by decide) i
end Sha
