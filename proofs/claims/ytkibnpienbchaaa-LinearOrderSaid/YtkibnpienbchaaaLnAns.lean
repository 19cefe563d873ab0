/- The laws' own example: a Put and a Get of what it put; a Get ahead of it. -/
import Derived.Test.YtkibnpienbchaaaLnChk
import Derived.Test.YtkibnpienbchaaaWrites
import Derived.Lib.SlBytesConst
namespace Go.Proofs.Ytkibnpienbchaaa.Lnr
set_option linter.unusedVariables false
open Go.ChangeShapes Go.WideShapes Go.ChangeAt Go.RowKit
open Go.Mem Ln
/-- a literal of calls -/
theorem lit_cls (w : World) (cs : Array Value) (L : List Cl) (hL : L.length ≤ 1000) (hcs : cs.toList = L.flatMap enc) (b n : Nat) (hb : w.heap.size = b) (hn : L.length = n) : Cls (w.alloc (.cells cs TCall)) (.slice (some ⟨b, 0, none⟩) n n) L := by
  subst hb
  subst hn
  have h := World.ownsRow_lit (base := 0) (e := TCall) (size := 10) w cs L.length (Nat.zero_le _) (by unfold maxLen; omega) (by rw [← Array.length_toList, hcs, flat_len])
  rw [hcs] at h
  exact Row.cls (base := 0) (t := TCall) h
theorem byte1 (w : World) (x : Nat) (hx : x < 256) (m : Nat × Nat) : Bytes (w.alloc (.cells #[.int .u8 x] 5 m)) (.slice (some ⟨w.heap.size, 0, none⟩) 1 1) [x] := by
  have := const_bytes w 5 m [x] (by simp) (by simp; omega)
  exact this
def kK : ByteArray := ⟨#[107]⟩
def boxOf (x : Cl) : Array Value := #[.int .i64 x.task, .int .i64 x.op, .string x.key, .slice x.dA x.data.length x.dC, .int .i64 x.fr, .int .i64 x.to, .int .i64 x.mo, .int .i64 x.e, .slice x.oA x.out.length x.oC, .slice x.kA x.nk x.kC]
theorem box_row (w : World) (x : Cl) : (w.alloc (.cells (boxOf x) TCall)).rowIs w.heap.size TCall 10 (fun j => (boxOf x).getD j undef) := row_of w _ _
/-- a Put of the key, a Get of it -/
def cPut (data : List Nat) (A : Option Addr) (C : Nat) (fr to mo : Int) : Cl := ⟨0, 1, kK, data, A, C, fr, to, mo, 0, [], none, 0, 0, none, 0⟩
def cGet (out : List Nat) (A : Option Addr) (C : Nat) (fr to mo : Int) : Cl := ⟨0, 2, kK, [], none, 0, fr, to, mo, 0, out, A, C, 0, none, 0⟩
theorem nil_bytes (w : World) : Bytes w (.slice none 0 0) [] := Bytes.nil w
theorem kK_ok : KeyOk kK := by
  show 1 ≤ 140737488351232
  omega
theorem i64c {z : Int} (h : 0 ≤ z ∧ z ≤ 1000) : I64 z := ⟨by omega, by omega⟩
theorem cPut_p {w : World} {data : List Nat} {A : Option Addr} {C : Nat} {fr to mo : Int} (h : Bytes w (.slice A data.length C) data) (h1 : I64 fr) (h2 : I64 to) (h3 : I64 mo) : ClP w (cPut data A C fr to mo) :=
  ⟨⟨h, nil_bytes w, i64c (z := 0) (by omega), i64c (z := 1) (by omega), h1, h2, h3, i64c (z := 0) (by omega)⟩, kK_ok, .inl rfl⟩
theorem cGet_p {w : World} {out : List Nat} {A : Option Addr} {C : Nat} {fr to mo : Int} (h : Bytes w (.slice A out.length C) out) (h1 : I64 fr) (h2 : I64 to) (h3 : I64 mo) : ClP w (cGet out A C fr to mo) :=
  ⟨⟨nil_bytes w, h, i64c (z := 0) (by omega), i64c (z := 2) (by omega), h1, h2, h3, i64c (z := 0) (by omega)⟩, kK_ok, .inr rfl⟩
set_option maxRecDepth 100000 in
set_option maxHeartbeats 4000000 in
theorem answersC (w : World) : Calls Try.prog 6 #[] w fun e w' => e = .returned (.bool true) ∧ Below w.heap.size w w' := by
  have kc := fun (w : World) (C : Array Value) (n c : Nat) => Lib.run_convert_bytes_const (P := Try.prog) w 22 5 C n c Try.underlying22 Try.underlying5
  obtain ⟨B, hB⟩ : ∃ B, w.heap.size = B := ⟨_, rfl⟩
  obtain ⟨a, ha⟩ : ∃ a, cPut [118] (some ⟨B, 0, none⟩) 1 1 3 2 = a := ⟨_, rfl⟩
  have hA : boxOf a = #[.int .i64 0, .int .i64 1, .string ⟨#[107]⟩, .slice (some ⟨B, 0, none⟩) 1 1, .int .i64 1, .int .i64 3, .int .i64 2, .int .i64 0, .slice none 0 0, .slice none 0 0] := by rw [← ha]; rfl
  obtain ⟨w1, hw1⟩ : ∃ w1, (w.alloc (.cells #[.int .u8 118] 5 (1, 2))).alloc (.cells (boxOf a) TCall) = w1 := ⟨_, rfl⟩
  have hb1 : Below B w w1 := by rw [← hw1, ← hB]; exact (alB w _).trans ((alB _ _).mono (alB w _).size)
  have hs1 : w1.heap.size = B + 1 + 1 := by rw [← hw1, ← hB]; simp
  have hr1 : w1.rowIs (B + 1) TCall 10 (fun j => (boxOf a).getD j undef) := by
    have := box_row (w.alloc (.cells #[.int .u8 118] 5 (1, 2))) a
    rw [hw1] at this
    rw [← hB]
    simpa using this
  have ha1 : Bytes w1 (.slice (some ⟨B, 0, none⟩) 1 1) [118] := by
    have : Bytes ((w.alloc (.cells #[.int .u8 118] 5 (1, 2))).alloc (.cells (boxOf a) TCall)) (.slice (some ⟨w.heap.size, 0, none⟩) 1 1) [118] := (byte1 w 118 (by omega) (1, 2)).below (alB _ (.cells (boxOf a) TCall))
    rw [hw1, hB] at this
    exact this
  obtain ⟨b, hb⟩ : ∃ b, cGet [118] (some ⟨B + 1 + 1, 0, none⟩) 1 2 5 4 = b := ⟨_, rfl⟩
  have hBX : boxOf b = #[.int .i64 0, .int .i64 2, .string ⟨#[107]⟩, .slice none 0 0, .int .i64 2, .int .i64 5, .int .i64 4, .int .i64 0, .slice (some ⟨B + 1 + 1, 0, none⟩) 1 1, .slice none 0 0] := by rw [← hb]; rfl
  obtain ⟨w2, hw2⟩ : ∃ w2, (w1.alloc (.cells #[.int .u8 118] 5 (1, 2))).alloc (.cells (boxOf b) TCall) = w2 := ⟨_, rfl⟩
  have hb2 : Below w1.heap.size w1 w2 := by rw [← hw2]; exact (alB w1 _).trans ((alB _ _).mono (alB w1 _).size)
  have hr2 : w2.rowIs (B + 1 + 1 + 1) TCall 10 (fun j => (boxOf b).getD j undef) := by
    have := box_row (w1.alloc (.cells #[.int .u8 118] 5 (1, 2))) b
    rw [hw2] at this
    simpa [hs1] using this
  have hb2' : Bytes w2 (.slice (some ⟨B + 1 + 1, 0, none⟩) 1 1) [118] := by
    have : Bytes ((w1.alloc (.cells #[.int .u8 118] 5 (1, 2))).alloc (.cells (boxOf b) TCall)) (.slice (some ⟨w1.heap.size, 0, none⟩) 1 1) [118] := (byte1 w1 118 (by omega) (1, 2)).below (alB _ (.cells (boxOf b) TCall))
    rw [hw2, hs1] at this
    exact this
  have hs2 : w2.heap.size = B + 1 + 1 + 1 + 1 := by rw [← hw2]; simp [hs1]
  obtain ⟨c, hc⟩ : ∃ c, cGet [118] (some ⟨B + 1 + 1, 0, none⟩) 1 1 5 1 = c := ⟨_, rfl⟩
  have hCX : boxOf c = #[.int .i64 0, .int .i64 2, .string ⟨#[107]⟩, .slice none 0 0, .int .i64 1, .int .i64 5, .int .i64 1, .int .i64 0, .slice (some ⟨B + 1 + 1, 0, none⟩) 1 1, .slice none 0 0] := by rw [← hc]; rfl
  obtain ⟨w3, hw3⟩ : ∃ w3, w2.alloc (.cells (boxOf c) TCall) = w3 := ⟨_, rfl⟩
  have hb3 : Below w2.heap.size w2 w3 := by rw [← hw3]; exact alB _ _
  have hr3 : w3.rowIs (B + 1 + 1 + 1 + 1) TCall 10 (fun j => (boxOf c).getD j undef) := by
    have := box_row w2 c
    rw [hw3, hs2] at this
    exact this
  have hbel : Below B w w3 := hb1.trans ((hb2.trans (hb3.mono hb2.size)).mono (by rw [hs1]; omega))
  have PA := (cPut_p (data := [118]) (ha1.below (hb2.trans (hb3.mono hb2.size))) (fr := 1) (to := 3) (mo := 2) (i64c (by omega)) (i64c (by omega)) (i64c (by omega)))
  have PB := (cGet_p (out := [118]) (hb2'.below hb3) (fr := 2) (to := 5) (mo := 4) (i64c (by omega)) (i64c (by omega)) (i64c (by omega)))
  have PC := (cGet_p (out := [118]) (hb2'.below hb3) (fr := 1) (to := 5) (mo := 1) (i64c (by omega)) (i64c (by omega)) (i64c (by omega)))
  have e1 : ([118] : List Nat).length = 1 := rfl
  rw [ha] at PA
  rw [hb] at PB
  rw [hc] at PC
  have hs3 : w3.heap.size = B + 1 + 1 + 1 + 1 + 1 := by rw [← hw3]; simp [hs2]
  have HAB := Lib.hid (show ∀ w', Below w3.heap.size w3 w' → ∀ V, Cls w' V [a, b] → Calls Try.prog 7 #[V] w' fun e w'' => e = .returned (.bool true) ∧ Below w'.heap.size w' w'' from fun w' q V hV => by
    have hg : goes noMap [a, b] = true := by rw [← ha, ← hb]; simp [goes, inIt, does, next, got, put, cPut, cGet]
    have := checkC hV (by simp) (S := [a, b]) (by rw [← ha, ← hb]; simp [Ln.Ord, cPut, cGet]) (by rw [← ha, ← hb]; exact List.Perm.refl _) (by simp) (fun x hx => by
      rcases List.mem_cons.1 hx with rfl | hx
      · exact PA.below q
      · rw [List.mem_singleton.1 hx]; exact PB.below q)
    rw [hg] at this
    exact this)
  have HAC := Lib.hid (show ∀ w', Below w3.heap.size w3 w' → ∀ V, Cls w' V [a, c] → Calls Try.prog 7 #[V] w' fun e w'' => e = .returned (.bool false) ∧ Below w'.heap.size w' w'' from fun w' q V hV => by
    have hg : goes noMap [c, a] = false := by rw [← ha, ← hc]; simp [goes, inIt, does, got, noMap, cPut, cGet]
    have := checkC hV (by simp) (S := [c, a]) (by rw [← ha, ← hc]; simp [Ln.Ord, cPut, cGet]) (by rw [← ha, ← hc]; exact List.Perm.swap _ _ _) (by simp) (fun x hx => by
      rcases List.mem_cons.1 hx with rfl | hx
      · exact PC.below q
      · rw [List.mem_singleton.1 hx]; exact PA.below q)
    rw [hg] at this
    exact this)
  have HRA := Lib.hid (hr1.of_block ((hb2.trans (hb3.mono hb2.size)).block _ hr1.lt))
  have HRB := Lib.hid (hr2.of_block (hb3.block _ hr2.lt))
  have HRC := Lib.hid hr3
  have HR1 := Lib.hid hr1
  have HR2 := Lib.hid hr2
  have HBEL := Lib.hid hbel
  have HAX := Lib.hid hA
  have HBX := Lib.hid hBX
  have HCX := Lib.hid hCX
  have HS1 := Lib.hid hs1
  have HS2 := Lib.hid hs2
  have HS3 := Lib.hid hs3
  rw [hA] at hw1
  rw [hBX] at hw2
  rw [hCX] at hw3
  have HW1 := Lib.hid hw1
  have HW2 := Lib.hid hw2
  have HW3 := Lib.hid hw3
  have HBE := Lib.hid hB
  have HEA := Lib.hid ha
  have HEB := Lib.hid hb
  have HEC := Lib.hid hc
  clear hB ha hA hw1 hb1 hs1 hr1 ha1 hb hBX hw2 hb2 hr2 hb2' hs2 hc hCX hw3 hb3 hr3 hbel PA PB PC e1 hs3
  go_enter Try.func6, Try.ntmps6
  go_upto_region 2 with fail
  rw [HBE.out, HW1.out]
  go_upto_region 3 with fail
  rw [HS1.out, HW2.out]
  clear kc
  have b0 := HR2.out.cell (i := 0) (by omega)
  have b1 := HR2.out.cell (i := 1) (by omega)
  have b2 := HR2.out.cell (i := 2) (by omega)
  have b3 := HR2.out.cell (i := 3) (by omega)
  have b4 := HR2.out.cell (i := 4) (by omega)
  have b5 := HR2.out.cell (i := 5) (by omega)
  have b6 := HR2.out.cell (i := 6) (by omega)
  have b7 := HR2.out.cell (i := 7) (by omega)
  have b8 := HR2.out.cell (i := 8) (by omega)
  have b9 := HR2.out.cell (i := 9) (by omega)
  simp only [HBX.out] at b0 b1 b2 b3 b4 b5 b6 b7 b8 b9
  go_upto_region 5 with fail
  rw [HS2.out, HW3.out]
  clear b0 b1 b2 b3 b4 b5 b6 b7 b8 b9
  have a0 := HRA.out.cell (i := 0) (by omega)
  have a1 := HRA.out.cell (i := 1) (by omega)
  have a2 := HRA.out.cell (i := 2) (by omega)
  have a3 := HRA.out.cell (i := 3) (by omega)
  have a4 := HRA.out.cell (i := 4) (by omega)
  have a5 := HRA.out.cell (i := 5) (by omega)
  have a6 := HRA.out.cell (i := 6) (by omega)
  have a7 := HRA.out.cell (i := 7) (by omega)
  have a8 := HRA.out.cell (i := 8) (by omega)
  have a9 := HRA.out.cell (i := 9) (by omega)
  simp only [HAX.out] at a0 a1 a2 a3 a4 a5 a6 a7 a8 a9
  have b0 := HRB.out.cell (i := 0) (by omega)
  have b1 := HRB.out.cell (i := 1) (by omega)
  have b2 := HRB.out.cell (i := 2) (by omega)
  have b3 := HRB.out.cell (i := 3) (by omega)
  have b4 := HRB.out.cell (i := 4) (by omega)
  have b5 := HRB.out.cell (i := 5) (by omega)
  have b6 := HRB.out.cell (i := 6) (by omega)
  have b7 := HRB.out.cell (i := 7) (by omega)
  have b8 := HRB.out.cell (i := 8) (by omega)
  have b9 := HRB.out.cell (i := 9) (by omega)
  simp only [HBX.out] at b0 b1 b2 b3 b4 b5 b6 b7 b8 b9
  go_wp2_with fail
  refine (HAB.out _ (alB _ _) _ (lit_cls _ _ [a, b] (by simp) (by rw [← HEA.out, ← HEB.out]; rfl) _ _ rfl rfl)).mono ?_
  rintro _ w5 ⟨rfl, hb5⟩
  have hb35 := (alB w3 _).trans (hb5.mono (alB w3 _).size)
  have HB35 := Lib.hid hb35
  have hra := HRA.out.of_block (hb35.block _ HRA.out.lt)
  have hrc := HRC.out.of_block (hb35.block _ HRC.out.lt)
  clear hb5 hb35 a0 a1 a2 a3 a4 a5 a6 a7 a8 a9 b0 b1 b2 b3 b4 b5 b6 b7 b8 b9
  have a0 := hra.cell (i := 0) (by omega)
  have a1 := hra.cell (i := 1) (by omega)
  have a2 := hra.cell (i := 2) (by omega)
  have a3 := hra.cell (i := 3) (by omega)
  have a4 := hra.cell (i := 4) (by omega)
  have a5 := hra.cell (i := 5) (by omega)
  have a6 := hra.cell (i := 6) (by omega)
  have a7 := hra.cell (i := 7) (by omega)
  have a8 := hra.cell (i := 8) (by omega)
  have a9 := hra.cell (i := 9) (by omega)
  simp only [HAX.out] at a0 a1 a2 a3 a4 a5 a6 a7 a8 a9
  have c0 := hrc.cell (i := 0) (by omega)
  have c1 := hrc.cell (i := 1) (by omega)
  have c2 := hrc.cell (i := 2) (by omega)
  have c3 := hrc.cell (i := 3) (by omega)
  have c4 := hrc.cell (i := 4) (by omega)
  have c5 := hrc.cell (i := 5) (by omega)
  have c6 := hrc.cell (i := 6) (by omega)
  have c7 := hrc.cell (i := 7) (by omega)
  have c8 := hrc.cell (i := 8) (by omega)
  have c9 := hrc.cell (i := 9) (by omega)
  simp only [HCX.out] at c0 c1 c2 c3 c4 c5 c6 c7 c8 c9
  clear hra hrc
  go_wp2_with fail
  refine (HAC.out _ (HB35.out.trans ((alB w5 _).mono HB35.out.size)) _ (lit_cls _ _ [a, c] (by simp) (by rw [← HEA.out, ← HEC.out]; rfl) _ _ rfl rfl)).mono ?_
  rintro _ w6 ⟨rfl, hb6⟩
  have HB6 := Lib.hid (HB35.out.trans (((alB w5 _).trans (hb6.mono (alB w5 _).size)).mono HB35.out.size))
  clear hb6 a0 a1 a2 a3 a4 a5 a6 a7 a8 a9 c0 c1 c2 c3 c4 c5 c6 c7 c8 c9
  go_wp2
  go_ret
  refine ⟨rfl, ?_⟩
  rw [HBE.out]
  exact HBEL.out.trans (HB6.out.mono (by rw [HS3.out]; omega))
end Go.Proofs.Ytkibnpienbchaaa.Lnr
