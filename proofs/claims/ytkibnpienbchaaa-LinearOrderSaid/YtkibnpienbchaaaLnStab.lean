/- The program's sort of its calls, that leaves those of one moment as they stand: of at most twenty, and of none. -/
import Derived.Test.YtkibnpienbchaaaLnSort
namespace Go.Proofs.Ytkibnpienbchaaa.Lnr
set_option linter.unusedVariables false
open Go.ChangeShapes Go.WideShapes Go.ChangeAt Go.RowKit
open Go.Mem Ln
open Go.Sort (grow grow_grow alloc_eq_grow HoldsK PermIn SortedIn SWO)
theorem enc_get (M : List Cl) (j : Nat) (hj : j < M.length * 10) : (Go.Sort.flatK enc 10 M.toArray)[j]! = (enc (M[j / 10]'(by omega))).getD (j % 10) undef := by
  rw [Go.Sort.get_flatK _ _ _ _ (by simpa using hj)]
  rw [getElem!_pos M.toArray (j / 10) (by simp; omega)]
  rw [getElem!_pos _ (j % 10) (by rw [enc_len]; omega), List.getD_eq_getElem?_getD, List.getElem?_eq_getElem (by rw [enc_len]; omega)]
  rfl
theorem row_holds {w : World} {base t g C : Nat} {M : List Cl} (h : Row w base t (.slice (some ⟨g, 0, none⟩) M.length C) M) : HoldsK enc 10 w g 0 M.toArray := by
  intro j hj
  have hj' : j < M.length * 10 := by simpa [Go.Sort.size_flatK] using hj
  have hjl : j / 10 < M.length := by omega
  rw [enc_get M j hj', Nat.zero_add]
  have hg := flat_get M (j / 10) (j % 10) hjl (by omega)
  rw [show j / 10 * 10 + j % 10 = j by omega] at hg
  exact ⟨(World.ownsRow.cellAt h j hj').trans hg, World.ownsRow.frozenAt h j⟩
theorem holds_keep {w w' : World} {g : Nat} {d : Array Cl} (h : HoldsK enc 10 w g 0 d) (e : w'.heap[g]? = w.heap[g]?) : HoldsK enc 10 w' g 0 d := fun j hj => by
  obtain ⟨h1, h2⟩ := h j hj
  exact ⟨(World.cell?_of_block (w := w) (a := ⟨g, 0 + j, none⟩) e).trans h1, (World.frozen?_of_block (w := w) (a := ⟨g, 0 + j, none⟩) e).trans h2⟩
theorem holds_cls {w : World} {g n C : Nat} {M : List Cl} (h : HoldsK enc 10 w g 0 M.toArray) (hn : n = M.length) (hC : n ≤ C) (hm : C ≤ maxLen) : Cls w (.slice (some ⟨g, 0, none⟩) n C) M := by
  refine ⟨_, n, C, rfl, hn, hC, hm, (fun e => by cases e), fun i hi => ⟨g, 0, fun j => (enc M[i]).getD j undef, rfl, fun j hj => ?_, fun j _ => rfl⟩⟩
  have hb : i * 10 + j < M.length * 10 := by omega
  have := (h (i * 10 + j) (by simp [Go.Sort.size_flatK]; omega)).1
  rw [enc_get M _ hb] at this
  rw [show 0 + i * 10 + j = 0 + (i * 10 + j) by omega]
  refine this.trans ?_
  have e1 : (i * 10 + j) / 10 = i := by omega
  have e2 : (i * 10 + j) % 10 = j := by omega
  simp only [e1, e2]
  rfl
theorem sortWorld_turned {b n : Nat} {w : World} (d : Array Cl) (os : Array Obj) (hb : b < w.heap.size) : Turned (fun x => x = b) w (Go.Proofs.sortWorldK enc 10 w b 0 n d os) where
  os := rfl
  tape := rfl
  output := rfl
  size := by simp [Go.Proofs.sortWorldK, grow, Go.Sort.putRowK, Go.Sort.putRow, Go.Sort.mapBlock]
  block k hk hne := by
    unfold Go.Proofs.sortWorldK
    rw [Go.Sort.heap_grow_old _ _ (by rw [Go.Sort.putRowK, Go.Sort.size_putRow]; exact hk)]
    show ((Go.Sort.ahead w n).heap.modify b _)[k]? = _
    rw [Array.getElem?_modify, if_neg (by omega)]
    rfl
/-- behind the sort of d: another order of it, by the moments -/
structure Sorted (w : World) (g : Nat) (d : List Cl) (w' : World) (d' : List Cl) : Prop where
  perm : d'.Perm d
  ris : d'.Pairwise (fun a b => ¬ b.mo < a.mo)
  holds : HoldsK enc 10 w' g 0 d'.toArray
  tur : Turned (fun x => x = g) w w'
theorem permIn_perm {d d' : Array Cl} (h : PermIn 0 d.size d d') : d'.toList.Perm d.toList := by
  have h1 := h.2.2
  rw [show d'.extract 0 d.size = d' by rw [← h.1]; simp, show d.extract 0 d.size = d by simp] at h1
  exact h1
theorem sortedIn_pair {d : Array Cl} {n : Nat} (hn : n = d.size) (h : SortedIn (Go.Proofs.ltOf cf) 0 n d) : d.toList.Pairwise (fun a b => ¬ b.mo < a.mo) := by
  subst hn
  rw [List.pairwise_iff_getElem]
  intro i j hi hj hij
  have hi' : i < d.size := by simpa using hi
  have hj' : j < d.size := by simpa using hj
  have := h i j (Nat.zero_le _) hij hj'
  rw [getElem!_pos d j hj', getElem!_pos d i hi', cf_lt] at this
  simpa using this
theorem insC {w : World} {g C : Nat} {M : List Cl} (hH : HoldsK enc 10 w g 0 M.toArray) (hg : g < w.heap.size) (hl : M.length ≤ 20) :
    Calls Try.prog 24 #[.slice (some ⟨g, 0, none⟩) M.length C, .int .i64 0, .int .i64 M.length, .func (.func 13) #[] #[]] w fun e w' => e = .returned (.tuple #[]) ∧ ∃ M', Sorted w g M w' M' := by
  have eg : ∀ args w, (callFunc 13 args).run Try.prog w = .ok (.enter 13 args) w := enters_of Try.func13 (by kernel_rfl) rfl
  have hcmp : Go.Proofs.CmpLays Try.prog 13 #[] enc 10 cf g 0 M.toArray.size w := fun _ _ _ _ x y => nearerC x y _
  have hcon := Go.Proofs.AnyQ.insertionSortCmpFunc Try.insS 10 Try.isAgg29 Try.sizeOf29 enc enc_len enc_one cf 13 #[] g 0 C 0 M.toArray.size M.toArray w eg hcmp hH hg (Nat.zero_le _) (Nat.le_refl _) (by simp; omega)
  rw [List.size_toArray] at hcon
  refine Calls.mono hcon ?_
  rintro e w' ⟨rfl, n, os, rfl⟩
  obtain ⟨h1, h2⟩ := Go.Sort.insertionSort_holds (lt := Go.Proofs.ltOf cf) cf_swo M.toArray 0 M.toArray.size (Nat.zero_le _) (Nat.le_refl _)
  rw [List.size_toArray] at h1 h2
  have hsz : (Go.Sort.insertionSort (Go.Proofs.ltOf cf) M.toArray 0 M.length).size = M.length := by rw [h1.1]; simp
  refine ⟨rfl, (Go.Sort.insertionSort (Go.Proofs.ltOf cf) M.toArray 0 M.length).toList, by simpa using permIn_perm (d := M.toArray) (by simpa using h1), sortedIn_pair hsz.symm h2, ?_, sortWorld_turned _ _ hg⟩
  refine Go.Sort.holdsK_grow enc 10 _ _ _ _ _ (by rw [Go.Sort.putRowK, Go.Sort.size_putRow]; exact hg) ?_
  rw [Array.toArray_toList]
  exact Go.Sort.holdsK_putRowK enc 10 _ _ _ M.toArray _ (Go.Sort.holdsK_ahead enc 10 _ _ _ _ _ hH) (by rw [hsz]; simp)
/-- .. from the end on: nothing is left -/
theorem insEnd {w : World} {g C : Nat} {M : List Cl} (hH : HoldsK enc 10 w g 0 M.toArray) (hg : g < w.heap.size) (hl : M.length = 20) :
    Calls Try.prog 24 #[.slice (some ⟨g, 0, none⟩) 20 C, .int .i64 20, .int .i64 20, .func (.func 13) #[] #[]] w fun e w' => e = .returned (.tuple #[]) ∧ w' = w := by
  go_enter Try.func24, Try.ntmps24
  go_wp2
  refine wp_loop_rounds 1 ?_
  rw [rounds_succ]
  go_wp2
  go_end0
  exact ⟨rfl, rfl⟩
theorem insNone (w : World) (p : Option Addr) (C : Nat) :
    Calls Try.prog 24 #[.slice p 0 C, .int .i64 0, .int .i64 0, .func (.func 13) #[] #[]] w fun e w' => e = .returned (.tuple #[]) ∧ w' = w := by
  go_enter Try.func24, Try.ntmps24
  go_wp2
  refine wp_loop_rounds 1 ?_
  rw [rounds_succ]
  go_wp2
  go_end0
  exact ⟨rfl, rfl⟩
set_option maxRecDepth 100000 in
set_option maxHeartbeats 2000000 in
theorem stableNone (w : World) (p : Option Addr) (C : Nat) :
    Calls Try.prog 18 #[.slice p 0 C, .int .i64 0, .func (.func 13) #[] #[]] w fun e w' => e = .returned (.tuple #[]) ∧ w' = w := by
  go_enter Try.func18, Try.ntmps18
  go_wp2
  refine wp_loop_rounds 1 ?_
  rw [rounds_succ]
  go_wp2_with (go_at_call 24; refine (insNone _ _ _).mono ?_; rintro _ _ ⟨rfl, rfl⟩)
  refine wp_loop_rounds 1 ?_
  rw [rounds_succ]
  go_wp2
  go_end0
  exact ⟨rfl, rfl⟩
set_option maxRecDepth 100000 in
set_option maxHeartbeats 2000000 in
theorem stableC {w : World} {g C : Nat} {M : List Cl} (hH : HoldsK enc 10 w g 0 M.toArray) (hg : g < w.heap.size) (hl : M.length ≤ 20) :
    Calls Try.prog 18 #[.slice (some ⟨g, 0, none⟩) M.length C, .int .i64 M.length, .func (.func 13) #[] #[]] w fun e w' => e = .returned (.tuple #[]) ∧ ∃ M', Sorted w g M w' M' := by
  have HI := Lib.hid (insC (C := C) hH hg hl)
  obtain ⟨N, hN⟩ : ∃ N, M.length = N := ⟨_, rfl⟩
  have HN := Lib.hid hN
  rw [hN] at HI hl ⊢
  clear hN
  rcases Nat.lt_or_ge N 20 with h | h
  · have h20 : ¬ (20 : Int) ≤ (N : Int) := by omega
    have h21 : ¬ (20 : Int) < (N : Int) := by omega
    go_enter Try.func18, Try.ntmps18
    go_wp2
    refine wp_loop_rounds 1 ?_
    rw [rounds_succ]
    go_wp2_with (go_at_call 24; refine (HI.out).mono ?_; rintro _ w1 ⟨rfl, M1, hM1⟩; have HM := Lib.hid hM1; clear hM1)
    refine wp_loop_rounds 1 ?_
    rw [rounds_succ]
    go_wp2
    go_end0
    exact ⟨rfl, M1, HM.out⟩
  · obtain rfl : N = 20 := by omega
    go_enter Try.func18, Try.ntmps18
    go_wp2
    refine wp_loop_rounds 2 ?_
    rw [rounds_succ]
    go_wp2_with fail
    refine (HI.out).mono ?_
    rintro _ w1 ⟨rfl, M1, hM1⟩
    have HE := Lib.hid (insEnd (C := C) hM1.holds (Nat.lt_of_lt_of_le hg hM1.tur.size) (hM1.perm.length_eq.trans HN.out))
    have HM := Lib.hid hM1
    clear hM1
    go_wp2_with fail
    rw [rounds_succ]
    go_wp2_with fail
    refine (HE.out).mono ?_
    rintro _ _ ⟨rfl, rfl⟩
    go_wp2
    refine wp_loop_rounds 1 ?_
    rw [rounds_succ]
    go_wp2
    go_end0
    exact ⟨rfl, M1, HM.out⟩
set_option maxRecDepth 100000 in
theorem sortNone (w : World) (p : Option Addr) (C : Nat) :
    Calls Try.prog 12 #[.slice p 0 C, .func (.func 13) #[] #[]] w fun e w' => e = .returned (.tuple #[]) ∧ w' = w := by
  go_enter Try.func12, Try.ntmps12
  go_wp2_with (go_at_call 18; refine (stableNone _ _ _).mono ?_; rintro _ _ ⟨rfl, rfl⟩)
  go_end0
  exact ⟨rfl, rfl⟩
set_option maxRecDepth 100000 in
theorem sortC {w : World} {g C : Nat} {M : List Cl} (hH : HoldsK enc 10 w g 0 M.toArray) (hg : g < w.heap.size) (hl : M.length ≤ 20) :
    Calls Try.prog 12 #[.slice (some ⟨g, 0, none⟩) M.length C, .func (.func 13) #[] #[]] w fun e w' => e = .returned (.tuple #[]) ∧ ∃ M', Sorted w g M w' M' := by
  have HI := Lib.hid (stableC (C := C) hH hg hl)
  obtain ⟨N, hN⟩ : ∃ N, M.length = N := ⟨_, rfl⟩
  rw [hN] at HI ⊢
  clear hN hH hl
  go_enter Try.func12, Try.ntmps12
  go_wp2_with (go_at_call 18; refine (HI.out).mono ?_; rintro _ w1 ⟨rfl, M1, hM1⟩; have HM := Lib.hid hM1; clear hM1)
  go_end0
  exact ⟨rfl, M1, HM.out⟩
end Go.Proofs.Ytkibnpienbchaaa.Lnr
