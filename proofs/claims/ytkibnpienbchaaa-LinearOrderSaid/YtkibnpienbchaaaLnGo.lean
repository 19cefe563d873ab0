/- The program's map of what there is: whether a call is between its beginning and its end; what a Put, a Get make of it, and answer. -/
import Derived.Test.YtkibnpienbchaaaLnMap
import Derived.Laws.BytesArg
import Derived.WalkSpells
import Derived.WalkLawsBesides
import Derived.StillTailTactics
import Derived.Deep.Cut
namespace Go.Proofs.Ytkibnpienbchaaa.Lnr
set_option linter.unusedVariables false
open Go.ChangeShapes Go.WideShapes Go.ChangeAt Go.RowKit
open Go.Mem Ln
def strOf (l : List Nat) : ByteArray := strOfNums (l.map fun x : Nat => (x : Int))
theorem strOf_size (l : List Nat) : (strOf l).size = l.length := by unfold strOf; rw [strOfNums_size, List.length_map]
theorem strOf_inj {l l' : List Nat} (h : ∀ x ∈ l, x < 256) (h' : ∀ x ∈ l', x < 256) (e : strOf l = strOf l') : l = l' := by
  have key : ∀ l : List Nat, (∀ x ∈ l, x < 256) → ((strOf l).data.toList.map UInt8.toNat) = l := fun l h => by
    unfold strOf
    rw [strOfNums_data, List.map_map, List.map_map]
    conv => rhs; rw [← List.map_id l]
    refine List.map_congr_left fun x hx => ?_
    have := h x hx
    simp only [Function.comp, Int.toNat_natCast, id]
    rw [UInt8.toNat_ofNat']
    omega
  rw [← key l h, ← key l' h', e]
theorem bytes_lt {w : World} {A : Option Addr} {N C : Nat} {l : List Nat} (h : Bytes w (.slice A N C) l) : ∀ x ∈ l, x < 256 := by
  intro x hx
  obtain ⟨i, hi, rfl⟩ := List.getElem_of_mem hx
  obtain ⟨b, o, e, c, q⟩ := h.at hi
  exact q
theorem bytes_string {w : World} {A : Option Addr} {N C : Nat} {l : List Nat} (h : Bytes w (.slice A N C) l) :
    (convert 22 9 (.slice A N C)).run Try.prog w = .ok (.string (strOf l)) w := by
  obtain ⟨_, _, e, _⟩ := h.shape
  cases e
  cases A with
  | none =>
    have h0 : l.length = 0 := by
      rcases Nat.eq_zero_or_pos l.length with x | x
      · exact x
      · obtain ⟨_, _, e, _⟩ := h.at x
        cases e
    have : l = [] := List.length_eq_zero_iff.1 h0
    subst this
    exact run_convert_bytes_nil w 22 5 Try.underlying22 Try.underlying5 _ _ 9 Try.underlying9
  | some a =>
    rcases Nat.eq_zero_or_pos l.length with x | x
    · have : l = [] := List.length_eq_zero_iff.1 x
      subst this
      rw [run_convert_bytes_string w 22 9 5 _ _ _ Try.underlying22 Try.underlying5 Try.underlying9]
      exact run_bytesToString w a _ _ [] rfl
    · obtain ⟨b, o, e, _⟩ := h.at x
      cases e
      exact run_convert_bytes_arg w 22 5 Try.underlying22 Try.underlying5 b o _ _ (l.map fun x : Nat => (x : Int)) (by simp) (fun i hi => by
        rw [(h.here hi).1]
        simp [List.getD, hi]) 9 Try.underlying9
set_option maxRecDepth 100000 in
set_option maxHeartbeats 2000000 in
theorem equalC {w : World} {A A' : Option Addr} {n n' C C' : Nat} {l l' : List Nat} (h : Bytes w (.slice A n C) l) (h' : Bytes w (.slice A' n' C') l') :
    Calls Try.prog 26 #[.slice A n C, .slice A' n' C'] w fun e w' => e = .returned (.bool (decide (l = l'))) ∧ w' = w := by
  have c1 := bytes_string h
  have c2 := bytes_string h'
  have HE := Lib.hid (show ((strOf l).toList == (strOf l').toList) = decide (l = l') by
    rw [Bool.eq_iff_iff, beq_iff_eq, decide_eq_true_eq]
    refine ⟨fun q => strOf_inj (bytes_lt h) (bytes_lt h') ?_, fun q => by rw [q]⟩
    rw [ByteArray.toList_eq, ByteArray.toList_eq] at q
    exact ByteArray.ext (Array.toList_inj.1 q))
  obtain ⟨s, hs⟩ : ∃ s, strOf l = s := ⟨_, rfl⟩
  obtain ⟨s', hs'⟩ : ∃ s, strOf l' = s := ⟨_, rfl⟩
  rw [hs] at c1 HE
  rw [hs'] at c2 HE
  obtain ⟨r, hr⟩ : ∃ r, decide (l = l') = r := ⟨_, rfl⟩
  rw [hr] at HE ⊢
  clear h h' hs hs' hr
  go_enter Try.func26, Try.ntmps26
  go_wp2
  go_ret
  refine ⟨?_, rfl⟩
  rw [← HE.out]
  rfl
set_option maxRecDepth 100000 in
set_option maxHeartbeats 2000000 in
theorem withinC (x : Cl) (w : World) : Calls Try.prog 10 #[clVal x] w fun e w' => e = .returned (.bool (inIt x)) ∧ Below w.heap.size w w' := by
  obtain ⟨r, hr⟩ : ∃ r, inIt x = r := ⟨_, rfl⟩
  have HR := Lib.hid hr
  rw [hr]
  clear hr
  unfold inIt at HR
  unfold clVal
  obtain ⟨task, op, key, data, dA, dC, fr, to, mo, e, out, oA, oC, nk, kA, kC⟩ := x
  dsimp only at HR ⊢
  by_cases h1 : fr ≤ mo
  · by_cases h2 : to ≤ 0
    · have HE := Lib.hid (show true = r by rw [← HR.out]; simp [h1, h2])
      have d1 : decide (fr ≤ mo) = true := by simpa using h1
      have d2 : decide (to ≤ 0) = true := by simpa using h2
      clear HR
      go_enter Try.func10, Try.ntmps10
      go_wp2
      go_ret
      exact ⟨by rw [← HE.out]; rfl, (Below.refl _ _).alloc (Nat.le_refl _) _⟩
    · have d1 : decide (fr ≤ mo) = true := by simpa using h1
      have d2 : decide (to ≤ 0) = false := by simpa using h2
      by_cases h3 : mo ≤ to
      · have HE := Lib.hid (show true = r by rw [← HR.out]; simp [h1, h2, h3])
        have d3 : decide (mo ≤ to) = true := by simpa using h3
        clear HR
        go_enter Try.func10, Try.ntmps10
        go_wp2
        go_ret
        exact ⟨by rw [← HE.out]; rfl, (Below.refl _ _).alloc (Nat.le_refl _) _⟩
      · have HE := Lib.hid (show false = r by rw [← HR.out]; simp [h1, h2, h3])
        have d3 : decide (mo ≤ to) = false := by simpa using h3
        clear HR
        go_enter Try.func10, Try.ntmps10
        go_wp2
        go_ret
        exact ⟨by rw [← HE.out]; rfl, (Below.refl _ _).alloc (Nat.le_refl _) _⟩
  · have HE := Lib.hid (show false = r by rw [← HR.out]; simp [h1])
    have d1 : decide (fr ≤ mo) = false := by simpa using h1
    clear HR
    go_enter Try.func10, Try.ntmps10
    go_wp2
    go_ret
    exact ⟨by rw [← HE.out]; rfl, (Below.refl _ _).alloc (Nat.le_refl _) _⟩
theorem hM : Try.prog.underlying 36 = some (.map TStr 29) := Try.underlying36
abbrev zCall : Value := .agg #[.int .i64 0, .int .i64 0, .string ⟨#[]⟩, .slice none 0 0, .int .i64 0, .int .i64 0, .int .i64 0, .int .i64 0, .slice none 0 0, .slice none 0 0]
theorem hZ (w : World) : (zeroValue 29).run Try.prog w = .ok zCall w := by kernel_rfl
theorem wpList_store_map (w : World) {ops : Array Oper} {rest : List Oper} {o : Oper} {a : Act} {Q : Exit → Act → World → Prop} (hg : o.guard = none) (mo x vo : Operand) {T E : TypeId} (hop : o.op = Op.mapUpdate T mo x vo) (hT : Try.prog.underlying T = some (.map TStr E)) (b n : Nat) (m : ByteArray → Option Value) (h : MapV w b n m) (hn : n ≤ 1000000) {s : ByteArray} (hs : KeyOk s) (v : Value)
    (hm : a.eval mo = .map (some b)) (hx : a.eval x = .string s) (hv : a.eval vo = v) (hK : ∀ w', MapV w' b (n + 1) (upd m s v) → Turned (fun x => x = b) w w' → w'.heap.size = w.heap.size → wpList Try.prog ops Q rest (a.put o.dst undef) w') :
    wpList Try.prog ops Q (o :: rest) a w := by
  refine wpList_plain hg fun K' hK' => ?_
  obtain ⟨w', hrun, r1, r2, r3⟩ := h.store hT hn hs v
  unfold Oper.wp
  simp [execOp, hop, hm, hx, hv, hrun, Result.andThen]
  exact hK' _ _ (hK w' r1 r2 r3)
/-- the map in memory of what there is -/
def MapC (w : World) (b n : Nat) (m : Mp) : Prop := MapV w b n (fun s => (m s).map clVal)
theorem MapC.below {w w' : World} {b n : Nat} {m : Mp} (h : MapC w b n m) (hb : Below w.heap.size w w') : MapC w' b n m := MapV.below h hb
set_option maxRecDepth 100000 in
set_option maxHeartbeats 2000000 in
theorem putC {w : World} {b n : Nat} {m : Mp} (h : MapC w b n m) (hn : n ≤ 1000) (x : Cl) (hk : KeyOk x.key) (hop : x.op = 1) :
    Calls Try.prog 15 #[.map (some b), clVal x] w fun e w' => e = .returned (.tuple #[]) ∧ MapC w' b (n + 1) (next m x) ∧ Turned (fun y => y = b) w w' := by
  by_cases h0 : x.e = 0
  · have HP := Lib.hid (show ∀ w', MapV w' b (n + 1) (upd (fun s => (m s).map clVal) x.key (clVal x)) → MapC w' b (n + 1) (next m x) from fun w' q => q.congr fun s => by
      unfold next upd put
      rw [if_pos hop, if_pos h0]
      by_cases e : s = x.key
      · rw [if_pos e, if_pos e]; rfl
      · rw [if_neg e, if_neg e])
    have HM := Lib.hid (fun o => h.below (w' := w.alloc o) ((Below.refl _ _).alloc (Nat.le_refl _) _))
    have HK := Lib.hid hk
    have q0 : (x.e == (0 : Int)) = true := by simpa using h0
    clear h0 h hop hk
    unfold clVal at HP ⊢
    go_enter Try.func15, Try.ntmps15
    go_wp2_with (at_mapUpdate; refine wpList_store_map _ rfl _ _ _ rfl hM b n _ (HM.out _) (by omega) HK.out _ rfl rfl rfl ?_; intro w2 hm2 ht2 hs2)
    go_end0
    exact ⟨rfl, HP.out _ hm2, (Turned.alloc _ _ _).trans ht2 (Grown.refl _ _)⟩
  · have HP := Lib.hid (show next m x = m by unfold next; rw [if_pos hop, if_neg h0])
    have HM := Lib.hid h
    have q0 : (x.e == (0 : Int)) = false := by simpa using h0
    clear h0 h hop hk
    unfold clVal
    go_enter Try.func15, Try.ntmps15
    go_wp2
    go_end0
    rw [HP.out]
    exact ⟨rfl, (HM.out.below ((Below.refl _ _).alloc (Nat.le_refl _) _)).more (by omega), Turned.alloc _ _ _⟩
end Go.Proofs.Ytkibnpienbchaaa.Lnr
