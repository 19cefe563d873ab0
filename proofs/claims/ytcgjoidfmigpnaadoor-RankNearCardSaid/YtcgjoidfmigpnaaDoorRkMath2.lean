/- Who is nearest, plain: one more, or one less, that is in; each of some is the nearest one of some stripe. -/
import Derived.Test.YtcgjoidfmigpnaaDoorRkMath
namespace Go.Proofs.YtcgjoidfmigpnaaDoor.Rk
open Go.Mem Sha Hash
theorem insOf_nodup (l : List Int) : (insOf l).Nodup := insFrom_nodup l 0
theorem set_ins {l : List Int} {k : Nat} (hk : k < l.length) : (insOf (l.set k 1)).Perm ((k : Int) :: insOf (l.set k 2)) ∧ (k : Int) ∉ insOf (l.set k 2) := by
  have hn : (k : Int) ∉ insOf (l.set k 2) := by
    rw [insOf_mem]
    rintro ⟨j, hj, h1, h2⟩
    have : j = k := by omega
    subst this
    rw [List.getElem_set_self] at h1
    omega
  refine ⟨(List.perm_ext_iff_of_nodup (insOf_nodup _) (List.nodup_cons.2 ⟨hn, insOf_nodup _⟩)).2 fun z => ?_, hn⟩
  rw [List.mem_cons, insOf_mem, insOf_mem]
  constructor
  · rintro ⟨j, hj, h1, h2⟩
    by_cases e : j = k
    · subst e; exact .inl h2
    · refine .inr ⟨j, by simpa using hj, ?_, h2⟩
      rw [List.getElem_set_ne (fun q => e q.symm)] at h1 ⊢
      exact h1
  · rintro (h | ⟨j, hj, h1, h2⟩)
    · exact ⟨k, by simpa using hk, by rw [List.getElem_set_self], h⟩
    · have e : k ≠ j := fun q => by subst q; rw [List.getElem_set_self] at h1; omega
      refine ⟨j, by simpa using hj, ?_, h2⟩
      rw [List.getElem_set_ne e] at h1 ⊢
      exact h1
theorem mem_take_le {α : Type} {x : α} {l : List α} {n m : Nat} (h : x ∈ l.take n) (hm : n ≤ m) : x ∈ l.take m := by
  obtain ⟨i, hi, rfl⟩ := List.getElem_of_mem h
  rw [List.getElem_take]
  exact List.mem_take_iff_getElem.2 ⟨i, by simp at hi ⊢; omega, rfl⟩
theorem ins_take (s k : Int) : ∀ (P : List Int) (n : Nat) (x : Int), x ∈ (ins s k P).take n → x = k ∨ x ∈ P.take n
  | [], n, x, h => by
    have := List.mem_of_mem_take h
    simp [ins] at this
    exact .inl this
  | y :: P, 0, x, h => by simp at h
  | y :: P, n + 1, x, h => by
    unfold ins at h
    split at h
    · rw [List.take_succ_cons] at h
      rcases List.mem_cons.1 h with q | q
      · exact .inl q
      · exact .inr (mem_take_le q (by omega))
    · rw [List.take_succ_cons] at h
      rcases List.mem_cons.1 h with q | q
      · exact .inr (by rw [q]; simp)
      · rcases ins_take s k P n x q with z | z
        · exact .inl z
        · exact .inr (by rw [List.take_succ_cons]; exact List.mem_cons_of_mem _ z)
theorem few {s : Int} {l : List Int} {k : Nat} {n : Int} (hk : k < l.length) (h : tgtOk (l.set k 2) n = true) :
    tgtOk (l.set k 1) n = true ∧ (tgt s (l.set k 1) n).Nodup ∧ ∀ x ∈ tgt s (l.set k 1) n, x = (k : Int) ∨ x ∈ tgt s (l.set k 2) n := by
  obtain ⟨h1, h2⟩ := set_ins hk
  have hlen : (insOf (l.set k 1)).length = (insOf (l.set k 2)).length + 1 := by simpa using h1.length_eq
  have hok : tgtOk (l.set k 1) n = true := by
    unfold tgtOk at h ⊢
    simp only [Bool.and_eq_true, decide_eq_true_eq] at h ⊢
    omega
  have e : ord s (insOf (l.set k 1)) = ins s k (ord s (insOf (l.set k 2))) := ord_swap h1
  refine ⟨hok, ?_, fun x hx => ?_⟩
  · unfold tgt
    rw [if_pos hok]
    exact (List.take_sublist _ _).nodup (((ord_is s _).1.nodup_iff).2 (insOf_nodup _))
  · unfold tgt at hx ⊢
    rw [if_pos hok, e] at hx
    rw [if_pos h]
    exact ins_take s k _ _ x hx
/-! ### the nearest one -/
theorem ord_head {s : Int} {l : List Int} {i : Int} (hi : i ∈ l) (h : ∀ d ∈ l, d ≠ i → wt s d < wt s i) : (ord s l).take 1 = [i] := by
  obtain ⟨hp, hs⟩ := ord_is s l
  cases ho : ord s l with
  | nil => rw [ho] at hp; have := hp.mem_iff.2 hi; cases this
  | cons a m =>
    rw [ho] at hp hs
    have ha : a ∈ l := hp.mem_iff.1 (by simp)
    have hia : i ∈ a :: m := hp.mem_iff.2 hi
    have : a = i := by
      rcases List.mem_cons.1 hia with q | q
      · exact q.symm
      · have hn := (List.pairwise_cons.1 hs).1 i q
        by_cases e : a = i
        · exact e
        · have := h a ha e
          unfold near at hn
          omega
    rw [this]; rfl
def upTo (k : Nat) : List Int := (List.range k).map fun i : Nat => (i : Int)
theorem insOf_ones (k : Nat) : insOf (List.replicate k 1) = upTo k := by
  induction k with
  | zero => rfl
  | succ k ih =>
    have h := insFrom_snoc (List.replicate k 1) 0 1
    unfold insOf at ih ⊢
    rw [List.replicate_succ', h, ih]
    simp [upTo, List.range_succ]
def tops : List (Nat × Nat × Nat) := [(2, 0, 1), (2, 1, 0), (3, 0, 6), (3, 1, 0), (3, 2, 1), (4, 0, 6), (4, 1, 5), (4, 2, 1), (4, 3, 0), (5, 0, 6), (5, 1, 8), (5, 2, 1), (5, 3, 0), (5, 4, 2),
  (6, 0, 6), (6, 1, 8), (6, 2, 4), (6, 3, 3), (6, 4, 2), (6, 5, 0), (7, 0, 6), (7, 1, 8), (7, 2, 10), (7, 3, 3), (7, 4, 2), (7, 5, 0), (7, 6, 4)]
def wtab : List (Nat × List Nat) := [(0, [3983162290893594069, 8952255631054521211, 7577418289756152232, 10023574814481020710, 7331391043983149848, 14671041989447401466, 11197549855273373820]), (1, [8662715124235083362, 5993704787448863924, 10121370589403482978, 4526874506632354460, 9560228774097672658, 12534111513237315530, 11382677260961540272]), (2, [1371816949406847272, 8096312164499141873, 7142430821722760063, 11899010137245855389, 17135626396881424042, 8341859849527849031, 3929919450693764376]), (3, [3134151762403515416, 4765277169836585968, 805379560637576569, 5661901001639168788, 1073593811602130217, 5390863851620433139, 3162997665794960423]), (4, [9660172643539860679, 12260607128920506520, 13687681152955008072, 4655640738547788748, 5795655849103436562, 2804655370271699437, 16941613148201415114]), (5, [3178292740132901865, 6657967094915546735, 4336052423636344647, 5099084049640633711, 7132545680910032997, 1349147582751513850, 5250052502918261952]), (6, [17732468374967161757, 4052933694085952328, 9151871425709077469, 2685028652626242506, 15003248904906166189, 12298271918428802752, 9861236681375244219]), (8, [9577948242929308277, 16222053267537006001, 12749027873351532382, 10688842823946768051, 12909559577098625799, 13317411145151616818, 9978662215061248643]), (10, [966221484792391193, 3712693924485070053, 13467915399149310134, 10049570672643066764, 7965358249728763349, 2079983069084097778, 5633199783106872527])]
def tw (s d : Nat) : Nat := ((wtab.lookup s).getD []).getD d 0
set_option maxRecDepth 100000 in
theorem tw_0 : ∀ d, d < 7 → wt 0 (d : Nat) = tw 0 d := by decide +kernel
set_option maxRecDepth 100000 in
theorem tw_1 : ∀ d, d < 7 → wt 1 (d : Nat) = tw 1 d := by decide +kernel
set_option maxRecDepth 100000 in
theorem tw_2 : ∀ d, d < 7 → wt 2 (d : Nat) = tw 2 d := by decide +kernel
set_option maxRecDepth 100000 in
theorem tw_3 : ∀ d, d < 7 → wt 3 (d : Nat) = tw 3 d := by decide +kernel
set_option maxRecDepth 100000 in
theorem tw_4 : ∀ d, d < 7 → wt 4 (d : Nat) = tw 4 d := by decide +kernel
set_option maxRecDepth 100000 in
theorem tw_5 : ∀ d, d < 7 → wt 5 (d : Nat) = tw 5 d := by decide +kernel
set_option maxRecDepth 100000 in
theorem tw_6 : ∀ d, d < 7 → wt 6 (d : Nat) = tw 6 d := by decide +kernel
set_option maxRecDepth 100000 in
theorem tw_8 : ∀ d, d < 7 → wt 8 (d : Nat) = tw 8 d := by decide +kernel
set_option maxRecDepth 100000 in
theorem tw_10 : ∀ d, d < 7 → wt 10 (d : Nat) = tw 10 d := by decide +kernel
theorem tw_all : ∀ s ∈ [0, 1, 2, 3, 4, 5, 6, 8, 10], ∀ d, d < 7 → wt (s : Nat) (d : Nat) = tw s d := by
  intro s hs d hd
  simp only [List.mem_cons, List.not_mem_nil, or_false] at hs
  rcases hs with rfl | rfl | rfl | rfl | rfl | rfl | rfl | rfl | rfl
  · exact tw_0 d hd
  · exact tw_1 d hd
  · exact tw_2 d hd
  · exact tw_3 d hd
  · exact tw_4 d hd
  · exact tw_5 d hd
  · exact tw_6 d hd
  · exact tw_8 d hd
  · exact tw_10 d hd
def topB (k i s : Nat) : Bool := [0, 1, 2, 3, 4, 5, 6, 8, 10].contains s && (List.range k).all fun d => d == i || decide (tw s d < tw s i)
theorem tops_ok : tops.all (fun q => topB q.1 q.2.1 q.2.2) = true := by decide +kernel
theorem tops_all : (List.range 8).all (fun k => k < 2 || (List.range k).all fun i => tops.any fun q => q.1 == k && q.2.1 == i && decide (q.2.2 < 400)) = true := by decide +kernel
/-- each of some is the nearest one of some stripe -/
theorem spread {k i : Nat} (h2 : 2 ≤ k) (h7 : k ≤ 7) (hi : i < k) : ∃ s : Nat, s < 400 ∧ tgt s (List.replicate k 1) 1 = [(i : Int)] := by
  have h := List.all_eq_true.1 tops_all k (List.mem_range.2 (by omega))
  simp only [Bool.or_eq_true, decide_eq_true_eq] at h
  rcases h with h | h
  · omega
  · have h3 := List.all_eq_true.1 h i (List.mem_range.2 hi)
    obtain ⟨⟨a, b, s⟩, hq, hq2⟩ := List.any_eq_true.1 h3
    simp only [Bool.and_eq_true, beq_iff_eq, decide_eq_true_eq] at hq2
    obtain ⟨⟨rfl, rfl⟩, hs⟩ := hq2
    have h4 := List.all_eq_true.1 tops_ok _ hq
    refine ⟨s, hs, ?_⟩
    have hok : tgtOk (List.replicate a 1) 1 = true := by
      unfold tgtOk
      rw [insOf_ones]
      simp [upTo]
      omega
    unfold tgt
    rw [if_pos hok, insOf_ones]
    unfold topB at h4
    rw [Bool.and_eq_true] at h4
    have hmem := List.contains_iff_mem.1 h4.1
    refine ord_head (List.mem_map.2 ⟨b, List.mem_range.2 hi, rfl⟩) fun d hd hne => ?_
    obtain ⟨d', hd', rfl⟩ := List.mem_map.1 hd
    have h5 := List.all_eq_true.1 h4.2 d' hd'
    simp only [Bool.or_eq_true, beq_iff_eq, decide_eq_true_eq] at h5
    rcases h5 with h5 | h5
    · subst h5; exact absurd rfl hne
    · rw [tw_all s hmem d' (by have := List.mem_range.1 hd'; omega), tw_all s hmem b (by omega)]
      exact h5
end Go.Proofs.YtcgjoidfmigpnaaDoor.Rk
