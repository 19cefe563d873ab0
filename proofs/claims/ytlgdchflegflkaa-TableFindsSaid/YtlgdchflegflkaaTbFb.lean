/- How much a table holds behind small records, plain. Two of the program's tables and the document's, side by side; layer 14's law of the record of all, as a walk, over an interface. Layer 14's law of what is there, as a walk, over an interface. -/
import Derived.Test.YtlgdchflegflkaaTbBoth
namespace Tb
open Go Go.Mem Kl RecM
def cost (o : ObjD) : Nat := 1 + o.stripes.length + locsSum o.stripes
def tot (L : List ObjD) : Nat := (L.map cost).sum
theorem tot_cons (o : ObjD) (L : List ObjD) : tot (o :: L) = cost o + tot L := by simp [tot]
theorem tot_is : ∀ L : List ObjD, tot L = L.length + objSum L
  | [] => rfl
  | o :: L => by
    rw [tot_cons, tot_is L]
    simp only [objSum, List.map_cons, List.sum_cons, List.length_cons, cost]
    omega
theorem locs_five : ∀ {l : List StpD}, (∀ s ∈ l, s.locs.length = 5) → locsSum l = 5 * l.length
  | [], _ => rfl
  | s :: l, h => by
    have h1 := h s (by simp)
    have h2 := locs_five (l := l) fun x hx => h x (by simp [hx])
    simp only [locsSum, List.map_cons, List.sum_cons, List.length_cons] at h2 ⊢
    omega
theorem cost_le {o : ObjD} (h : ObjOk 3 5 o) : cost o ≤ 25 := by
  obtain ⟨-, -, -, -, h1, h2, h3, -, h4⟩ := h
  have h5 := locs_five fun s hs => by have := (h4 s hs).2.2.1; omega
  have h6 : nStp 3 o.size ≤ 4 := by
    unfold nStp
    omega
  unfold cost
  omega
theorem tot_put {x : ObjD} : ∀ {L : List ObjD}, tot (put keyOf x L) ≤ tot L + cost x
  | [] => by simp [put, tot]
  | a :: L => by
    unfold put
    split
    · rw [tot_cons, tot_cons]
      have := tot_put (x := x) (L := L)
      omega
    · split
      · rw [tot_cons, tot_cons]; omega
      · rw [tot_cons]; omega
theorem tot_del {k : List UInt8} : ∀ {L : List ObjD}, tot (del keyOf k L) ≤ tot L
  | [] => Nat.le_refl _
  | a :: L => by
    have ih := tot_del (k := k) (L := L)
    unfold del at ih ⊢
    rw [List.filter_cons]
    split
    · rw [tot_cons, tot_cons]; omega
    · rw [tot_cons]; omega
theorem tot_move {s : StpD} : ∀ {L L' : List ObjD}, moveO s L = some L' → (∀ o ∈ L', ObjOk 3 5 o) → tot L' ≤ tot L + 25
  | [], _, h, _ => by cases h
  | a :: L, L', h, ho => by
    unfold moveO at h
    split at h
    · cases h
      rw [tot_cons, tot_cons]
      have := cost_le (ho _ (List.mem_cons_self))
      omega
    · obtain ⟨m, hm, rfl⟩ := Option.map_eq_some_iff.1 h
      rw [tot_cons, tot_cons]
      have := tot_move hm fun o q => ho o (List.mem_cons_of_mem _ q)
      omega
theorem tot_apply {t t' : TabD} {r : RecD} (hk : t.k = 3) (hn : t.n = 5) (hok : t.Ok) (hs : small r = true) (e : apply t r = some t') : tot t'.objs ≤ tot t.objs + 25 ∨ tot t'.objs < 4000 := by
  have hok' := apply_ok hok e
  unfold apply at e
  split at e
  · split at e
    · rename_i hc
      cases e
      have h1 := tot_put (x := putObj r) (L := t.objs)
      have h2 := hc.1
      rw [hk, hn] at h2
      have := cost_le h2
      exact .inl (by show tot (put keyOf (putObj r) t.objs) ≤ _; omega)
    · cases e
  · split at e
    · split at e
      · cases e
        have := tot_del (k := r.key.toList) (L := t.objs)
        exact .inl (by show tot (del keyOf r.key.toList t.objs) ≤ _; omega)
      · cases e
    · split at e
      · split at e
        · split at e
          · obtain ⟨L, hL, rfl⟩ := Option.map_eq_some_iff.1 e
            refine .inl (tot_move hL fun o ho => ?_)
            have := (hok'.all.1 o ho).1
            dsimp only at this
            rw [hk, hn] at this
            exact this
          · cases e
        · cases e
      · split at e
        · split at e
          · cases e; exact .inl (Nat.le_add_right _ _)
          · cases e
        · split at e
          · split at e
            · cases e
              have h1 := (small_parts hs).2
              refine .inr ?_
              show tot r.objects < 4000
              rw [tot_is]
              unfold items base at h1
              omega
            · cases e
          · cases e
theorem tot_run {L : List RecD} (hs : ∀ r ∈ L, small r = true) : ∀ {i : Nat}, i ≤ L.length → tot (runT 3 5 L i).objs ≤ 4000 + 25 * i
  | 0, _ => by rw [run_zero]; simp [empty, tot]
  | i + 1, h => by
    have hi : i < L.length := by omega
    obtain ⟨h1, h2, h3⟩ := run_ok 5 (show (1 : Int) ≤ 3 by decide) (L := L) (i := i) (by omega)
    have ih := tot_run hs (i := i) (by omega)
    rw [run_succ hi]
    unfold stepT
    cases e : apply (runT 3 5 L i) L[i] with
    | none => show tot (runT 3 5 L i).objs ≤ _; omega
    | some t' =>
      show tot t'.objs ≤ _
      rcases tot_apply h2 h3 h1 (hs _ (List.getElem_mem hi)) e with q | q <;> omega
end Tb
namespace Go.Proofs.Ytlgdchflegflkaa.Tbl
open Go.Mem RecM
theorem fit_all {L : List RecD} (hs : smalls L = true) {i : Nat} (hi : i ≤ L.length) : Fit (Tb.allRec (Tb.runT 3 5 L i)) := by
  have hf := few_run (k := 3) (n := 5) hs hi
  have hok := (Tb.run_ok 5 (show (1 : Int) ≤ 3 by decide) hi).1
  unfold smalls at hs
  rw [Bool.and_eq_true] at hs
  have h2 : L.length ≤ 40 := of_decide_eq_true hs.2
  have h1 := Tb.tot_run (List.all_eq_true.1 hs.1) hi
  have hl := Tb.run_len (k := 3) (n := 5) (List.all_eq_true.1 hs.1) hi
  rw [Tb.tot_is] at h1
  have hd := hok.drv.2
  refine ⟨?_, ?_⟩
  · show 0 + (Tb.runT 3 5 L i).objs.length + (Tb.runT 3 5 L i).states.length ≤ 1000
    omega
  · show 0 + (Tb.runT 3 5 L i).objs.length + (Tb.runT 3 5 L i).states.length + locsSum [] + objSum (Tb.runT 3 5 L i).objs ≤ 10000
    have : locsSum [] = 0 := rfl
    omega
end Go.Proofs.Ytlgdchflegflkaa.Tbl
namespace Go.Proofs.Ytlgdchflegflkaa.Tbl
set_option linter.unusedVariables false
open Go.ChangeShapes Go.WideShapes Go.ChangeAt Go.RowKit
open Go.Mem RecM
def TriT (PD : Thing) (W w : World) (p q r : Nat) (t u v : Tb.TabD) (P : (Nat → Prop) → World → Prop) : Prop :=
  ∃ F F2 G, PD w F p t ∧ PD w F2 q u ∧ RT w G r v ∧ (∀ b, F b → W.heap.size ≤ b) ∧ (∀ b, F2 b → W.heap.size ≤ b) ∧ (∀ b, G b → W.heap.size ≤ b) ∧ (∀ b, F b → ¬ F2 b) ∧ (∀ b, F b → ¬ G b) ∧ (∀ b, F2 b → ¬ G b) ∧ Below W.heap.size W w ∧ P F2 w
abbrev Nought : (Nat → Prop) → World → Prop := fun _ _ => True
section
variable {PD : Thing} {W w w' : World} {p q r : Nat} {t u v : Tb.TabD}
theorem TriT.bel {P : (Nat → Prop) → World → Prop} (h : TriT PD W w p q r t u v P) : Below W.heap.size W w := by
  obtain ⟨F, F2, G, _, _, _, _, _, _, _, _, _, h, _⟩ := h
  exact h
theorem TriT.below (I : TbI PD) (h : TriT PD W w p q r t u v Nought) (hb : Below w.heap.size w w') : TriT PD W w' p q r t u v Nought := by
  obtain ⟨F, F2, G, h1, h2, h3, a1, a2, a3, d1, d2, d3, h4, -⟩ := h
  exact ⟨F, F2, G, I.turned h1 (Turned.of_below (fun _ => False) hb) (fun _ z => z.elim), I.turned h2 (Turned.of_below (fun _ => False) hb) (fun _ z => z.elim), h3.below hb, a1, a2, a3, d1, d2, d3, h4.trans (hb.mono h4.size), trivial⟩
theorem TriT.start (I : TbI PD) {w1 w2 : World} (h1 : MineT PD W w1 p t) (h2 : MineT PD w1 w2 q u) : TriT PD W (w2.alloc (.cells #[.int .i64 3, .int .i64 2, .slice none 0 0, .slice none 0 0, .int .i64 0, .int .i64 0] TTab)) p q w2.heap.size t u (Tb.empty 3 5) Nought := by
  obtain ⟨F, a1, a2, a3⟩ := h1
  obtain ⟨F2, b1, b2, b3⟩ := h2
  have hx : Below w2.heap.size w2 (w2.alloc (.cells #[.int .i64 3, .int .i64 2, .slice none 0 0, .slice none 0 0, .int .i64 0, .int .i64 0] TTab)) := (Below.refl _ _).alloc (Nat.le_refl _) _
  have s1 := a3.size
  have s2 := b3.size
  refine ⟨F, F2, _, I.turned (I.turned a1 (Turned.of_below (fun _ => False) b3) (fun _ z => z.elim)) (Turned.of_below (fun _ => False) hx) (fun _ z => z.elim), I.turned b1 (Turned.of_below (fun _ => False) hx) (fun _ z => z.elim), rt_start w2, a2, fun b z => Nat.le_trans s1 (b2 b z), fun b z => by rw [z]; omega, fun b z y => ?_, fun b z y => ?_, fun b z y => ?_, (a3.trans (b3.mono s1)).trans (hx.mono (by omega)), trivial⟩
  · have := I.lt a1 b z; have := b2 b y; omega
  · have := I.lt a1 b z; omega
  · have := I.lt b1 b z; omega
theorem TriT.applyT (I : TbI PD) (h : TriT PD W w p q r t u v Nought) (hf : Few t) (rd : RecD) (V : Value) (hr : RecV W V rd) (hfit : Fit rd) :
    Calls Try.prog 12 #[.pointer (some ⟨p, 0, none⟩), V] w fun e w' => e = .returned (.int .i64 (if (Tb.apply t rd).isSome = true then 0 else 2)) ∧ TriT PD W w' p q r (Tb.stepT t rd) u v Nought := by
  obtain ⟨F, F2, G, h1, h2, h3, a1, a2, a3, d1, d2, d3, h6, -⟩ := h
  refine (I.apply h1 hf rd V (sure_old h6 hr F fun b z => ⟨a1 b z, I.lt h1 b z⟩) hfit).mono fun e w' hh => ?_
  obtain ⟨e1, F', k1, k2, k3⟩ := hh
  have hs := h6.size
  refine ⟨e1, F', F2, G, k1, I.turned h2 k2 d1, h3.turned k2 d2, fun b z => ?_, a2, a3, fun b z y => ?_, fun b z y => ?_, d3, h6.trans (k2.below a1 hs), trivial⟩
  · rcases k3 b z with y | y
    · exact a1 b y
    · omega
  · rcases k3 b z with x | x
    · exact d1 b x y
    · have := I.lt h2 b y; omega
  · rcases k3 b z with x | x
    · exact d2 b x y
    · have := h3.lt b y; omega
theorem TriT.applyU (I : TbI PD) (h : TriT PD W w p q r t u v Nought) (hf : Few u) (rd : RecD) (V : Value) (hr : RecV W V rd) (hfit : Fit rd) :
    Calls Try.prog 12 #[.pointer (some ⟨q, 0, none⟩), V] w fun e w' => e = .returned (.int .i64 (if (Tb.apply u rd).isSome = true then 0 else 2)) ∧ TriT PD W w' p q r t (Tb.stepT u rd) v Nought := by
  obtain ⟨F, F2, G, h1, h2, h3, a1, a2, a3, d1, d2, d3, h6, -⟩ := h
  refine (I.apply h2 hf rd V (sure_old h6 hr F2 fun b z => ⟨a2 b z, I.lt h2 b z⟩) hfit).mono fun e w' hh => ?_
  obtain ⟨e1, F', k1, k2, k3⟩ := hh
  have hs := h6.size
  refine ⟨e1, F, F', G, I.turned h1 k2 (fun b z y => d1 b y z), k1, h3.turned k2 d3, a1, fun b z => ?_, a3, fun b z y => ?_, d2, fun b z y => ?_, h6.trans (k2.below a2 hs), trivial⟩
  · rcases k3 b z with y | y
    · exact a2 b y
    · omega
  · rcases k3 b y with x | x
    · exact d1 b z x
    · have := I.lt h1 b z; omega
  · rcases k3 b z with x | x
    · exact d3 b x y
    · have := h3.lt b y; omega
theorem TriT.applyR (I : TbI PD) (h : TriT PD W w p q r t u v Nought) (hok : v.Ok) (hf : Few v) (rd : RecD) (V : Value) (hr : RecV W V rd) (hfit : Fit rd) :
    Calls Try.prog 13 #[.pointer (some ⟨r, 0, none⟩), V] w fun e w' => e = .returned (.bool (Tb.apply v rd).isSome) ∧ TriT PD W w' p q r t u (Tb.stepT v rd) Nought := by
  obtain ⟨F, F2, G, h1, h2, h3, a1, a2, a3, d1, d2, d3, h6, -⟩ := h
  refine (refApplyC h3 hok hf rd V (hr.below h6) hfit).mono fun e w' hh => ?_
  obtain ⟨e1, G', k1, k2, k3⟩ := hh
  have hs := h6.size
  refine ⟨e1, F, F2, G', I.turned h1 k2 (fun b z y => d2 b y z), I.turned h2 k2 (fun b z y => d3 b y z), k1, a1, a2, fun b z => ?_, d1, fun b z y => ?_, fun b z y => ?_, h6.trans (k2.below a3 hs), trivial⟩
  · rcases k3 b z with y | y
    · exact a3 b y
    · omega
  · rcases k3 b y with x | x
    · exact d2 b z x
    · have := I.lt h1 b z; omega
  · rcases k3 b y with x | x
    · exact d3 b z x
    · have := I.lt h2 b z; omega
theorem TriT.all (I : TbI PD) (h : TriT PD W w p q r t u v Nought) (hf : Few t) :
    Calls Try.prog 15 #[.pointer (some ⟨p, 0, none⟩)] w fun e w' => ∃ As Ao Ad Cs Co Cd, e = .returned (recVal (Tb.allRec t) As Ao Ad Cs Co Cd) ∧ TriT PD W w' p q r t u v (fun F2 w => Sure F2 w (fun w'' => RecV w'' (recVal (Tb.allRec t) As Ao Ad Cs Co Cd) (Tb.allRec t))) := by
  obtain ⟨F, F2, G, h1, h2, h3, a1, a2, a3, d1, d2, d3, h6, -⟩ := h
  refine (I.all h1 hf).mono fun e w' hh => ?_
  obtain ⟨V, e1, k1, k2⟩ := hh
  obtain ⟨As, Ao, Ad, Cs, Co, Cd, rfl, -⟩ := k1.here
  exact ⟨As, Ao, Ad, Cs, Co, Cd, e1, F, F2, G, I.turned h1 (Turned.of_below (fun _ => False) k2) (fun _ z => z.elim), I.turned h2 (Turned.of_below (fun _ => False) k2) (fun _ z => z.elim), h3.below k2, a1, a2, a3, d1, d2, d3, h6.trans (k2.mono h6.size), k1.less fun b z => I.lt h2 b z⟩
theorem TriT.leads (I : TbI PD) {V : Value} (h : TriT PD W w p q r t u t (fun F2 w => Sure F2 w (fun w'' => RecV w'' V (Tb.allRec t)))) (hf : Few u) (hok : t.Ok) (hk : u.k = t.k) (hn : u.n = t.n) (hfit : Fit (Tb.allRec t)) :
    Calls Try.prog 12 #[.pointer (some ⟨q, 0, none⟩), V] w fun e w' => e = .returned (.int .i64 0) ∧ BothT PD W w' q r t t := by
  obtain ⟨F, F2, G, h1, h2, h3, a1, a2, a3, d1, d2, d3, h6, hs⟩ := h
  have ha := I.apply h2 hf _ V hs hfit
  rw [Tb.all_leads hok hk hn] at ha
  refine ha.mono fun e w' hh => ?_
  obtain ⟨e1, F', k1, k2, k3⟩ := hh
  have hz := h6.size
  refine ⟨e1, F', G, k1, fun b z => ?_, h3.turned k2 d3, a3, fun b z y => ?_, h6.trans (k2.below a2 hz)⟩
  · rcases k3 b z with y | y
    · exact a2 b y
    · omega
  · rcases k3 b z with x | x
    · exact d3 b x y
    · have := h3.lt b y; omega
end
set_option maxHeartbeats 8000000 in
theorem TableAllC {PD : Thing} (I : TbI PD) (L M : List RecD) (v v2 : Value) (W : World) (hL : Recs W v L) (hL2 : Recs W v2 M) :
    Calls Try.prog 4 #[v, v2] W fun e w' => e = .returned (.bool true) ∧ Below W.heap.size W w' := by
  obtain ⟨AL, CL, rfl, g1, g2, -⟩ := Cells.shape hL
  obtain ⟨AM, CM, rfl, g3, g4, -⟩ := Cells.shape hL2
  have HL := Lib.hid hL
  have HL2 := Lib.hid hL2
  obtain ⟨N, hN⟩ : ∃ N, L.length = N := ⟨_, rfl⟩
  obtain ⟨N2, hN2⟩ : ∃ N, M.length = N := ⟨_, rfl⟩
  have HN := Lib.hid hN
  have HN2 := Lib.hid hN2
  rw [hN] at g1 HL ⊢
  rw [hN2] at g3 HL2 ⊢
  clear hL hN hL2 hN2
  go_enter Try.func4, Try.ntmps4
  go_wp2_with fail
  refine (smallC L _ _ HL.out).mono ?_
  rintro _ w2 ⟨rfl, hb2⟩
  have HB2 := Lib.hid hb2
  have HL2b := Lib.hid (show Recs w2 (.slice AM N2 CM) M from Recs.below HL2.out hb2)
  clear hb2
  cases hsm : smalls L
  · clear hsm
    go_wp2_with fail
    refine (answersC I _).mono ?_
    rintro _ w3 ⟨rfl, hb3⟩
    have HB3 := Lib.hid (nxt HB2.out hb3 (Nat.le_refl _))
    clear hb3
    go_wp2
    go_ret
    exact ⟨rfl, HB3.out⟩
  have HSM := Lib.hid hsm
  clear hsm
  go_wp2_with fail
  refine (smallC M _ _ HL2b.out).mono ?_
  rintro _ w3 ⟨rfl, hb3⟩
  have HB3 := Lib.hid (nxt HB2.out hb3 (Nat.le_refl _))
  clear hb3
  cases hsm : smalls M
  · clear hsm
    go_wp2_with fail
    refine (answersC I _).mono ?_
    rintro _ w4 ⟨rfl, hb4⟩
    have HB4 := Lib.hid (nxt HB3.out hb4 (Nat.le_refl _))
    clear hb4
    go_wp2
    go_ret
    exact ⟨rfl, HB4.out⟩
  have HSM2 := Lib.hid hsm
  clear hsm
  go_wp2_with fail
  refine (MineT.new I _ HB3.out 3 2 (.inl ⟨rfl, rfl⟩)).mono ?_
  rintro _ w4 ⟨p, rfl, hm4⟩
  have HM4 := Lib.hid (show MineT PD W w4 p (Tb.empty 3 5) from hm4)
  clear hm4
  go_wp2_with fail
  refine (MineT.new I w4 (Below.refl _ _) 3 2 (.inl ⟨rfl, rfl⟩)).mono ?_
  rintro _ w5 ⟨q, rfl, hm5⟩
  have HM5 := Lib.hid (show TriT PD W _ p q w5.heap.size (Tb.runT 3 5 L 0) (Tb.runT 3 5 M 0) (Tb.runT 3 5 L 0) Nought from TriT.start I HM4.out (show MineT PD w4 w5 q (Tb.empty 3 5) from hm5))
  clear hm5
  go_wp2_with fail
  obtain ⟨r, hr⟩ : ∃ r, w5.heap.size = r := ⟨_, rfl⟩
  rw [hr] at HM5 ⊢
  clear hr
  go_loopw [8] (fun c wr => ∃ i : Nat, i ≤ N ∧ c = .int .i64 i ∧ TriT PD W wr p q r (Tb.runT 3 5 L i) (Tb.runT 3 5 M 0) (Tb.runT 3 5 L i) Nought) (fun c _ => N - (intOf c).toNat)
  case atStart => exact ⟨0, Nat.zero_le _, rfl, HM5.out⟩
  case round =>
    obtain ⟨i, hi, rfl, hm⟩ := hrel
    have HM := Lib.hid hm
    by_cases hlt : i < N
    · have hil : i < L.length := by rw [HN.out]; exact hlt
      obtain ⟨b, o, As, Ao, Ad, Cs, Co, Cd, rfl, c0, c1, c2, c3, c4, c5, c6, hr⟩ := HL.out.val hil
      have HW := Lib.hid (show ∀ w', Below W.heap.size W w' → w'.cell? ⟨b, o + i * 7, none⟩ = some (.int .i64 L[i].kind) ∧ w'.cell? ⟨b, o + i * 7 + 1, none⟩ = some (.int .i64 L[i].id) ∧ w'.cell? ⟨b, o + i * 7 + 2, none⟩ = some (.int .i64 L[i].size) ∧ w'.cell? ⟨b, o + i * 7 + 3, none⟩ = some (.string L[i].key) ∧
          w'.cell? ⟨b, o + i * 7 + 4, none⟩ = some (.slice As L[i].stripes.length Cs) ∧ w'.cell? ⟨b, o + i * 7 + 5, none⟩ = some (.slice Ao L[i].objects.length Co) ∧ w'.cell? ⟨b, o + i * 7 + 6, none⟩ = some (.slice Ad L[i].drives.length Cd) from
        fun w' q => ⟨below_cell q _ _ c0, below_cell q _ _ c1, below_cell q _ _ c2, below_cell q _ _ c3, below_cell q _ _ c4, below_cell q _ _ c5, below_cell q _ _ c6⟩)
      have hfit := fit_small (small_at HSM.out hil)
      have hrun := Tb.run_ok 5 (show (1 : Int) ≤ 3 by decide) (L := L) (i := i) (by rw [HN.out]; omega)
      have hfew := few_run (k := 3) (n := 5) HSM.out (i := i) (by omega)
      have hsucc := Tb.run_succ (k := 3) (n := 5) hil
      have hap := hm.applyT I hfew L[i] _ hr hfit
      have HAR := Lib.hid (show ∀ w', TriT PD W w' p q r (Tb.stepT (Tb.runT 3 5 L i) L[i]) (Tb.runT 3 5 M 0) (Tb.runT 3 5 L i) Nought → _ from fun w' q => q.applyR I hrun.1 hfew L[i] _ hr hfit)
      have HNX := Lib.hid (show ∀ w', TriT PD W w' p q r (Tb.stepT (Tb.runT 3 5 L i) L[i]) (Tb.runT 3 5 M 0) (Tb.stepT (Tb.runT 3 5 L i) L[i]) Nought → TriT PD W w' p q r (Tb.runT 3 5 L (i + 1)) (Tb.runT 3 5 M 0) (Tb.runT 3 5 L (i + 1)) Nought from fun w' q => by rw [hsucc]; exact q)
      obtain ⟨x, hx⟩ : ∃ x, L[i] = x := ⟨_, rfl⟩
      rw [hx] at HW hap HAR HNX
      obtain ⟨t0, ht0⟩ : ∃ t0, Tb.runT 3 5 L i = t0 := ⟨_, rfl⟩
      rw [ht0] at hap HAR HNX
      unfold recVal at hap HAR
      obtain ⟨d0, d1, d2, d3, d4, d5, d6⟩ := HW.out _ hm.bel
      have q1 : (0 : Int) ≤ (i : Int) := by omega
      have q2 : (i : Int) < (N : Int) := by omega
      obtain ⟨ee, hee⟩ : ∃ ee : Int, (if (Tb.apply t0 x).isSome = true then 0 else 2) = ee := ⟨_, rfl⟩
      rw [hee] at hap
      obtain ⟨bb, hbb⟩ : ∃ bb, (Tb.apply t0 x).isSome = bb := ⟨_, rfl⟩
      rw [hbb] at HAR
      have HAP := Lib.hid hap
      clear hap hx hil hr hm hfit hrun hfew hsucc ht0 c0 c1 c2 c3 c4 c5 c6 hee hbb
      go_wp2_with fail
      refine HAP.out.mono ?_
      rintro _ w6 ⟨rfl, hm6⟩
      have HM6 := Lib.hid hm6
      clear d0 d1 d2 d3 d4 d5 d6
      obtain ⟨d0, d1, d2, d3, d4, d5, d6⟩ := HW.out _ hm6.bel
      clear hm6
      go_wp2_with fail
      refine (HAR.out _ HM6.out).mono ?_
      rintro _ w7 ⟨rfl, hm7⟩
      have HM7 := Lib.hid (HNX.out _ hm7)
      clear hm7 d0 d1 d2 d3 d4 d5 d6
      go_wp2_with fail
      go_roundw
      case rel => exact ⟨i + 1, by omega, by go_num, HM7.out⟩
      case measure => simp [intOf]; omega
    · obtain rfl : i = N := by omega
      clear hlt hi HM5 hm
      go_wp2_with fail
      go_loopw [9] (fun c wr => ∃ j : Nat, j ≤ N2 ∧ c = .int .i64 j ∧ TriT PD W wr p q r (Tb.runT 3 5 L i) (Tb.runT 3 5 M j) (Tb.runT 3 5 L i) Nought) (fun c _ => N2 - (intOf c).toNat)
      case atStart => exact ⟨0, Nat.zero_le _, rfl, HM.out⟩
      case round =>
        obtain ⟨j, hj, rfl, hm⟩ := hrel
        have HM := Lib.hid hm
        by_cases hlt : j < N2
        · have hil : j < M.length := by rw [HN2.out]; exact hlt
          obtain ⟨b, o, As, Ao, Ad, Cs, Co, Cd, rfl, c0, c1, c2, c3, c4, c5, c6, hr⟩ := HL2.out.val hil
          have d0 := below_cell hm.bel _ _ c0
          have d1 := below_cell hm.bel _ _ c1
          have d2 := below_cell hm.bel _ _ c2
          have d3 := below_cell hm.bel _ _ c3
          have d4 := below_cell hm.bel _ _ c4
          have d5 := below_cell hm.bel _ _ c5
          have d6 := below_cell hm.bel _ _ c6
          have hfit := fit_small (small_at HSM2.out hil)
          have hfew := few_run (k := 3) (n := 5) HSM2.out (i := j) (by omega)
          have hsucc := Tb.run_succ (k := 3) (n := 5) hil
          have hap := hm.applyU I hfew M[j] _ hr hfit
          rw [← hsucc] at hap
          obtain ⟨x, hx⟩ : ∃ x, M[j] = x := ⟨_, rfl⟩
          rw [hx] at d0 d1 d2 d3 d4 d5 d6 hap
          unfold recVal at hap
          have q1 : (0 : Int) ≤ (j : Int) := by omega
          have q2 : (j : Int) < (N2 : Int) := by omega
          obtain ⟨ee, hee⟩ : ∃ ee : Int, (if (Tb.apply (Tb.runT 3 5 M j) x).isSome = true then 0 else 2) = ee := ⟨_, rfl⟩
          rw [hee] at hap
          have HAP := Lib.hid hap
          clear hap hx hil hr hm hfit hfew hsucc c0 c1 c2 c3 c4 c5 c6 hee
          go_wp2_with fail
          refine HAP.out.mono ?_
          rintro _ w6 ⟨rfl, hm6⟩
          have HM6 := Lib.hid hm6
          clear d0 d1 d2 d3 d4 d5 d6 hm6
          go_wp2_with fail
          go_roundw
          case rel => exact ⟨j + 1, by omega, by go_num, HM6.out⟩
          case measure => simp [intOf]; omega
        · obtain rfl : j = N2 := by omega
          have hrun := Tb.run_ok 5 (show (1 : Int) ≤ 3 by decide) (L := L) (i := i) (by rw [HN.out]; omega)
          have hrun2 := Tb.run_ok 5 (show (1 : Int) ≤ 3 by decide) (L := M) (i := j) (by rw [HN2.out]; omega)
          have HFW := Lib.hid (few_run (k := 3) (n := 5) HSM.out (i := i) (by rw [HN.out]; omega))
          have HFW2 := Lib.hid (few_run (k := 3) (n := 5) HSM2.out (i := j) (by rw [HN2.out]; omega))
          have HFA := Lib.hid (fit_all HSM.out (i := i) (by rw [HN.out]; omega))
          have HK := Lib.hid (hrun2.2.1.trans hrun.2.1.symm)
          have HNN := Lib.hid (hrun2.2.2.trans hrun.2.2.symm)
          have HOK := Lib.hid hrun.1
          obtain ⟨t0, ht0⟩ : ∃ t0, Tb.runT 3 5 L i = t0 := ⟨_, rfl⟩
          obtain ⟨u0, hu0⟩ : ∃ u0, Tb.runT 3 5 M j = u0 := ⟨_, rfl⟩
          rw [ht0] at hm HFW HFA HK HNN HOK
          rw [hu0] at hm HFW2 HK HNN
          have HMM := Lib.hid hm
          clear hm HM ht0 hu0 hrun hrun2 hlt hj
          go_wp2_with fail
          refine (answersC I _).mono ?_
          rintro _ w8 ⟨rfl, hb8⟩
          have HM8 := Lib.hid (HMM.out.below I hb8)
          clear hb8
          go_wp2_with fail
          refine (TriT.all I HM8.out HFW.out).mono ?_
          rintro _ w9 ⟨As, Ao, Ad, Cs, Co, Cd, rfl, hm9⟩
          have HM9 := Lib.hid hm9
          clear hm9
          have HAP := Lib.hid (TriT.leads I HM9.out HFW2.out HOK.out HK.out HNN.out HFA.out)
          unfold recVal at HAP ⊢
          go_wp2_with fail
          refine HAP.out.mono ?_
          rintro _ w10 ⟨rfl, hm10⟩
          have HM10 := Lib.hid hm10
          clear hm10
          go_wp2_with fail
          refine (BothT.sameC I HM10.out HFW.out).mono ?_
          rintro _ w11 ⟨rfl, hm11⟩
          have HB11 := Lib.hid hm11.bel
          clear hm11
          go_wp2
          go_ret
          exact ⟨rfl, HB11.out⟩
end Go.Proofs.Ytlgdchflegflkaa.Tbl
namespace Tb
open Go Go.Mem Kl
/-- is the key there, among the first i? -/
def hasTo (L : List ObjD) (k : List UInt8) (i : Nat) : Bool := (L.take i).any fun x => decide (keyOf x = k)
theorem hasTo_zero (L : List ObjD) (k : List UInt8) : hasTo L k 0 = false := rfl
theorem hasTo_succ {L : List ObjD} {k : List UInt8} {i : Nat} (hi : i < L.length) : hasTo L k (i + 1) = (hasTo L k i || decide (keyOf L[i] = k)) := by
  unfold hasTo
  rw [List.take_succ_eq_append_getElem hi, List.any_append]
  simp
theorem hasTo_all {L : List ObjD} {k : List UInt8} {n : Nat} (h : L.length = n) : hasTo L k n = (find keyOf k L).isSome := by
  unfold hasTo find
  rw [List.take_of_length_le (by omega), Bool.eq_iff_iff, List.any_eq_true, List.find?_isSome]
end Tb
namespace Go.Proofs.Ytlgdchflegflkaa.Tbl
set_option linter.unusedVariables false
open Go.ChangeShapes Go.WideShapes Go.ChangeAt Go.RowKit
open Go.Mem RecM
set_option maxRecDepth 100000 in
set_option maxHeartbeats 16000000 in
theorem TableFindsC {PD : Thing} (I : TbI PD) (L : List RecD) (v : Value) (key : ByteArray) (id : Int) (hid : I64 id) (W : World) (hL : Recs W v L) :
    Calls Try.prog 5 #[v, .string key, .int .i64 id] W fun e w' => e = .returned (.bool true) ∧ Below W.heap.size W w' := by
  obtain ⟨AL, CL, rfl, g1, g2, -⟩ := Cells.shape hL
  have HL := Lib.hid hL
  have HID := Lib.hid hid
  obtain ⟨N, hN⟩ : ∃ N, L.length = N := ⟨_, rfl⟩
  have HN := Lib.hid hN
  rw [hN] at g1 HL ⊢
  clear hL hN hid
  go_enter Try.func5, Try.ntmps5
  go_wp2_with fail
  refine (smallC L _ _ HL.out).mono ?_
  rintro _ w2 ⟨rfl, hb2⟩
  have HB2 := Lib.hid hb2
  clear hb2
  cases hsm : smalls L
  · clear hsm
    go_wp2_with fail
    refine (answersC I _).mono ?_
    rintro _ w3 ⟨rfl, hb3⟩
    have HB3 := Lib.hid (nxt HB2.out hb3 (Nat.le_refl _))
    clear hb3
    go_wp2
    go_ret
    exact ⟨rfl, HB3.out⟩
  have HSM := Lib.hid hsm
  clear hsm
  go_wp2_with fail
  refine (MineT.new I _ HB2.out 3 2 (.inl ⟨rfl, rfl⟩)).mono ?_
  rintro _ w3 ⟨p, rfl, hm3⟩
  have hbo := BothT.start I (show MineT PD W w3 p (Tb.empty 3 5) from hm3)
  have HM3 := Lib.hid (show BothT PD W _ p w3.heap.size (Tb.runT 3 5 L 0) (Tb.runT 3 5 L 0) from hbo)
  clear hm3 hbo
  go_wp2_with fail
  obtain ⟨r, hr⟩ : ∃ r, w3.heap.size = r := ⟨_, rfl⟩
  rw [hr] at HM3 ⊢
  clear hr
  go_loopw [9] (fun c wr => ∃ i : Nat, i ≤ N ∧ c = .int .i64 i ∧ BothT PD W wr p r (Tb.runT 3 5 L i) (Tb.runT 3 5 L i)) (fun c _ => N - (intOf c).toNat)
  case atStart => exact ⟨0, Nat.zero_le _, rfl, HM3.out⟩
  case round =>
    obtain ⟨i, hi, rfl, hm⟩ := hrel
    have HM := Lib.hid hm
    by_cases hlt : i < N
    · have hil : i < L.length := by rw [HN.out]; exact hlt
      obtain ⟨b, o, As, Ao, Ad, Cs, Co, Cd, rfl, c0, c1, c2, c3, c4, c5, c6, hr⟩ := HL.out.val hil
      have HW := Lib.hid (show ∀ w', Below W.heap.size W w' → w'.cell? ⟨b, o + i * 7, none⟩ = some (.int .i64 L[i].kind) ∧ w'.cell? ⟨b, o + i * 7 + 1, none⟩ = some (.int .i64 L[i].id) ∧ w'.cell? ⟨b, o + i * 7 + 2, none⟩ = some (.int .i64 L[i].size) ∧ w'.cell? ⟨b, o + i * 7 + 3, none⟩ = some (.string L[i].key) ∧
          w'.cell? ⟨b, o + i * 7 + 4, none⟩ = some (.slice As L[i].stripes.length Cs) ∧ w'.cell? ⟨b, o + i * 7 + 5, none⟩ = some (.slice Ao L[i].objects.length Co) ∧ w'.cell? ⟨b, o + i * 7 + 6, none⟩ = some (.slice Ad L[i].drives.length Cd) from
        fun w' q => ⟨below_cell q _ _ c0, below_cell q _ _ c1, below_cell q _ _ c2, below_cell q _ _ c3, below_cell q _ _ c4, below_cell q _ _ c5, below_cell q _ _ c6⟩)
      have hfit := fit_small (small_at HSM.out hil)
      have hrun := Tb.run_ok 5 (show (1 : Int) ≤ 3 by decide) (L := L) (i := i) (by rw [HN.out]; omega)
      have hfew := few_run (k := 3) (n := 5) HSM.out (i := i) (by omega)
      have hsucc := Tb.run_succ (k := 3) (n := 5) hil
      have hap := hm.applyT I hfew L[i] _ hr hfit
      have HAR := Lib.hid (show ∀ w', BothT PD W w' p r (Tb.stepT (Tb.runT 3 5 L i) L[i]) (Tb.runT 3 5 L i) → _ from fun w' q => q.applyR I hrun.1 hfew L[i] _ hr hfit)
      have HNX := Lib.hid (show ∀ w', BothT PD W w' p r (Tb.stepT (Tb.runT 3 5 L i) L[i]) (Tb.stepT (Tb.runT 3 5 L i) L[i]) → BothT PD W w' p r (Tb.runT 3 5 L (i + 1)) (Tb.runT 3 5 L (i + 1)) from fun w' q => by rw [hsucc]; exact q)
      obtain ⟨x, hx⟩ : ∃ x, L[i] = x := ⟨_, rfl⟩
      rw [hx] at HW hap HAR HNX
      obtain ⟨t0, ht0⟩ : ∃ t0, Tb.runT 3 5 L i = t0 := ⟨_, rfl⟩
      rw [ht0] at hap HAR HNX
      unfold recVal at hap HAR
      obtain ⟨d0, d1, d2, d3, d4, d5, d6⟩ := HW.out _ hm.bel
      have q1 : (0 : Int) ≤ (i : Int) := by omega
      have q2 : (i : Int) < (N : Int) := by omega
      obtain ⟨ee, hee⟩ : ∃ ee : Int, (if (Tb.apply t0 x).isSome = true then 0 else 2) = ee := ⟨_, rfl⟩
      rw [hee] at hap
      obtain ⟨bb, hbb⟩ : ∃ bb, (Tb.apply t0 x).isSome = bb := ⟨_, rfl⟩
      rw [hbb] at HAR
      have HAP := Lib.hid hap
      clear hap hx hil hr hm hfit hrun hfew hsucc ht0 c0 c1 c2 c3 c4 c5 c6 hee hbb
      go_wp2_with fail
      refine HAP.out.mono ?_
      rintro _ w6 ⟨rfl, hm6⟩
      have HM6 := Lib.hid hm6
      clear d0 d1 d2 d3 d4 d5 d6
      obtain ⟨d0, d1, d2, d3, d4, d5, d6⟩ := HW.out _ hm6.bel
      clear hm6
      go_wp2_with fail
      refine (HAR.out _ HM6.out).mono ?_
      rintro _ w7 ⟨rfl, hm7⟩
      have HM7 := Lib.hid (HNX.out _ hm7)
      clear hm7 d0 d1 d2 d3 d4 d5 d6
      go_wp2_with fail
      go_roundw
      case rel => exact ⟨i + 1, by omega, by go_num, HM7.out⟩
      case measure => simp [intOf]; omega
    · obtain rfl : i = N := by omega
      have HOK := Lib.hid (Tb.run_ok 5 (show (1 : Int) ≤ 3 by decide) (L := L) (i := i) (by rw [HN.out]; omega)).1
      have HF := Lib.hid (few_run (k := 3) (n := 5) HSM.out (i := i) (by rw [HN.out]; omega))
      obtain ⟨t0, ht0⟩ : ∃ t0, Tb.runT 3 5 L i = t0 := ⟨_, rfl⟩
      rw [ht0] at HM HOK HF
      obtain ⟨N0, hN0⟩ : ∃ x, t0.objs.length = x := ⟨_, rfl⟩
      have HN0 := Lib.hid hN0
      have hfew0 : N0 ≤ 1000 := by rw [← hN0]; exact HF.out
      have HALL := Lib.hid (Tb.hasTo_all (k := key.toList) hN0)
      clear hlt hi HM3 hm ht0 hN0
      go_wp2_with fail
      refine (MineT.stripeC I HM.out.mine HF.out id HID.out).mono ?_
      rintro _ w4 ⟨V4, rfl, hv4, hb4⟩
      obtain ⟨s, hs⟩ : ∃ s, (Tb.stripe t0 id).getD noStp = s := ⟨_, rfl⟩
      obtain ⟨yes, hyes⟩ : ∃ s, (Tb.stripe t0 id).isSome = s := ⟨_, rfl⟩
      have HS := Lib.hid hs
      have HYES := Lib.hid hyes
      rw [hs] at hv4
      rw [hyes]
      obtain ⟨A4, C4, rfl, hi4, j0, j1, j2⟩ := hv4
      obtain ⟨M, hM⟩ : ∃ x, s.locs.length = x := ⟨_, rfl⟩
      have HMM := Lib.hid hM
      rw [hM] at hi4 ⊢
      have HI4 := Lib.hid hi4
      have HJ := Lib.hid (show I64 s.id ∧ I64 s.ep ∧ LenOk s.locs.length from ⟨j0, j1, j2⟩)
      have HM4 := Lib.hid (HM.out.below I hb4)
      clear hb4 hi4 hs hyes j0 j1 j2 hM
      go_upto_region 11 with (fail)
      obtain ⟨wa, hwa⟩ : ∃ wa, w4.alloc (.cells #[.int .i64 s.id, .int .i64 s.ep, .slice A4 M C4] TStp) = wa := ⟨_, rfl⟩
      have hba : Below w4.heap.size w4 wa := by rw [← hwa]; exact (Below.refl _ _).alloc (Nat.le_refl _) _
      have hrowa : wa.rowIs w4.heap.size TStp 3 (fun j => #[Value.int .i64 s.id, .int .i64 s.ep, .slice A4 M C4].getD j undef) := by rw [← hwa]; exact row_of _ _ _
      obtain ⟨ga, hga⟩ : ∃ g, w4.heap.size = g := ⟨_, rfl⟩
      rw [hga] at hrowa
      rw [hga]
      rw [hwa]
      have HMa := Lib.hid (HM4.out.below I hba)
      have HIa := Lib.hid (HI4.out.below hba)
      have HRa := Lib.hid hrowa
      clear hba hrowa hga hwa
      go_wp2_with fail
      obtain ⟨G, hrt⟩ := HMa.out.rt
      refine (refStripeC hrt HOK.out id HID.out).mono ?_
      rintro _ w5 ⟨V5, rfl, hv5, hb5⟩
      rw [HS.out] at hv5
      rw [HYES.out]
      obtain ⟨A5, C5, rfl, hi5, -, -, -⟩ := hv5
      rw [HMM.out] at hi5 ⊢
      have HI5 := Lib.hid hi5
      have HM5 := Lib.hid (HMa.out.below I hb5)
      have HRa5 := Lib.hid (HRa.out.of_block (hb5.block ga HRa.out.lt))
      have HIa5 := Lib.hid (HIa.out.below hb5)
      have hgalt := Nat.lt_of_lt_of_le HRa.out.lt hb5.size
      clear hb5 hi5 hrt
      go_upto_region 12 with (fail)
      obtain ⟨wc, hwc⟩ : ∃ wc, w5.alloc (.cells #[.int .i64 s.id, .int .i64 s.ep, .slice A5 M C5] TStp) = wc := ⟨_, rfl⟩
      have hbc : Below w5.heap.size w5 wc := by rw [← hwc]; exact (Below.refl _ _).alloc (Nat.le_refl _) _
      have hrowc : wc.rowIs w5.heap.size TStp 3 (fun j => #[Value.int .i64 s.id, .int .i64 s.ep, .slice A5 M C5].getD j undef) := by rw [← hwc]; exact row_of _ _ _
      obtain ⟨gc, hgc⟩ : ∃ g, w5.heap.size = g := ⟨_, rfl⟩
      rw [hgc] at hrowc
      rw [hgc]
      rw [hwc]
      have HMc := Lib.hid (HM5.out.below I hbc)
      have HIc := Lib.hid (HI5.out.below hbc)
      have HRac := Lib.hid (HRa5.out.of_block (hbc.block ga hgalt))
      have HIac := Lib.hid (HIa5.out.below hbc)
      have HRc := Lib.hid hrowc
      clear hbc hrowc hgc hwc hgalt
      go_wp2_with fail
      refine (MineT.objectC I HMc.out.mine HF.out key).mono ?_
      rintro _ w6 ⟨V6, o6, rfl, hv6, ho6, hb6⟩
      obtain ⟨there, hthere⟩ : ∃ s, (Kl.find Tb.keyOf key.toList t0.objs).isSome = s := ⟨_, rfl⟩
      rw [hthere] at HALL ⊢
      obtain ⟨A6, C6, rfl, hs6, k0, k1, k2, k3⟩ := hv6
      obtain ⟨M6, hM6⟩ : ∃ x, o6.stripes.length = x := ⟨_, rfl⟩
      have HMM6 := Lib.hid hM6
      rw [hM6] at hs6 ⊢
      have HS6 := Lib.hid hs6
      have HO6 := Lib.hid ho6
      have HK6 := Lib.hid (show I64 o6.id ∧ I64 o6.size ∧ KeyOk o6.key ∧ LenOk o6.stripes.length from ⟨k0, k1, k2, k3⟩)
      have HM6 := Lib.hid (HMc.out.below I hb6)
      have HRa6 := Lib.hid (HRac.out.of_block (hb6.block ga HRac.out.lt))
      have HRc6 := Lib.hid (HRc.out.of_block (hb6.block gc HRc.out.lt))
      have HIa6 := Lib.hid (HIac.out.below hb6)
      have HIc6 := Lib.hid (HIc.out.below hb6)
      have hl1 := Nat.lt_of_lt_of_le HRac.out.lt hb6.size
      have hl2 := Nat.lt_of_lt_of_le HRc.out.lt hb6.size
      clear hb6 hs6 hM6 ho6 k0 k1 k2 k3 hthere
      go_upto_region 13 with (fail)
      obtain ⟨wd, hwd⟩ : ∃ wd, w6.alloc (.cells #[.string o6.key, .int .i64 o6.id, .int .i64 o6.size, .slice A6 M6 C6] TObj) = wd := ⟨_, rfl⟩
      have hbd : Below w6.heap.size w6 wd := by rw [← hwd]; exact (Below.refl _ _).alloc (Nat.le_refl _) _
      have hrowd : wd.rowIs w6.heap.size TObj 4 (fun j => #[Value.string o6.key, .int .i64 o6.id, .int .i64 o6.size, .slice A6 M6 C6].getD j undef) := by rw [← hwd]; exact row_of _ _ _
      obtain ⟨gd, hgd⟩ : ∃ g, w6.heap.size = g := ⟨_, rfl⟩
      rw [hgd] at hrowd
      rw [hgd]
      rw [hwd]
      have HMd := Lib.hid (HM6.out.below I hbd)
      have HRad := Lib.hid (HRa6.out.of_block (hbd.block ga hl1))
      have HRcd := Lib.hid (HRc6.out.of_block (hbd.block gc hl2))
      have HRd := Lib.hid hrowd
      have HIad := Lib.hid (HIa6.out.below hbd)
      have HIcd := Lib.hid (HIc6.out.below hbd)
      have HSd := Lib.hid (HS6.out.below hbd)
      have HALLW := Lib.hid (show ∀ w', Below wd.heap.size wd w' → w'.cell? ⟨ga, 0, none⟩ = some (.int .i64 s.id) ∧ w'.cell? ⟨ga, 1, none⟩ = some (.int .i64 s.ep) ∧ w'.cell? ⟨ga, 2, none⟩ = some (.slice A4 M C4) ∧ w'.cell? ⟨gc, 0, none⟩ = some (.int .i64 s.id) ∧ w'.cell? ⟨gc, 1, none⟩ = some (.int .i64 s.ep) ∧ w'.cell? ⟨gc, 2, none⟩ = some (.slice A5 M C5) ∧
          w'.cell? ⟨gd, 0, none⟩ = some (.string o6.key) ∧ w'.cell? ⟨gd, 1, none⟩ = some (.int .i64 o6.id) ∧ w'.cell? ⟨gd, 2, none⟩ = some (.int .i64 o6.size) ∧ w'.cell? ⟨gd, 3, none⟩ = some (.slice A6 M6 C6) from
        fun w' q => ⟨below_cell q _ _ (HRad.out.cell (i := 0) (by omega)), below_cell q _ _ (HRad.out.cell (i := 1) (by omega)), below_cell q _ _ (HRad.out.cell (i := 2) (by omega)), below_cell q _ _ (HRcd.out.cell (i := 0) (by omega)), below_cell q _ _ (HRcd.out.cell (i := 1) (by omega)), below_cell q _ _ (HRcd.out.cell (i := 2) (by omega)),
          below_cell q _ _ (HRd.out.cell (i := 0) (by omega)), below_cell q _ _ (HRd.out.cell (i := 1) (by omega)), below_cell q _ _ (HRd.out.cell (i := 2) (by omega)), below_cell q _ _ (HRd.out.cell (i := 3) (by omega))⟩)
      have HB0 := Lib.hid (Below.refl wd.heap.size wd)
      clear hbd hrowd hgd hwd hl1 hl2
      go_wp2_with fail
      go_loopw [16, 17] (fun d c wr => ∃ j : Nat, j ≤ N0 ∧ c = .int .i64 j ∧ d = .bool (Tb.hasTo t0.objs key.toList j) ∧ Below wd.heap.size wd wr) (fun _ c _ => N0 - (intOf c).toNat)
      case atStart => exact ⟨0, Nat.zero_le _, rfl, rfl, HB0.out⟩
      case round =>
        obtain ⟨j, hj, rfl, rfl, hb⟩ := hrel
        have HB := Lib.hid hb
        obtain ⟨G, K, VO, S, hrt⟩ := (HMd.out.below I hb).rt
        obtain ⟨AV, CV, rfl, gV1, gV2, -⟩ := hrt.objs.len
        have d2 : wr.cell? ⟨r, 2, none⟩ = some (.slice AV t0.objs.length CV) := hrt.cell (i := 2) (by omega)
        rw [HN0.out] at d2 gV1
        by_cases hlt : j < N0
        · have hjl : j < t0.objs.length := by rw [HN0.out]; exact hlt
          obtain ⟨gV, A', C', rfl, v0, -, -, -, -⟩ := BuiltX.val hrt.objs hjl
          have HSU := Lib.hid (Tb.hasTo_succ (k := key.toList) hjl)
          have hone := Objs.one (show Objs wr _ _ from hrt.objs.cells) hjl (by omega) gV2
          have HFO := Lib.hid (show t0.objs[j].key.toList = key.toList → o6 = t0.objs[j] from fun e => HO6.out _ (by rw [← e]; exact Tb.find_obj HOK.out.all.2.1 hjl))
          have HKO := Lib.hid (show Tb.keyOf t0.objs[j] = t0.objs[j].key.toList from rfl)
          obtain ⟨x, hx⟩ : ∃ x, t0.objs[j] = x := ⟨_, rfl⟩
          rw [hx] at v0 HSU hone HFO HKO
          have HONE := Lib.hid hone
          have q1 : (0 : Int) ≤ (j : Int) := by omega
          have q2 : (j : Int) < (N0 : Int) := by omega
          clear hx hjl hone hrt
          by_cases hk : x.key.toList = key.toList
          · have hox := HFO.out hk
            subst hox
            have HE := Lib.hid (show Tb.hasTo t0.objs key.toList (j + 1) = true from by rw [HSU.out, HKO.out, decide_eq_true hk, Bool.or_true])
            have f1 : (o6.key.toList == key.toList) = true := by rw [hk]; simp
            obtain ⟨-, -, -, -, -, -, p0, p1, p2, p3⟩ := HALLW.out _ hb
            clear hk HSU HFO hb
            go_wp2_with fail
            have hd0 : Below wr.heap.size wr wr.drew := Go.Mem.below_drewN _ wr 1
            have hdal : Below wr.drew.heap.size wr.drew (wr.drew.alloc (.cells #[.string o6.key, .int .i64 o6.id, .int .i64 o6.size, .slice A6 M6 C6] TObj)) := (Below.refl _ _).alloc (Nat.le_refl _) _
            have hd1 : Below wr.heap.size wr (wr.alloc (.cells #[.string o6.key, .int .i64 o6.id, .int .i64 o6.size, .slice A6 M6 C6] 46)).drew := hd0.trans (hdal.mono hd0.size)
            have HC := Lib.hid (show ∀ w', Below wr.heap.size wr w' → w'.cell? ⟨r, 2, none⟩ = some (.slice (some ⟨gV, 0, none⟩) N0 CV) ∧ w'.cell? ⟨gd, 0, none⟩ = some (.string o6.key) ∧ w'.cell? ⟨gd, 1, none⟩ = some (.int .i64 o6.id) ∧ w'.cell? ⟨gd, 2, none⟩ = some (.int .i64 o6.size) ∧ w'.cell? ⟨gd, 3, none⟩ = some (.slice A6 M6 C6) from
              fun w' q => ⟨below_cell q _ _ d2, below_cell q _ _ p0, below_cell q _ _ p1, below_cell q _ _ p2, below_cell q _ _ p3⟩)
            have hst : Stps (wr.drew.alloc (.cells #[.string o6.key, .int .i64 o6.id, .int .i64 o6.size, .slice A6 M6 C6] TObj)) (.slice A6 o6.stripes.length C6) o6.stripes := by
              rw [HMM6.out]
              exact ((HSd.out.below HB.out).below hd1)
            have hal := obj_alone (w := wr.drew) (w' := wr.drew.alloc (.cells #[.string o6.key, .int .i64 o6.id, .int .i64 o6.size, .slice A6 M6 C6] TObj)) (T := TObj) (o := o6) (A := A6) (C := C6) (by rw [HMM6.out]; exact Below.refl _ _) hst HK6.out.1 HK6.out.2.1 HK6.out.2.2.1 HK6.out.2.2.2
            have hcall := Rec.objectsC [o6] [o6] _ _ _ hal (Objs.below HONE.out hd1)
            rw [Rec.eqB_yes rfl, Nat.zero_add] at hcall
            have HCALL := Lib.hid (show Calls Try.prog 19 #[.slice (some ⟨wr.heap.size, 0, none⟩) 1 1, .slice (some ⟨gV, j * 4, none⟩) 1 (CV - j)] (wr.alloc (.cells #[.string o6.key, .int .i64 o6.id, .int .i64 o6.size, .slice A6 M6 C6] 46)).drew fun e w' => e = .returned (.bool true) ∧ ∃ n, w' = (wr.alloc (.cells #[.string o6.key, .int .i64 o6.id, .int .i64 o6.size, .slice A6 M6 C6] 46)).drew.drewN n from hcall)
            have hnc : ¬ CV = j := by omega
            have q3 : IntKind.i64.wrap ((j : Int) + 1) = (j : Int) + 1 := IntWalk.i64_in _ (by omega)
            have q4 : (0 : Int) ≤ (j : Int) + 1 := by omega
            have q5 : ((j : Int) + 1).toNat = j + 1 := by omega
            have q6 : (j : Int) + 1 ≤ (CV : Int) := by omega
            clear hdal hst hal hcall p0 p1 p2 p3 d2 v0 f1
            go_region_held3 (fun w' => w'.cell? ⟨r, 2, none⟩ = some (.slice (some ⟨gV, 0, none⟩) N0 CV) ∧ w'.cell? ⟨gd, 0, none⟩ = some (.string o6.key) ∧ w'.cell? ⟨gd, 1, none⟩ = some (.int .i64 o6.id) ∧ w'.cell? ⟨gd, 2, none⟩ = some (.int .i64 o6.size) ∧ w'.cell? ⟨gd, 3, none⟩ = some (.slice A6 M6 C6))
              (first | with_reducible exact HC.out _ hd2 | with_reducible exact HC.out _ hd1 | with_reducible exact HC.out _ hd0)
              ((go_at_call 19; (with_reducible refine HCALL.out.mono ?_); rintro _ w8 ⟨rfl, n8, hw8⟩; have hd2 : Below wr.heap.size wr w8 := (by rw [hw8]; exact hd1.trans (Go.Mem.below_drewN _ _ _)); clear hw8))
            all_goals
              have HB8 := Lib.hid (HB.out.trans (hd2.mono HB.out.size))
              clear hd0 hd1 hd2 q3 q4 q5 q6 hnc
              go_wp2_with fail
              go_roundw
              case rel => exact ⟨j + 1, by omega, by go_num, by rw [HE.out], HB8.out⟩
              case measure => simp [intOf]; omega
          · have HE := Lib.hid (show Tb.hasTo t0.objs key.toList (j + 1) = Tb.hasTo t0.objs key.toList j from by rw [HSU.out, HKO.out, decide_eq_false hk, Bool.or_false])
            have f1 : (x.key.toList == key.toList) = false := beq_eq_false_iff_ne.2 hk
            clear hk HSU HFO hb
            go_wp2_with fail
            go_roundw
            case rel => exact ⟨j + 1, by omega, by go_num, by rw [HE.out], HB.out⟩
            case measure => simp [intOf]; omega
        · obtain rfl : j = N0 := by omega
          rw [HALL.out]
          have HMe := Lib.hid (HMd.out.below I hb)
          clear hlt hj hb hrt
          go_wp2_with fail
          refine (answersC I _).mono ?_
          rintro _ w8 ⟨rfl, hb8⟩
          have hbd8 : Below wd.heap.size wd w8 := HB.out.trans (hb8.mono HB.out.size)
          obtain ⟨u0, u1, u2, v0, v1, v2, -⟩ := HALLW.out _ hbd8
          have HI1 := Lib.hid (HIad.out.below hbd8)
          have HI2 := Lib.hid (HIcd.out.below hbd8)
          have HBe := Lib.hid (HMe.out.bel.trans (hb8.mono HMe.out.bel.size))
          clear hb8 hbd8
          have ha1 : Below w8.heap.size w8 (w8.alloc (.cells #[.int .i64 s.id, .int .i64 s.ep, .slice A4 M C4] TStp)) := (Below.refl _ _).alloc (Nat.le_refl _) _
          have ha2 : Below (w8.heap.size + 1) (w8.alloc (.cells #[.int .i64 s.id, .int .i64 s.ep, .slice A4 M C4] TStp)) ((w8.alloc (.cells #[.int .i64 s.id, .int .i64 s.ep, .slice A4 M C4] TStp)).alloc (.cells #[.int .i64 s.id, .int .i64 s.ep, .slice A5 M C5] TStp)) := (Below.refl _ _).alloc (by simp) _
          have ha3 : Below w8.heap.size w8 ((w8.alloc (.cells #[.int .i64 s.id, .int .i64 s.ep, .slice A4 M C4] TStp)).alloc (.cells #[.int .i64 s.id, .int .i64 s.ep, .slice A5 M C5] TStp)) := ha1.trans (ha2.mono (by omega))
          have hst1 : Stps ((w8.alloc (.cells #[.int .i64 s.id, .int .i64 s.ep, .slice A4 M C4] TStp)).alloc (.cells #[.int .i64 s.id, .int .i64 s.ep, .slice A5 M C5] TStp)) (.slice (some ⟨w8.heap.size, 0, none⟩) 1 1) [s] :=
            stp_alone (w := w8) (T := TStp) (A := A4) (C := C4) (s := s) (F := fun _ => False) (fun b q => q.elim) (by rw [HMM.out]; exact Turned.of_below _ ((Below.refl _ _).alloc (Nat.le_refl _) _)) (by rw [HMM.out]; exact HI1.out.below ha3) HJ.out.1 HJ.out.2.1 HJ.out.2.2
          have hst2 := stp_alone (w := w8.alloc (.cells #[.int .i64 s.id, .int .i64 s.ep, .slice A4 M C4] TStp)) (w' := (w8.alloc (.cells #[.int .i64 s.id, .int .i64 s.ep, .slice A4 M C4] TStp)).alloc (.cells #[.int .i64 s.id, .int .i64 s.ep, .slice A5 M C5] TStp)) (T := TStp) (F := fun _ => False) (A := A5) (C := C5) (s := s) (fun b q => q.elim) (by rw [HMM.out]; exact Turned.refl _ _) (by rw [HMM.out]; exact HI2.out.below ha3) HJ.out.1 HJ.out.2.1 HJ.out.2.2
          rw [show (w8.alloc (.cells #[.int .i64 s.id, .int .i64 s.ep, .slice A4 M C4] TStp)).heap.size = w8.heap.size + 1 by simp] at hst2
          have HC := Lib.hid (Rec.stripesC _ _ _ _ _ hst1 hst2)
          rw [Rec.eqB_yes rfl] at HC
          have HBZ := Lib.hid (HBe.out.trans (ha3.mono HBe.out.size))
          clear ha1 ha2 ha3 hst1 hst2
          have hgl : gc < w8.heap.size := World.block_lt_of_cell? _ _ v0
          cases yes
          all_goals
            cases there
            all_goals
              go_wp2_with fail
              refine HC.out.mono ?_
              rintro _ w9 ⟨rfl, n9, rfl⟩
              go_wp2
              go_ret
              exact ⟨rfl, HBZ.out.trans (Go.Mem.below_drewN _ _ _)⟩
end Go.Proofs.Ytlgdchflegflkaa.Tbl
