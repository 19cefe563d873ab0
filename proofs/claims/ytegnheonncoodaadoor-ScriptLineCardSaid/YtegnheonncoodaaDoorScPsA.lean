/- append of one step, in a round of the program's Parse. -/
import Derived.Test.YtegnheonncoodaaDoorScPsI
namespace Go.Proofs.YtegnheonncoodaaDoor.Scr
set_option linter.unusedVariables false
open Go.ChangeShapes Go.WideShapes Go.ChangeAt Go.RowKit Go.Shelf
open Go.Mem Sc
theorem wpListIn_append_known {F : Fence} {n : Nat} {P : Program} (w : World) {ops : Array Oper} {rest : List Oper} {o : Oper} {a : Act} {Q : Exit → Act → World → Prop} (hg : o.guard = none) (s x : Operand) (t tn : TypeId)
    (hop : o.op = Op.call { callee := Callee.builtin Builtin.append, args := #[s, x], argTypes := #[t, tn] }) (vs vx : Value) (hs : a.eval s = vs) (hx : a.eval x = vx) (v' : Value) (w' : World)
    (hr : (Builtin.append_ #[t, tn] o.type #[vs, vx]).run P w = .ok v' w') (h : wpListIn F n P ops Q rest (a.put o.dst v') w') : wpListIn F n P ops Q (o :: rest) a w := by
  refine wpListIn_plain hg fun K hK => ?_
  unfold Oper.wpIn
  refine ⟨by simp [Oper.about, hop, resolve, Target.leads, Sem.run_pure], ?_⟩
  rw [Oper.semAt_plain F _ _ (by rw [hop]; intro c hc; cases hc)]
  simp [execOp, hop, resolve, invoke, builtin, hs, hx, hr, Result.andThen]
  exact hK _ _ h
def zeroStep : Value := .agg #[.int .i64 0, .int .i64 0, .string ⟨#[]⟩, .slice none 0 0, .int .u64 0]
theorem infoStep : (Tryd.prog.info? TStep).map (fun i => (i.zero, i.size, i.bytes)) = some (some zeroStep, 5, 64) := by kernel_rfl
def stepCells (x : SD) (A : Option Addr) (C : Nat) : Array Value := #[.int .i64 x.kind, .int .i64 x.a, .string (str x.key), .slice A x.data.length C, .int .u64 (x.keep : Nat)]
theorem Lst.append {m : Nat} {K : Nat → Prop} {V : Value} {L : List SD} {W : World} (h : Lst m K V L W) (y : SD) (A : Option Addr) (C : Nat) (hok : y.Ok)
    (hon : On (fun b => (Value.slice A y.data.length C).ownBlock = some b) W (fun w' => Bytes w' (.slice A y.data.length C) (nums y.data)))
    (hown : ∀ b, (Value.slice A y.data.length C).ownBlock = some b → m + 6 ≤ b ∧ IsCells W b ∧ V.ownBlock ≠ some b) (hlen : L.length ≤ 1000000) (hsz : m + 6 ≤ W.heap.size) :
    ∃ V' W', (Builtin.append_ #[TL, TL] TL #[V, .slice (some ⟨W.heap.size, 0, none⟩) 1 1]).run Tryd.prog (W.alloc (.cells (stepCells y A C) TStep)) = .ok V' W' ∧ (∃ K', Lst m K' V' (L ++ [y]) W') ∧ Turned (fun b => V.ownBlock = some b) W W' := by
  have hbu := h.bu.more (K' := fun b => K b ∨ (Value.slice A y.data.length C).ownBlock = some b) (fun b q => .inl q) (fun b q => by
    rintro (q2 | q2)
    · obtain ⟨xs, _, hno, _⟩ := h.bu
      exact hno b q q2
    · exact (hown b q2).2.2 q)
  have hkl : ∀ b, (K b ∨ (Value.slice A y.data.length C).ownBlock = some b) → m + 6 ≤ b ∧ IsCells W b := fun b q => by
    rcases q with q | q
    · exact h.k b q
    · exact ⟨(hown b q).1, (hown b q).2.1⟩
  have hlt : ∀ b, (K b ∨ (Value.slice A y.data.length C).ownBlock = some b) → b < W.heap.size := fun b q => by
    obtain ⟨o, h1, _⟩ := (hkl b q).2
    exact (Array.getElem?_eq_some_iff.1 h1).1
  have hR : On (fun b => K b ∨ (Value.slice A y.data.length C).ownBlock = some b) W (fun w' => StepR w' (fun j => (stepCells y A C).getD j undef) y) :=
    (On.more hon fun b q => .inr q).map fun w' hb => ⟨rfl, rfl, rfl, hb, rfl, hok⟩
  obtain ⟨V', W', hrun, hbu', ht, hat⟩ := run_append_builtX (P := Tryd.prog) W TL TL TStep zeroStep 64 Tryd.underlying22 infoStep rfl (by omega) V L hbu hlt (stepCells y A C) y rfl
    (fun u hu => by
      have : u = .int .i64 y.kind ∨ u = .int .i64 y.a ∨ u = .string (str y.key) ∨ u = .slice A y.data.length C ∨ u = .int .u64 (y.keep : Nat) := by simpa [stepCells] using hu
      rcases this with rfl | rfl | rfl | rfl | rfl <;> rfl) hR (by omega)
  refine ⟨V', W', hrun, ⟨_, hbu', fun b q => ⟨(hkl b q).1, cells_turned (hkl b q).2 ht (fun q2 => ?_)⟩, fun b q => ?_⟩, ht⟩
  · obtain ⟨xs, _, hno, _⟩ := hbu
    exact hno b q2 q
  · have hcl : IsCells W' b := by
      obtain ⟨xs, h1, _⟩ := hbu'
      rcases h1.2 with ⟨e, _⟩ | ⟨g, cap, cur, e, _, hg, _⟩
      · rw [e] at q; cases q
      · rw [e] at q
        have : g = b := by injection q
        subst this
        exact ⟨_, hg, rfl⟩
    refine ⟨?_, hcl⟩
    rcases hat with e | e
    · exact (h.o b (e ▸ q)).1
    · rw [e] at q
      injection q with q
      omega
end Go.Proofs.YtegnheonncoodaaDoor.Scr
