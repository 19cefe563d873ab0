/- The document's readers that ask whether two records are the same, as walks. -/
import Derived.Test.YtlgdchflegflkaaRows
import Derived.Test.YtlgdchflegflkaaRecD
import Derived.Deep.QuietTactic
import Derived.BigQuiet
import Derived.WalkSpells
import Derived.Lib.Strings
import Derived.WideShapes
namespace Go.Proofs.Ytlgdchflegflkaa.Rec
set_option linter.unusedVariables false
open Go.ChangeShapes Go.WideShapes Go.ChangeAt Go.RowKit
open Go.Mem
noncomputable def eqB {α : Type} (a b : α) : Bool := @decide (a = b) (Classical.propDecidable _)
theorem eqB_yes {α : Type} {a b : α} (h : a = b) : eqB a b = true := by unfold eqB; simp [h]
theorem eqB_no {α : Type} {a b : α} (h : ¬ a = b) : eqB a b = false := by unfold eqB; simp [h]
/-- the first k are the same -/
def AgreeF {α : Type} (l m : List α) (k : Nat) : Prop := ∀ i (h : i < l.length) (h' : i < m.length), i < k → l[i] = m[i]
theorem AgreeF.succ {α : Type} {l m : List α} {k : Nat} (h : AgreeF l m k) (hk : k < l.length) (hk' : k < m.length) (h1 : l[k] = m[k]) : AgreeF l m (k + 1) := fun i hi hi' hlt => by
  by_cases e : i = k
  · subst e; exact h1
  · exact h i hi hi' (by omega)
theorem agree_yes {α : Type} {l m : List α} (h0 : l.length = m.length) (h : AgreeF l m l.length) : eqB l m = true :=
  eqB_yes (List.ext_getElem h0 fun i hi hi' => h i hi hi' hi)
theorem agree_no {α : Type} {l m : List α} {k : Nat} (hk : k < l.length) (hk' : k < m.length) (h : ¬ l[k] = m[k]) : eqB l m = false :=
  eqB_no fun e => h (by subst e; rfl)
theorem agree_len {α : Type} {l m : List α} (h : ¬ l.length = m.length) : eqB l m = false := eqB_no fun e => h (by rw [e])
theorem ne_int {a b : Int} (h : ¬ a = b) : (a != b) = true := by rw [bne_iff_ne]; exact h
theorem eq_int {a b : Int} (h : a = b) : (a != b) = false := by rw [h]; simp
set_option maxHeartbeats 400000 in
theorem intsC (l m : List Int) (v u : Value) (w : World) (h : Ints w v l) (g : Ints w u m) :
    Calls Try.prog 33 #[v, u] w fun e w' => e = .returned (.bool (eqB l m)) ∧ ∃ n, w' = w.drewN n := by
  obtain ⟨A, C, rfl, h1, h2, -⟩ := h.shape
  obtain ⟨A1, C1, rfl, g1, g2, -⟩ := g.shape
  by_cases hl : l.length = m.length
  · have hq : ((l.length : Int) != (m.length : Int)) = false := by rw [hl]; simp
    have HL := Lib.hid hl; clear hl
    go_enter Try.func33, Try.ntmps33
    go_wp2
    go_loopw [5] (fun c wr => ∃ k : Nat, k ≤ l.length ∧ AgreeF l m k ∧ c = .int .i64 k ∧ ∃ n, wr = w.drewN n) (fun c _ => l.length - (intOf c).toNat)
    case atStart => exact ⟨0, Nat.zero_le _, fun i _ _ hi => absurd hi (by omega), rfl, 0, rfl⟩
    case round =>
      obtain ⟨k, hk, hu, rfl, n, rfl⟩ := hrel
      by_cases hlt : k < l.length
      · have hlt' : k < m.length := by have := HL.out; omega
        obtain ⟨b, o, rfl, hc, -⟩ := h.at hlt
        obtain ⟨b0, o0, rfl, hc0, -⟩ := g.at hlt'
        by_cases hr : l[k] = m[k]
        · have HU := Lib.hid (hu.succ hlt hlt' hr)
          have hq := eq_int hr
          clear hr
          go_wp2
          go_quiet (fail)
          go_wp2
          go_roundw
          case rel => exact ⟨k + 1, by omega, HU.out, by go_num, _, rfl⟩
          case measure => simp [intOf]; omega
        · have HN := Lib.hid (agree_no hlt hlt' hr)
          have hq := ne_int hr
          clear hr
          go_wp2
          go_quiet (fail)
          go_wp2
          go_ret
          exact ⟨ret_bool HN.out.symm, quiets _ _ _⟩
      · obtain rfl : k = l.length := by omega
        have HY := Lib.hid (agree_yes HL.out hu)
        go_wp2
        go_ret
        exact ⟨ret_bool HY.out.symm, _, rfl⟩
  · have HN := Lib.hid (agree_len hl)
    have hq : ((l.length : Int) != (m.length : Int)) = true := by rw [bne_iff_ne]; omega
    clear hl
    go_enter Try.func33, Try.ntmps33
    go_wp2
    go_ret
    exact ⟨ret_bool HN.out.symm, 0, rfl⟩
theorem stp_eq {a b : StpD} (h0 : a.id = b.id) (h1 : a.ep = b.ep) (h2 : a.locs = b.locs) : a = b := by cases a; cases b; simp only at h0 h1 h2; rw [h0, h1, h2]
theorem obj_eq {a b : ObjD} (h0 : a.key = b.key) (h1 : a.id = b.id) (h2 : a.size = b.size) (h3 : a.stripes = b.stripes) : a = b := by cases a; cases b; simp only at h0 h1 h2 h3; rw [h0, h1, h2, h3]
theorem str_same {a b : ByteArray} (h : a = b) : (a.toList == b.toList) = true := by rw [h]; exact beq_self_eq_true _
theorem str_not {a b : ByteArray} (h : ¬ a = b) : (a.toList == b.toList) = false := by
  rw [beq_eq_false_iff_ne]
  intro e
  rw [Lib.toList_data, Lib.toList_data] at e
  exact h (bytes_inj e)
theorem not_t {b : Bool} (h : b = true) : (!b) = false := by rw [h]; rfl
theorem not_f {b : Bool} (h : b = false) : (!b) = true := by rw [h]; rfl
set_option maxHeartbeats 1000000 in
theorem stripesC (l m : List StpD) (v u : Value) (w : World) (h : Stps w v l) (g : Stps w u m) :
    Calls Try.prog 20 #[v, u] w fun e w' => e = .returned (.bool (eqB l m)) ∧ ∃ n, w' = w.drewN n := by
  obtain ⟨A, C, rfl, h1, h2, -⟩ := h.shape
  obtain ⟨A1, C1, rfl, g1, g2, -⟩ := g.shape
  by_cases hl : l.length = m.length
  · have HL := Lib.hid hl
    rw [← hl] at g g1 ⊢
    obtain ⟨L, hL⟩ : ∃ L, l.length = L := ⟨_, rfl⟩
    have HLL := Lib.hid hL
    rw [hL] at h g h1 g1 ⊢
    clear hl hL
    have hq : ((L : Int) != (L : Int)) = false := by simp
    go_enter Try.func20, Try.ntmps20
    go_wp2
    clear hq
    go_loopw [5] (fun c wr => ∃ k : Nat, k ≤ L ∧ AgreeF l m k ∧ c = .int .i64 k ∧ ∃ n, wr = w.drewN n) (fun c _ => L - (intOf c).toNat)
    case atStart => exact ⟨0, Nat.zero_le _, fun i _ _ hi => absurd hi (by omega), rfl, 0, rfl⟩
    case round =>
      obtain ⟨k, hk, hu, rfl, n, rfl⟩ := hrel
      by_cases hlt : k < L
      · have hltl : k < l.length := by have := HLL.out; omega
        have hltm : k < m.length := by have := HL.out; omega
        obtain ⟨b, o, A', C', rfl, c0, c1, c2, hi, -, -, -⟩ := h.at hltl
        obtain ⟨b1, o1, A2, C2, rfl, d0, d1, d2, gi, -, -, -⟩ := g.at hltm
        obtain ⟨x, hx⟩ : ∃ x, l[k] = x := ⟨_, rfl⟩
        obtain ⟨y, hy⟩ : ∃ y, m[k] = y := ⟨_, rfl⟩
        have HSU := Lib.hid (fun e => hu.succ hltl hltm e)
        have HNO := Lib.hid (fun e => agree_no hltl hltm e)
        rw [hx, hy] at HSU HNO
        rw [hx] at c0 c1 c2 hi
        rw [hy] at d0 d1 d2 gi
        have q1 : (0 : Int) ≤ (k : Int) := by omega
        have q2 : (k : Int) < (L : Int) := by omega
        have HI := Lib.hid hi
        have GI := Lib.hid gi
        clear hx hy hltl hltm hi gi hu
        by_cases e0 : x.id = y.id
        · have f0 := eq_int e0
          have E0 := Lib.hid e0
          by_cases e1 : x.ep = y.ep
          · have f1 := eq_int e1
            have E1 := Lib.hid e1
            by_cases e2 : x.locs = y.locs
            · have HU := Lib.hid (HSU.out (stp_eq e0 e1 e2))
              have f2 := eqB_yes e2
              have f3 := not_t f2
              clear e0 e1 e2
              go_wp2
              go_quiet ((go_at_call 33; exact quiet_at (intsC x.locs y.locs _ _ _ (HI.out.drewN _) (GI.out.drewN _))))
              go_wp2
              go_roundw
              case rel => exact ⟨k + 1, by omega, HU.out, by go_num, _, rfl⟩
              case measure => simp [intOf]; omega
            · have HN := Lib.hid (HNO.out (fun e => e2 (by rw [e])))
              have f2 := eqB_no e2
              have f3 := not_f f2
              clear e0 e1 e2
              go_wp2
              go_quiet ((go_at_call 33; exact quiet_at (intsC x.locs y.locs _ _ _ (HI.out.drewN _) (GI.out.drewN _))))
              go_wp2
              go_ret
              exact ⟨ret_bool HN.out.symm, quiets _ _ _⟩
          · have HN := Lib.hid (HNO.out (fun e => e1 (by rw [e])))
            have f1 := ne_int e1
            clear e0 e1
            go_wp2
            go_quiet (fail)
            go_wp2
            go_ret
            exact ⟨ret_bool HN.out.symm, quiets _ _ _⟩
        · have HN := Lib.hid (HNO.out (fun e => e0 (by rw [e])))
          have f0 := ne_int e0
          clear e0
          go_wp2
          go_quiet (fail)
          go_wp2
          go_ret
          exact ⟨ret_bool HN.out.symm, quiets _ _ _⟩
      · obtain rfl : k = L := by omega
        have HY := Lib.hid (agree_yes HL.out (by rw [HLL.out]; exact hu))
        go_wp2
        go_ret
        exact ⟨ret_bool HY.out.symm, _, rfl⟩
  · have HN := Lib.hid (agree_len hl)
    have hq : ((l.length : Int) != (m.length : Int)) = true := by rw [bne_iff_ne]; omega
    clear hl
    go_enter Try.func20, Try.ntmps20
    go_wp2
    go_ret
    exact ⟨ret_bool HN.out.symm, 0, rfl⟩
set_option maxHeartbeats 2000000 in
theorem objectsC (l m : List ObjD) (v u : Value) (w : World) (h : Objs w v l) (g : Objs w u m) :
    Calls Try.prog 19 #[v, u] w fun e w' => e = .returned (.bool (eqB l m)) ∧ ∃ n, w' = w.drewN n := by
  obtain ⟨A, C, rfl, h1, h2, -⟩ := h.shape
  obtain ⟨A1, C1, rfl, g1, g2, -⟩ := g.shape
  by_cases hl : l.length = m.length
  · have HL := Lib.hid hl
    rw [← hl] at g g1 ⊢
    obtain ⟨L, hL⟩ : ∃ L, l.length = L := ⟨_, rfl⟩
    have HLL := Lib.hid hL
    rw [hL] at h g h1 g1 ⊢
    clear hl hL
    have hq : ((L : Int) != (L : Int)) = false := by simp
    go_enter Try.func19, Try.ntmps19
    go_wp2
    clear hq
    go_loopw [5] (fun c wr => ∃ k : Nat, k ≤ L ∧ AgreeF l m k ∧ c = .int .i64 k ∧ ∃ n, wr = w.drewN n) (fun c _ => L - (intOf c).toNat)
    case atStart => exact ⟨0, Nat.zero_le _, fun i _ _ hi => absurd hi (by omega), rfl, 0, rfl⟩
    case round =>
      obtain ⟨k, hk, hu, rfl, n, rfl⟩ := hrel
      by_cases hlt : k < L
      · have hltl : k < l.length := by have := HLL.out; omega
        have hltm : k < m.length := by have := HL.out; omega
        obtain ⟨b, o, A', C', rfl, c0, c1, c2, c3, hi, -, -, -, -⟩ := h.at hltl
        obtain ⟨b1, o1, A2, C2, rfl, d0, d1, d2, d3, gi, -, -, -, -⟩ := g.at hltm
        obtain ⟨x, hx⟩ : ∃ x, l[k] = x := ⟨_, rfl⟩
        obtain ⟨y, hy⟩ : ∃ y, m[k] = y := ⟨_, rfl⟩
        have HSU := Lib.hid (fun e => hu.succ hltl hltm e)
        have HNO := Lib.hid (fun e => agree_no hltl hltm e)
        rw [hx, hy] at HSU HNO
        rw [hx] at c0 c1 c2 c3 hi
        rw [hy] at d0 d1 d2 d3 gi
        have q1 : (0 : Int) ≤ (k : Int) := by omega
        have q2 : (k : Int) < (L : Int) := by omega
        have HI := Lib.hid hi
        have GI := Lib.hid gi
        clear hx hy hltl hltm hi gi hu
        by_cases ek : x.key = y.key
        · have fk := str_same ek
          by_cases e0 : x.id = y.id
          · have f0 := eq_int e0
            by_cases e1 : x.size = y.size
            · have f1 := eq_int e1
              by_cases e2 : x.stripes = y.stripes
              · have HU := Lib.hid (HSU.out (obj_eq ek e0 e1 e2))
                have f2 := eqB_yes e2
                have f3 := not_t f2
                clear ek e0 e1 e2
                go_wp2
                go_quiet ((go_at_call 20; exact quiet_at (stripesC x.stripes y.stripes _ _ _ (HI.out.drewN _) (GI.out.drewN _))))
                go_wp2
                go_roundw
                case rel => exact ⟨k + 1, by omega, HU.out, by go_num, _, rfl⟩
                case measure => simp [intOf]; omega
              · have HN := Lib.hid (HNO.out (fun e => e2 (by rw [e])))
                have f2 := eqB_no e2
                have f3 := not_f f2
                clear ek e0 e1 e2
                go_wp2
                go_quiet ((go_at_call 20; exact quiet_at (stripesC x.stripes y.stripes _ _ _ (HI.out.drewN _) (GI.out.drewN _))))
                go_wp2
                go_ret
                exact ⟨ret_bool HN.out.symm, quiets _ _ _⟩
            · have HN := Lib.hid (HNO.out (fun e => e1 (by rw [e])))
              have f1 := ne_int e1
              clear ek e0 e1
              go_wp2
              go_quiet (fail)
              go_wp2
              go_ret
              exact ⟨ret_bool HN.out.symm, quiets _ _ _⟩
          · have HN := Lib.hid (HNO.out (fun e => e0 (by rw [e])))
            have f0 := ne_int e0
            clear ek e0
            go_wp2
            go_quiet (fail)
            go_wp2
            go_ret
            exact ⟨ret_bool HN.out.symm, quiets _ _ _⟩
        · have HN := Lib.hid (HNO.out (fun e => ek (by rw [e])))
          have fk := str_not ek
          clear ek
          go_wp2
          go_quiet (fail)
          go_wp2
          go_ret
          exact ⟨ret_bool HN.out.symm, quiets _ _ _⟩
      · obtain rfl : k = L := by omega
        have HY := Lib.hid (agree_yes HL.out (by rw [HLL.out]; exact hu))
        go_wp2
        go_ret
        exact ⟨ret_bool HY.out.symm, _, rfl⟩
  · have HN := Lib.hid (agree_len hl)
    have hq : ((l.length : Int) != (m.length : Int)) = true := by rw [bne_iff_ne]; omega
    clear hl
    go_enter Try.func19, Try.ntmps19
    go_wp2
    go_ret
    exact ⟨ret_bool HN.out.symm, 0, rfl⟩
end Go.Proofs.Ytlgdchflegflkaa.Rec
