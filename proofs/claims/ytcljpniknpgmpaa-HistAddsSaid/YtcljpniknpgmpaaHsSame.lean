/- The law's answer whether two rows of calls are the same. -/
import Derived.Test.YtcljpniknpgmpaaHsLaw
import Derived.Test.YtcljpniknpgmpaaTill
namespace Go.Proofs.Ytcljpniknpgmpaa.Hst
set_option linter.unusedVariables false
open Go.ChangeShapes Go.WideShapes Go.ChangeAt Go.RowKit
open Go.Mem Hs
theorem two_rows (w : World) (X Y : Array Value) (T : TypeId) : (((w.alloc (.cells X T)).alloc (.cells Y T)).drew).rowIs w.heap.size T X.size (fun i => X.getD i undef) ∧ (((w.alloc (.cells X T)).alloc (.cells Y T)).drew).rowIs (w.heap.size + 1) T Y.size (fun i => Y.getD i undef) ∧ Below w.heap.size w (((w.alloc (.cells X T)).alloc (.cells Y T)).drew) := by
  have h1 := row_of w X T
  have h2 := row_of (w.alloc (.cells X T)) Y T
  rw [show (w.alloc (.cells X T)).heap.size = w.heap.size + 1 by simp] at h2
  have hb : Below (w.alloc (.cells X T)).heap.size (w.alloc (.cells X T)) (((w.alloc (.cells X T)).alloc (.cells Y T)).drew) := ((Below.refl _ _).alloc (Nat.le_refl _) _).drew
  exact ⟨h1.of_block (hb.block _ h1.lt), h2, (((Below.refl w.heap.size w).alloc (Nat.le_refl _) _).alloc (by simp) _).drew⟩
theorem calls_below {w w' : World} {V : Value} {L : List CallD} (h : Cells 10 CallR w V L) (hb : Below w.heap.size w w') : Cells 10 CallR w' V L := Cells.mono h (below_cell hb) (fun _ _ q => ⟨q.r0, q.r1, q.r2, q.r3.below hb, q.r4, q.r5, q.r6, q.r7, q.r8.below hb, q.r9.below hb, q.ok⟩)
set_option maxRecDepth 100000 in
set_option maxHeartbeats 8000000 in
theorem sameK (L : List CallD) (v u : Value) (w : World) (h : Cells 10 CallR w v L) (g : Cells 10 CallR w u L) :
    Calls Try.prog 10 #[v, u] w fun e w' => e = .returned (.bool true) ∧ Below w.heap.size w w' := by
  obtain ⟨A, C, rfl, h1, h2, -⟩ := calls_shape h
  obtain ⟨A1, C1, rfl, g1, g2, -⟩ := calls_shape g
  have HH := Lib.hid h
  have HG := Lib.hid g
  obtain ⟨N, hN⟩ : ∃ N, L.length = N := ⟨_, rfl⟩
  have HN := Lib.hid hN
  rw [hN] at HH HG h1 g1 ⊢
  have f0 : ((N : Int) != (N : Int)) = false := by simp
  clear h g hN
  go_enter Try.func10, Try.ntmps10
  go_wp2
  go_loopw [5] (fun c wr => ∃ i : Nat, i ≤ N ∧ c = .int .i64 i ∧ Below w.heap.size w wr) (fun c _ => N - (intOf c).toNat)
  case atStart => exact ⟨0, Nat.zero_le _, rfl, Below.refl _ _⟩
  case round =>
    obtain ⟨i, hi, rfl, hb⟩ := hrel
    have HB := Lib.hid hb
    by_cases hlt : i < N
    · have hil : i < L.length := by rw [HN.out]; exact hlt
      obtain ⟨ba, oa, A3, C3, A8, C8, A9, C9, rfl, a0, a1, a2, a3, a4, a5, a6, a7, a8, a9, p3, p8, p9, hcp⟩ := calls_at (calls_below HH.out hb) hil
      obtain ⟨bb, ob, B3, D3, B8, D8, B9, D9, rfl, b0, b1, b2, b3, b4, b5, b6, b7, b8, b9, r3, r8, r9, -⟩ := calls_at (calls_below HG.out hb) hil
      obtain ⟨c, hc⟩ : ∃ c, L[i] = c := ⟨_, rfl⟩
      rw [hc] at a0 a1 a2 a3 a4 a5 a6 a7 a8 a9 p3 p8 p9 b0 b1 b2 b3 b4 b5 b6 b7 b8 b9 r3 r8 r9 hcp
      have HP := Lib.hid (show ∀ w', Below wr.heap.size wr w' → Bytes w' (.slice A3 c.data.length C3) c.data ∧ Bytes w' (.slice B3 c.data.length D3) c.data ∧ Bytes w' (.slice A8 c.out.length C8) c.out ∧ Bytes w' (.slice B8 c.out.length D8) c.out ∧ Strs w' (.slice A9 c.keys.length C9) c.keys ∧ Strs w' (.slice B9 c.keys.length D9) c.keys from fun w' q => ⟨p3.below q, r3.below q, p8.below q, r8.below q, p9.below q, r9.below q⟩)
      obtain ⟨ND, hND⟩ : ∃ x, c.data.length = x := ⟨_, rfl⟩
      obtain ⟨NO, hNO⟩ : ∃ x, c.out.length = x := ⟨_, rfl⟩
      obtain ⟨NK, hNK⟩ : ∃ x, c.keys.length = x := ⟨_, rfl⟩
      have HNK := Lib.hid hNK
      rw [hND, hNO, hNK] at HP
      rw [hND] at a3 b3
      rw [hNO] at a8 b8
      rw [hNK] at a9 b9
      have HNK50 := Lib.hid (show NK ≤ 50 by rw [← hNK]; exact hcp.keys)
      have q1 : (0 : Int) ≤ (i : Int) := by omega
      have q2 : (i : Int) < (N : Int) := by omega
      have HSX := Lib.hid (show ∀ w' : World, Below wr.heap.size wr w' → w'.cell? ⟨ba, oa + i * 10, none⟩ = some (.int .i64 c.task) ∧ w'.cell? ⟨ba, oa + i * 10 + 1, none⟩ = some (.int .i64 c.op) ∧ w'.cell? ⟨ba, oa + i * 10 + 2, none⟩ = some (.string c.key) ∧ w'.cell? ⟨ba, oa + i * 10 + 3, none⟩ = some (.slice A3 ND C3) ∧ w'.cell? ⟨ba, oa + i * 10 + 4, none⟩ = some (.int .i64 c.fr) ∧ w'.cell? ⟨ba, oa + i * 10 + 5, none⟩ = some (.int .i64 c.to) ∧ w'.cell? ⟨ba, oa + i * 10 + 6, none⟩ = some (.int .i64 c.mo) ∧ w'.cell? ⟨ba, oa + i * 10 + 7, none⟩ = some (.int .i64 c.e) ∧ w'.cell? ⟨ba, oa + i * 10 + 8, none⟩ = some (.slice A8 NO C8) ∧ w'.cell? ⟨ba, oa + i * 10 + 9, none⟩ = some (.slice A9 NK C9) ∧ w'.cell? ⟨bb, ob + i * 10, none⟩ = some (.int .i64 c.task) ∧ w'.cell? ⟨bb, ob + i * 10 + 1, none⟩ = some (.int .i64 c.op) ∧ w'.cell? ⟨bb, ob + i * 10 + 2, none⟩ = some (.string c.key) ∧ w'.cell? ⟨bb, ob + i * 10 + 3, none⟩ = some (.slice B3 ND D3) ∧ w'.cell? ⟨bb, ob + i * 10 + 4, none⟩ = some (.int .i64 c.fr) ∧ w'.cell? ⟨bb, ob + i * 10 + 5, none⟩ = some (.int .i64 c.to) ∧ w'.cell? ⟨bb, ob + i * 10 + 6, none⟩ = some (.int .i64 c.mo) ∧ w'.cell? ⟨bb, ob + i * 10 + 7, none⟩ = some (.int .i64 c.e) ∧ w'.cell? ⟨bb, ob + i * 10 + 8, none⟩ = some (.slice B8 NO D8) ∧ w'.cell? ⟨bb, ob + i * 10 + 9, none⟩ = some (.slice B9 NK D9) from fun w' q => ⟨below_cell q _ _ a0, below_cell q _ _ a1, below_cell q _ _ a2, below_cell q _ _ a3, below_cell q _ _ a4, below_cell q _ _ a5, below_cell q _ _ a6, below_cell q _ _ a7, below_cell q _ _ a8, below_cell q _ _ a9, below_cell q _ _ b0, below_cell q _ _ b1, below_cell q _ _ b2, below_cell q _ _ b3, below_cell q _ _ b4, below_cell q _ _ b5, below_cell q _ _ b6, below_cell q _ _ b7, below_cell q _ _ b8, below_cell q _ _ b9⟩)
      have hd0 : Below wr.heap.size wr wr.drew := Go.Mem.below_drewN _ wr 1
      clear a0 a1 a2 a3 a4 a5 a6 a7 a8 a9 b0 b1 b2 b3 b4 b5 b6 b7 b8 b9 p3 p8 p9 r3 r8 r9 hcp hND hNO hNK hc hil hb
      go_upto_region 6 with fail
      refine wp_region_noPanic ?_
      refine wp_region_till [11] (fun w' => Below wr.heap.size wr w') (by kernel_rfl) hd0 (fun _ => ?_)
      have hHeld := hd0
      refine wpAnyT_take (i := 0) (oi := ?oiz1) (v := ?vz1) ?h1z1 (by kernel_rfl) (by kernel_rfl) (by kernel_rfl) (by kernel_rfl) (fun _ _ _ h => h) ?hyz1 (HeldT.of hHeld) ?_
      case h1z1 => (simp only [List.getElem?_toArray, List.getElem?_cons_zero]; rfl)
      case hyz1 => first | (refine Or.inr ⟨rfl, ?_⟩; rfl) | (refine Or.inl ⟨rfl, ?_⟩; intro w hSw; (try dsimp only at hSw); go_simp; done) | (refine Or.inl ⟨rfl, ?_⟩; intro w hSw; (try dsimp only at hSw); go_simp; with_reducible rfl)
      try simp only [Act.put, List.setIfInBounds_toArray, List.set_cons_zero, List.set_cons_succ]
      refine wpAnyT_take (i := 1) (oi := ?oiz2) (v := ?vz2) ?h1z2 (by kernel_rfl) (by kernel_rfl) (by kernel_rfl) (by kernel_rfl) (fun _ _ _ h => h) ?hyz2 (HeldT.of hHeld) ?_
      case h1z2 => (simp only [List.getElem?_toArray, List.getElem?_cons_succ, List.getElem?_cons_zero]; rfl)
      case hyz2 => first | (refine Or.inr ⟨rfl, ?_⟩; rfl) | (refine Or.inl ⟨rfl, ?_⟩; intro w hSw; (try dsimp only at hSw); go_simp; done) | (refine Or.inl ⟨rfl, ?_⟩; intro w hSw; (try dsimp only at hSw); go_simp; with_reducible rfl)
      try simp only [Act.put, List.setIfInBounds_toArray, List.set_cons_zero, List.set_cons_succ]
      refine wpAnyT_take (i := 2) (oi := ?oiz3) (v := ?vz3) ?h1z3 (by kernel_rfl) (by kernel_rfl) (by kernel_rfl) (by kernel_rfl) (fun _ _ _ h => h) ?hyz3 (HeldT.of hHeld) ?_
      case h1z3 => (simp only [List.getElem?_toArray, List.getElem?_cons_succ, List.getElem?_cons_zero]; rfl)
      case hyz3 => first | (refine Or.inr ⟨rfl, ?_⟩; rfl) | (refine Or.inl ⟨rfl, ?_⟩; intro w hSw; (try dsimp only at hSw); go_simp; done) | (refine Or.inl ⟨rfl, ?_⟩; intro w hSw; (try dsimp only at hSw); go_simp; with_reducible rfl)
      try simp only [Act.put, List.setIfInBounds_toArray, List.set_cons_zero, List.set_cons_succ]
      refine wpAnyT_load 11 (i := 3) (oi := ?oiz4) (v := ?vz4) ?h1z4 (by kernel_rfl) (by kernel_rfl) (by kernel_rfl) (by kernel_rfl) (fun _ _ _ h => h) ?hyz4 (HeldT.of hHeld) ?_
      case h1z4 => (simp only [List.getElem?_toArray, List.getElem?_cons_succ, List.getElem?_cons_zero]; rfl)
      case hyz4 => first | (refine Or.inr ⟨rfl, ?_⟩; rfl) | (refine Or.inl ⟨rfl, ?_⟩; intro w hSw; (have hSc := HSX.out w hSw); go_simp; done) | (refine Or.inl ⟨rfl, ?_⟩; intro w hSw; (have hSc := HSX.out w hSw); go_simp; with_reducible rfl)
      try simp only [Act.put, List.setIfInBounds_toArray, List.set_cons_zero, List.set_cons_succ]
      refine wpAnyT_take (i := 4) (oi := ?oiz5) (v := ?vz5) ?h1z5 (by kernel_rfl) (by kernel_rfl) (by kernel_rfl) (by kernel_rfl) (fun _ _ _ h => h) ?hyz5 (HeldT.of hHeld) ?_
      case h1z5 => (simp only [List.getElem?_toArray, List.getElem?_cons_succ, List.getElem?_cons_zero]; rfl)
      case hyz5 => first | (refine Or.inr ⟨rfl, ?_⟩; rfl) | (refine Or.inl ⟨rfl, ?_⟩; intro w hSw; (try dsimp only at hSw); go_simp; done) | (refine Or.inl ⟨rfl, ?_⟩; intro w hSw; (try dsimp only at hSw); go_simp; with_reducible rfl)
      try simp only [Act.put, List.setIfInBounds_toArray, List.set_cons_zero, List.set_cons_succ]
      refine wpAnyT_take (i := 5) (oi := ?oiz6) (v := ?vz6) ?h1z6 (by kernel_rfl) (by kernel_rfl) (by kernel_rfl) (by kernel_rfl) (fun _ _ _ h => h) ?hyz6 (HeldT.of hHeld) ?_
      case h1z6 => (simp only [List.getElem?_toArray, List.getElem?_cons_succ, List.getElem?_cons_zero]; rfl)
      case hyz6 => first | (refine Or.inr ⟨rfl, ?_⟩; rfl) | (refine Or.inl ⟨rfl, ?_⟩; intro w hSw; (try dsimp only at hSw); go_simp; done) | (refine Or.inl ⟨rfl, ?_⟩; intro w hSw; (try dsimp only at hSw); go_simp; with_reducible rfl)
      try simp only [Act.put, List.setIfInBounds_toArray, List.set_cons_zero, List.set_cons_succ]
      refine wpAnyT_take (i := 6) (oi := ?oiz7) (v := ?vz7) ?h1z7 (by kernel_rfl) (by kernel_rfl) (by kernel_rfl) (by kernel_rfl) (fun _ _ _ h => h) ?hyz7 (HeldT.of hHeld) ?_
      case h1z7 => (simp only [List.getElem?_toArray, List.getElem?_cons_succ, List.getElem?_cons_zero]; rfl)
      case hyz7 => first | (refine Or.inr ⟨rfl, ?_⟩; rfl) | (refine Or.inl ⟨rfl, ?_⟩; intro w hSw; (try dsimp only at hSw); go_simp; done) | (refine Or.inl ⟨rfl, ?_⟩; intro w hSw; (try dsimp only at hSw); go_simp; with_reducible rfl)
      try simp only [Act.put, List.setIfInBounds_toArray, List.set_cons_zero, List.set_cons_succ]
      refine wpAnyT_load 11 (i := 7) (oi := ?oiz8) (v := ?vz8) ?h1z8 (by kernel_rfl) (by kernel_rfl) (by kernel_rfl) (by kernel_rfl) (fun _ _ _ h => h) ?hyz8 (HeldT.of hHeld) ?_
      case h1z8 => (simp only [List.getElem?_toArray, List.getElem?_cons_succ, List.getElem?_cons_zero]; rfl)
      case hyz8 => first | (refine Or.inr ⟨rfl, ?_⟩; rfl) | (refine Or.inl ⟨rfl, ?_⟩; intro w hSw; (have hSc := HSX.out w hSw); go_simp; done) | (refine Or.inl ⟨rfl, ?_⟩; intro w hSw; (have hSc := HSX.out w hSw); go_simp; with_reducible rfl)
      try simp only [Act.put, List.setIfInBounds_toArray, List.set_cons_zero, List.set_cons_succ]
      refine wpAnyT_ready (rs := [8, 9]) (by kernel_rfl) (by simp) ?_
      refine AllReadyT.cons (o := ?oiz9) ?h1z9 (fun K hK => ?_) (AllReadyT.cons (o := ?oiy9) ?h1y9 (fun K hK => ?_) AllReadyT.nil)
      case h1z9 => (simp only [List.getElem?_toArray, List.getElem?_cons_succ, List.getElem?_cons_zero]; rfl)
      case h1y9 => (simp only [List.getElem?_toArray, List.getElem?_cons_succ, List.getElem?_cons_zero]; rfl)
      · go_simp
        have hd1 := hd0.alloc hd0.size (.cells #[.int .i64 0, .int .i64 0, .string ⟨#[]⟩, .slice none 0 0, .int .i64 0, .int .i64 0, .int .i64 0, .int .i64 0, .slice none 0 0, .slice none 0 0] TCall)
        have hHeld := hd1
        refine hK.out _ _ (HeldT.of hHeld) (fun _ => ?_)
        clear hK K
        try simp only [Act.put, List.setIfInBounds_toArray, List.set_cons_zero, List.set_cons_succ]
        have hd2 := hd1.alloc hd1.size (.cells #[.int .i64 0, .int .i64 0, .string ⟨#[]⟩, .slice none 0 0, .int .i64 0, .int .i64 0, .int .i64 0, .int .i64 0, .slice none 0 0, .slice none 0 0] TCall)
        refine wpAnyT_ready (rs := [9]) (by kernel_rfl) (by simp) ?_
        refine AllReadyT.cons (o := ?oiz10) ?h1z10 (fun K hK => ?_) ?morez10
        case h1z10 => (simp only [List.getElem?_toArray, List.getElem?_cons_succ, List.getElem?_cons_zero]; rfl)
        case morez10 => exact AllReadyT.nil
        go_simp
        have hHeld := hd2
        refine hK.out _ _ (HeldT.of hHeld) (fun _ => ?_)
        clear hK K
        try simp only [Act.put, List.setIfInBounds_toArray, List.set_cons_zero, List.set_cons_succ]
        refine wpAnyT_ready (rs := [10]) (by kernel_rfl) (by simp) ?_
        refine AllReadyT.cons (o := ?oiz11) ?h1z11 (fun K hK => ?_) ?morez11
        case h1z11 => (simp only [List.getElem?_toArray, List.getElem?_cons_succ, List.getElem?_cons_zero]; rfl)
        case morez11 => exact AllReadyT.nil
        go_simp
        have hHeld := ((((Below.refl wr.heap.size wr).alloc (Nat.le_refl _) (.cells #[.int .i64 c.task, .int .i64 c.op, .string c.key, .slice A3 ND C3, .int .i64 c.fr, .int .i64 c.to, .int .i64 c.mo, .int .i64 c.e, .slice A8 NO C8, .slice A9 NK C9] TCall)).alloc (by simp) (.cells #[.int .i64 0, .int .i64 0, .string ⟨#[]⟩, .slice none 0 0, .int .i64 0, .int .i64 0, .int .i64 0, .int .i64 0, .slice none 0 0, .slice none 0 0] TCall)).drew)
        refine hK.out _ _ (HeldT.of hHeld) (fun _ => ?_)
        clear hK K
        try simp only [Act.put, List.setIfInBounds_toArray, List.set_cons_zero, List.set_cons_succ]
        refine wpAnyT_ready (rs := [11]) (by kernel_rfl) (by simp) ?_
        refine AllReadyT.cons (o := ?oiz12) ?h1z12 (fun K hK => ?_) ?morez12
        case h1z12 => (simp only [List.getElem?_toArray, List.getElem?_cons_succ, List.getElem?_cons_zero]; rfl)
        case morez12 => exact AllReadyT.nil
        go_simp
        refine hK.out _ _ (HeldT.over (by kernel_rfl)) (fun _ => ?_)
        clear hK K
        try simp only [Act.put, List.setIfInBounds_toArray, List.set_cons_zero, List.set_cons_succ]
        refine wpAnyT_done (by kernel_rfl) ?_ _
        refine NoPanic.normal ?_
        obtain ⟨hr0, hr1, hbz⟩ := two_rows wr #[Value.int .i64 c.task, .int .i64 c.op, .string c.key, .slice A3 ND C3, .int .i64 c.fr, .int .i64 c.to, .int .i64 c.mo, .int .i64 c.e, .slice A8 NO C8, .slice A9 NK C9] #[Value.int .i64 c.task, .int .i64 c.op, .string c.key, .slice B3 ND D3, .int .i64 c.fr, .int .i64 c.to, .int .i64 c.mo, .int .i64 c.e, .slice B8 NO D8, .slice B9 NK D9] TCall
        obtain ⟨wz, hwz⟩ : ∃ wz, ((wr.alloc (.cells #[.int .i64 c.task, .int .i64 c.op, .string c.key, .slice A3 ND C3, .int .i64 c.fr, .int .i64 c.to, .int .i64 c.mo, .int .i64 c.e, .slice A8 NO C8, .slice A9 NK C9] TCall)).alloc (.cells #[.int .i64 c.task, .int .i64 c.op, .string c.key, .slice B3 ND D3, .int .i64 c.fr, .int .i64 c.to, .int .i64 c.mo, .int .i64 c.e, .slice B8 NO D8, .slice B9 NK D9] TCall)).drew = wz := ⟨_, rfl⟩
        rw [hwz] at hr0 hr1 hbz ⊢
        have HBZ := Lib.hid hbz
        obtain ⟨n0, hn0⟩ : ∃ n0, wr.heap.size = n0 := ⟨_, rfl⟩
        rw [hn0] at hr0 hr1 ⊢
        have x0 : wz.cell? ⟨n0, 0, none⟩ = some (.int .i64 c.task) := hr0.cell (i := 0) (by simp)
        have x1 : wz.cell? ⟨n0, 1, none⟩ = some (.int .i64 c.op) := hr0.cell (i := 1) (by simp)
        have x2 : wz.cell? ⟨n0, 2, none⟩ = some (.string c.key) := hr0.cell (i := 2) (by simp)
        have x3 : wz.cell? ⟨n0, 3, none⟩ = some (.slice A3 ND C3) := hr0.cell (i := 3) (by simp)
        have x4 : wz.cell? ⟨n0, 4, none⟩ = some (.int .i64 c.fr) := hr0.cell (i := 4) (by simp)
        have x5 : wz.cell? ⟨n0, 5, none⟩ = some (.int .i64 c.to) := hr0.cell (i := 5) (by simp)
        have x6 : wz.cell? ⟨n0, 6, none⟩ = some (.int .i64 c.mo) := hr0.cell (i := 6) (by simp)
        have x7 : wz.cell? ⟨n0, 7, none⟩ = some (.int .i64 c.e) := hr0.cell (i := 7) (by simp)
        have x8 : wz.cell? ⟨n0, 8, none⟩ = some (.slice A8 NO C8) := hr0.cell (i := 8) (by simp)
        have x9 : wz.cell? ⟨n0, 9, none⟩ = some (.slice A9 NK C9) := hr0.cell (i := 9) (by simp)
        have y0 : wz.cell? ⟨n0 + 1, 0, none⟩ = some (.int .i64 c.task) := hr1.cell (i := 0) (by simp)
        have y1 : wz.cell? ⟨n0 + 1, 1, none⟩ = some (.int .i64 c.op) := hr1.cell (i := 1) (by simp)
        have y2 : wz.cell? ⟨n0 + 1, 2, none⟩ = some (.string c.key) := hr1.cell (i := 2) (by simp)
        have y3 : wz.cell? ⟨n0 + 1, 3, none⟩ = some (.slice B3 ND D3) := hr1.cell (i := 3) (by simp)
        have y4 : wz.cell? ⟨n0 + 1, 4, none⟩ = some (.int .i64 c.fr) := hr1.cell (i := 4) (by simp)
        have y5 : wz.cell? ⟨n0 + 1, 5, none⟩ = some (.int .i64 c.to) := hr1.cell (i := 5) (by simp)
        have y6 : wz.cell? ⟨n0 + 1, 6, none⟩ = some (.int .i64 c.mo) := hr1.cell (i := 6) (by simp)
        have y7 : wz.cell? ⟨n0 + 1, 7, none⟩ = some (.int .i64 c.e) := hr1.cell (i := 7) (by simp)
        have y8 : wz.cell? ⟨n0 + 1, 8, none⟩ = some (.slice B8 NO D8) := hr1.cell (i := 8) (by simp)
        have y9 : wz.cell? ⟨n0 + 1, 9, none⟩ = some (.slice B9 NK D9) := hr1.cell (i := 9) (by simp)
        clear hr0 hr1 hbz hwz hn0 hHeld hd0 hd1 hd2
        have hsd : Same.sameB c.data c.data = true := decide_eq_true rfl
        have hso : Same.sameB c.out c.out = true := decide_eq_true rfl
        have HSD := Lib.hid hsd
        have HSO := Lib.hid hso
        clear hsd hso
        go_upto_region 7 with fail
        go_wp2_with fail
        refine (Same.sameC c.data c.data _ _ _ (HP.out _ HBZ.out).1 (HP.out _ HBZ.out).2.1).mono ?_
        rintro _ wq ⟨rfl, k1, rfl⟩
        rw [HSD.out]
        go_wp2_with fail
        refine (Same.sameC c.out c.out _ _ _ (HP.out _ (HBZ.out.trans (Go.Mem.below_drewN _ _ _))).2.2.1 (HP.out _ (HBZ.out.trans (Go.Mem.below_drewN _ _ _))).2.2.2.1).mono ?_
        rintro _ wq ⟨rfl, k2, rfl⟩
        rw [HSO.out]
        go_wp2_with fail
        go_loopw [8] (fun d w9 => ∃ k : Nat, k ≤ NK ∧ d = .int .i64 k ∧ ∃ m, w9 = wz.drewN m) (fun d _ => NK - (intOf d).toNat)
        case atStart => exact ⟨0, Nat.zero_le _, rfl, _, rfl⟩
        case round =>
          obtain ⟨k, hk, rfl, m, rfl⟩ := hrel
          by_cases hkt : k < NK
          · have hkl : k < c.keys.length := by rw [HNK.out]; exact hkt
            obtain ⟨e1, p1, rfl, z1⟩ := Strs.at (HP.out _ HBZ.out).2.2.2.2.1 hkl
            obtain ⟨e2, p2, rfl, z2⟩ := Strs.at (HP.out _ HBZ.out).2.2.2.2.2 hkl
            obtain ⟨key, hkey⟩ : ∃ z, c.keys[k] = z := ⟨_, rfl⟩
            rw [hkey] at z1 z2
            have r1 : (0 : Int) ≤ (k : Int) := by omega
            have r4 : NK ≤ 50 := HNK50.out
            have r2 : (k : Int) < (NK : Int) := by omega
            have r3 : (key.toList != key.toList) = false := by simp
            clear hkl hkey
            go_wp2
            go_quiet (fail)
            go_wp2
            go_roundw
            case rel => exact ⟨k + 1, by omega, by go_num, _, rfl⟩
            case measure => simp [intOf]; omega
          · obtain rfl : k = NK := by omega
            go_wp2
            go_roundw
            case rel => exact ⟨i + 1, by omega, by go_num, HB.out.trans ((HBZ.out.trans (Go.Mem.below_drewN _ _ _)).mono HB.out.size)⟩
            case measure => simp [intOf]; omega
      · go_simp
        have hd1 := hd0.alloc hd0.size (.cells #[.int .i64 0, .int .i64 0, .string ⟨#[]⟩, .slice none 0 0, .int .i64 0, .int .i64 0, .int .i64 0, .int .i64 0, .slice none 0 0, .slice none 0 0] TCall)
        have hHeld := hd1
        refine hK.out _ _ (HeldT.of hHeld) (fun _ => ?_)
        clear hK K
        try simp only [Act.put, List.setIfInBounds_toArray, List.set_cons_zero, List.set_cons_succ]
        have hd2 := hd1.alloc hd1.size (.cells #[.int .i64 0, .int .i64 0, .string ⟨#[]⟩, .slice none 0 0, .int .i64 0, .int .i64 0, .int .i64 0, .int .i64 0, .slice none 0 0, .slice none 0 0] TCall)
        refine wpAnyT_ready (rs := [8]) (by kernel_rfl) (by simp) ?_
        refine AllReadyT.cons (o := ?oiz13) ?h1z13 (fun K hK => ?_) ?morez13
        case h1z13 => (simp only [List.getElem?_toArray, List.getElem?_cons_succ, List.getElem?_cons_zero]; rfl)
        case morez13 => exact AllReadyT.nil
        go_simp
        have hHeld := hd2
        refine hK.out _ _ (HeldT.of hHeld) (fun _ => ?_)
        clear hK K
        try simp only [Act.put, List.setIfInBounds_toArray, List.set_cons_zero, List.set_cons_succ]
        refine wpAnyT_ready (rs := [10]) (by kernel_rfl) (by simp) ?_
        refine AllReadyT.cons (o := ?oiz14) ?h1z14 (fun K hK => ?_) ?morez14
        case h1z14 => (simp only [List.getElem?_toArray, List.getElem?_cons_succ, List.getElem?_cons_zero]; rfl)
        case morez14 => exact AllReadyT.nil
        go_simp
        have hHeld := ((((Below.refl wr.heap.size wr).alloc (Nat.le_refl _) (.cells #[.int .i64 0, .int .i64 0, .string ⟨#[]⟩, .slice none 0 0, .int .i64 0, .int .i64 0, .int .i64 0, .int .i64 0, .slice none 0 0, .slice none 0 0] TCall)).alloc (by simp) (.cells #[.int .i64 c.task, .int .i64 c.op, .string c.key, .slice A3 ND C3, .int .i64 c.fr, .int .i64 c.to, .int .i64 c.mo, .int .i64 c.e, .slice A8 NO C8, .slice A9 NK C9] TCall)).drew)
        refine hK.out _ _ (HeldT.of hHeld) (fun _ => ?_)
        clear hK K
        try simp only [Act.put, List.setIfInBounds_toArray, List.set_cons_zero, List.set_cons_succ]
        refine wpAnyT_ready (rs := [11]) (by kernel_rfl) (by simp) ?_
        refine AllReadyT.cons (o := ?oiz15) ?h1z15 (fun K hK => ?_) ?morez15
        case h1z15 => (simp only [List.getElem?_toArray, List.getElem?_cons_succ, List.getElem?_cons_zero]; rfl)
        case morez15 => exact AllReadyT.nil
        go_simp
        refine hK.out _ _ (HeldT.over (by kernel_rfl)) (fun _ => ?_)
        clear hK K
        try simp only [Act.put, List.setIfInBounds_toArray, List.set_cons_zero, List.set_cons_succ]
        refine wpAnyT_done (by kernel_rfl) ?_ _
        refine NoPanic.normal ?_
        obtain ⟨hr0, hr1, hbz⟩ := two_rows wr #[Value.int .i64 c.task, .int .i64 c.op, .string c.key, .slice B3 ND D3, .int .i64 c.fr, .int .i64 c.to, .int .i64 c.mo, .int .i64 c.e, .slice B8 NO D8, .slice B9 NK D9] #[Value.int .i64 c.task, .int .i64 c.op, .string c.key, .slice A3 ND C3, .int .i64 c.fr, .int .i64 c.to, .int .i64 c.mo, .int .i64 c.e, .slice A8 NO C8, .slice A9 NK C9] TCall
        obtain ⟨wz, hwz⟩ : ∃ wz, ((wr.alloc (.cells #[.int .i64 c.task, .int .i64 c.op, .string c.key, .slice B3 ND D3, .int .i64 c.fr, .int .i64 c.to, .int .i64 c.mo, .int .i64 c.e, .slice B8 NO D8, .slice B9 NK D9] TCall)).alloc (.cells #[.int .i64 c.task, .int .i64 c.op, .string c.key, .slice A3 ND C3, .int .i64 c.fr, .int .i64 c.to, .int .i64 c.mo, .int .i64 c.e, .slice A8 NO C8, .slice A9 NK C9] TCall)).drew = wz := ⟨_, rfl⟩
        rw [hwz] at hr0 hr1 hbz ⊢
        have HBZ := Lib.hid hbz
        obtain ⟨n0, hn0⟩ : ∃ n0, wr.heap.size = n0 := ⟨_, rfl⟩
        rw [hn0] at hr0 hr1 ⊢
        have x0 : wz.cell? ⟨n0 + 1, 0, none⟩ = some (.int .i64 c.task) := hr1.cell (i := 0) (by simp)
        have x1 : wz.cell? ⟨n0 + 1, 1, none⟩ = some (.int .i64 c.op) := hr1.cell (i := 1) (by simp)
        have x2 : wz.cell? ⟨n0 + 1, 2, none⟩ = some (.string c.key) := hr1.cell (i := 2) (by simp)
        have x3 : wz.cell? ⟨n0 + 1, 3, none⟩ = some (.slice A3 ND C3) := hr1.cell (i := 3) (by simp)
        have x4 : wz.cell? ⟨n0 + 1, 4, none⟩ = some (.int .i64 c.fr) := hr1.cell (i := 4) (by simp)
        have x5 : wz.cell? ⟨n0 + 1, 5, none⟩ = some (.int .i64 c.to) := hr1.cell (i := 5) (by simp)
        have x6 : wz.cell? ⟨n0 + 1, 6, none⟩ = some (.int .i64 c.mo) := hr1.cell (i := 6) (by simp)
        have x7 : wz.cell? ⟨n0 + 1, 7, none⟩ = some (.int .i64 c.e) := hr1.cell (i := 7) (by simp)
        have x8 : wz.cell? ⟨n0 + 1, 8, none⟩ = some (.slice A8 NO C8) := hr1.cell (i := 8) (by simp)
        have x9 : wz.cell? ⟨n0 + 1, 9, none⟩ = some (.slice A9 NK C9) := hr1.cell (i := 9) (by simp)
        have y0 : wz.cell? ⟨n0, 0, none⟩ = some (.int .i64 c.task) := hr0.cell (i := 0) (by simp)
        have y1 : wz.cell? ⟨n0, 1, none⟩ = some (.int .i64 c.op) := hr0.cell (i := 1) (by simp)
        have y2 : wz.cell? ⟨n0, 2, none⟩ = some (.string c.key) := hr0.cell (i := 2) (by simp)
        have y3 : wz.cell? ⟨n0, 3, none⟩ = some (.slice B3 ND D3) := hr0.cell (i := 3) (by simp)
        have y4 : wz.cell? ⟨n0, 4, none⟩ = some (.int .i64 c.fr) := hr0.cell (i := 4) (by simp)
        have y5 : wz.cell? ⟨n0, 5, none⟩ = some (.int .i64 c.to) := hr0.cell (i := 5) (by simp)
        have y6 : wz.cell? ⟨n0, 6, none⟩ = some (.int .i64 c.mo) := hr0.cell (i := 6) (by simp)
        have y7 : wz.cell? ⟨n0, 7, none⟩ = some (.int .i64 c.e) := hr0.cell (i := 7) (by simp)
        have y8 : wz.cell? ⟨n0, 8, none⟩ = some (.slice B8 NO D8) := hr0.cell (i := 8) (by simp)
        have y9 : wz.cell? ⟨n0, 9, none⟩ = some (.slice B9 NK D9) := hr0.cell (i := 9) (by simp)
        clear hr0 hr1 hbz hwz hn0 hHeld hd0 hd1 hd2
        have hsd : Same.sameB c.data c.data = true := decide_eq_true rfl
        have hso : Same.sameB c.out c.out = true := decide_eq_true rfl
        have HSD := Lib.hid hsd
        have HSO := Lib.hid hso
        clear hsd hso
        go_upto_region 7 with fail
        go_wp2_with fail
        refine (Same.sameC c.data c.data _ _ _ (HP.out _ HBZ.out).1 (HP.out _ HBZ.out).2.1).mono ?_
        rintro _ wq ⟨rfl, k1, rfl⟩
        rw [HSD.out]
        go_wp2_with fail
        refine (Same.sameC c.out c.out _ _ _ (HP.out _ (HBZ.out.trans (Go.Mem.below_drewN _ _ _))).2.2.1 (HP.out _ (HBZ.out.trans (Go.Mem.below_drewN _ _ _))).2.2.2.1).mono ?_
        rintro _ wq ⟨rfl, k2, rfl⟩
        rw [HSO.out]
        go_wp2_with fail
        go_loopw [8] (fun d w9 => ∃ k : Nat, k ≤ NK ∧ d = .int .i64 k ∧ ∃ m, w9 = wz.drewN m) (fun d _ => NK - (intOf d).toNat)
        case atStart => exact ⟨0, Nat.zero_le _, rfl, _, rfl⟩
        case round =>
          obtain ⟨k, hk, rfl, m, rfl⟩ := hrel
          by_cases hkt : k < NK
          · have hkl : k < c.keys.length := by rw [HNK.out]; exact hkt
            obtain ⟨e1, p1, rfl, z1⟩ := Strs.at (HP.out _ HBZ.out).2.2.2.2.1 hkl
            obtain ⟨e2, p2, rfl, z2⟩ := Strs.at (HP.out _ HBZ.out).2.2.2.2.2 hkl
            obtain ⟨key, hkey⟩ : ∃ z, c.keys[k] = z := ⟨_, rfl⟩
            rw [hkey] at z1 z2
            have r1 : (0 : Int) ≤ (k : Int) := by omega
            have r4 : NK ≤ 50 := HNK50.out
            have r2 : (k : Int) < (NK : Int) := by omega
            have r3 : (key.toList != key.toList) = false := by simp
            clear hkl hkey
            go_wp2
            go_quiet (fail)
            go_wp2
            go_roundw
            case rel => exact ⟨k + 1, by omega, by go_num, _, rfl⟩
            case measure => simp [intOf]; omega
          · obtain rfl : k = NK := by omega
            go_wp2
            go_roundw
            case rel => exact ⟨i + 1, by omega, by go_num, HB.out.trans ((HBZ.out.trans (Go.Mem.below_drewN _ _ _)).mono HB.out.size)⟩
            case measure => simp [intOf]; omega
    · obtain rfl : i = N := by omega
      go_wp2
      go_ret
      exact ⟨rfl, HB.out⟩
end Go.Proofs.Ytcljpniknpgmpaa.Hst
