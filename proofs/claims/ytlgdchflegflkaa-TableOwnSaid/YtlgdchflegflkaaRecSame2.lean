/- The document's answer whether two records are the same, and whether one is small, as walks. -/
import Derived.Test.YtlgdchflegflkaaRecSame
import Derived.Test.YtlgdchflegflkaaRecUniq
namespace Go.Proofs.Ytlgdchflegflkaa.Rec
set_option linter.unusedVariables false
open Go.ChangeShapes Go.WideShapes Go.ChangeAt Go.RowKit
open Go.Mem RecM
theorem rec_eq {a b : RecD} (h0 : a.kind = b.kind) (h1 : a.id = b.id) (h2 : a.size = b.size) (h3 : a.key = b.key) (h4 : a.stripes = b.stripes) (h5 : a.objects = b.objects) (h6 : a.drives = b.drives) : a = b := by
  cases a; cases b; simp only at h0 h1 h2 h3 h4 h5 h6; rw [h0, h1, h2, h3, h4, h5, h6]
theorem eqi_yes {a b : Int} (h : a = b) : (a == b) = true := by rw [h]; simp
theorem eqi_no {a b : Int} (h : ¬ a = b) : (a == b) = false := by rw [beq_eq_false_iff_ne]; exact h
def Saw (W : World) (b : Bool) (e : Ending) (w' : World) : Prop := e = .returned (.bool b) ∧ Below W.heap.size W w'

set_option maxHeartbeats 1000000 in
theorem same_way0 {W : World} {r q : RecD} {As Ao Ad As2 Ao2 Ad2 : Option Addr} {Cs Co Cd Cs2 Co2 Cd2 : Nat} (h : RecIs W r As Ao Ad Cs Co Cd) (g : RecIs W q As2 Ao2 Ad2 Cs2 Co2 Cd2)  (e0 : ¬ r.kind = q.kind) :
    Calls Try.prog 27 #[recVal r As Ao Ad Cs Co Cd, recVal q As2 Ao2 Ad2 Cs2 Co2 Cd2] W (Saw W (eqB r q)) := by
  unfold recVal
  have hbw : Below W.heap.size W ((W.alloc (.cells #[.int .i64 r.kind, .int .i64 r.id, .int .i64 r.size, .string r.key, .slice As r.stripes.length Cs, .slice Ao r.objects.length Co, .slice Ad r.drives.length Cd] 36)).alloc (.cells #[.int .i64 q.kind, .int .i64 q.id, .int .i64 q.size, .string q.key, .slice As2 q.stripes.length Cs2, .slice Ao2 q.objects.length Co2, .slice Ad2 q.drives.length Cd2] 36)) := ((Below.refl _ _).alloc (Nat.le_refl _) _).alloc (by simp) _
  have H := Lib.hid (h.below hbw)
  have G := Lib.hid (g.below hbw)
  have HB := Lib.hid hbw
  have HE := Lib.hid (show eqB r q = false from eqB_no fun e => e0 (by rw [e]))
  have f0 := eqi_no e0
  clear h g hbw e0
  go_enter Try.func27, Try.ntmps27
  go_wp2_with fail
  go_ret
  exact ⟨by rw [HE.out]; rfl, HB.out⟩
set_option maxHeartbeats 1000000 in
theorem same_way1 {W : World} {r q : RecD} {As Ao Ad As2 Ao2 Ad2 : Option Addr} {Cs Co Cd Cs2 Co2 Cd2 : Nat} (h : RecIs W r As Ao Ad Cs Co Cd) (g : RecIs W q As2 Ao2 Ad2 Cs2 Co2 Cd2) (e0 : r.kind = q.kind) (e1 : ¬ r.id = q.id) :
    Calls Try.prog 27 #[recVal r As Ao Ad Cs Co Cd, recVal q As2 Ao2 Ad2 Cs2 Co2 Cd2] W (Saw W (eqB r q)) := by
  unfold recVal
  have hbw : Below W.heap.size W ((W.alloc (.cells #[.int .i64 r.kind, .int .i64 r.id, .int .i64 r.size, .string r.key, .slice As r.stripes.length Cs, .slice Ao r.objects.length Co, .slice Ad r.drives.length Cd] 36)).alloc (.cells #[.int .i64 q.kind, .int .i64 q.id, .int .i64 q.size, .string q.key, .slice As2 q.stripes.length Cs2, .slice Ao2 q.objects.length Co2, .slice Ad2 q.drives.length Cd2] 36)) := ((Below.refl _ _).alloc (Nat.le_refl _) _).alloc (by simp) _
  have H := Lib.hid (h.below hbw)
  have G := Lib.hid (g.below hbw)
  have HB := Lib.hid hbw
  have HE := Lib.hid (show eqB r q = false from eqB_no fun e => e1 (by rw [e]))
  have f0 := eqi_yes e0
  have f1 := eqi_no e1
  clear h g hbw e0 e1
  go_enter Try.func27, Try.ntmps27
  go_wp2_with fail
  go_ret
  exact ⟨by rw [HE.out]; rfl, HB.out⟩
set_option maxHeartbeats 1000000 in
theorem same_way2 {W : World} {r q : RecD} {As Ao Ad As2 Ao2 Ad2 : Option Addr} {Cs Co Cd Cs2 Co2 Cd2 : Nat} (h : RecIs W r As Ao Ad Cs Co Cd) (g : RecIs W q As2 Ao2 Ad2 Cs2 Co2 Cd2) (e0 : r.kind = q.kind) (e1 : r.id = q.id) (e2 : ¬ r.size = q.size) :
    Calls Try.prog 27 #[recVal r As Ao Ad Cs Co Cd, recVal q As2 Ao2 Ad2 Cs2 Co2 Cd2] W (Saw W (eqB r q)) := by
  unfold recVal
  have hbw : Below W.heap.size W ((W.alloc (.cells #[.int .i64 r.kind, .int .i64 r.id, .int .i64 r.size, .string r.key, .slice As r.stripes.length Cs, .slice Ao r.objects.length Co, .slice Ad r.drives.length Cd] 36)).alloc (.cells #[.int .i64 q.kind, .int .i64 q.id, .int .i64 q.size, .string q.key, .slice As2 q.stripes.length Cs2, .slice Ao2 q.objects.length Co2, .slice Ad2 q.drives.length Cd2] 36)) := ((Below.refl _ _).alloc (Nat.le_refl _) _).alloc (by simp) _
  have H := Lib.hid (h.below hbw)
  have G := Lib.hid (g.below hbw)
  have HB := Lib.hid hbw
  have HE := Lib.hid (show eqB r q = false from eqB_no fun e => e2 (by rw [e]))
  have f0 := eqi_yes e0
  have f1 := eqi_yes e1
  have f2 := eqi_no e2
  clear h g hbw e0 e1 e2
  go_enter Try.func27, Try.ntmps27
  go_wp2_with fail
  go_ret
  exact ⟨by rw [HE.out]; rfl, HB.out⟩
set_option maxHeartbeats 1000000 in
theorem same_way3 {W : World} {r q : RecD} {As Ao Ad As2 Ao2 Ad2 : Option Addr} {Cs Co Cd Cs2 Co2 Cd2 : Nat} (h : RecIs W r As Ao Ad Cs Co Cd) (g : RecIs W q As2 Ao2 Ad2 Cs2 Co2 Cd2) (e0 : r.kind = q.kind) (e1 : r.id = q.id) (e2 : r.size = q.size) (e3 : ¬ r.key = q.key) :
    Calls Try.prog 27 #[recVal r As Ao Ad Cs Co Cd, recVal q As2 Ao2 Ad2 Cs2 Co2 Cd2] W (Saw W (eqB r q)) := by
  unfold recVal
  have hbw : Below W.heap.size W ((W.alloc (.cells #[.int .i64 r.kind, .int .i64 r.id, .int .i64 r.size, .string r.key, .slice As r.stripes.length Cs, .slice Ao r.objects.length Co, .slice Ad r.drives.length Cd] 36)).alloc (.cells #[.int .i64 q.kind, .int .i64 q.id, .int .i64 q.size, .string q.key, .slice As2 q.stripes.length Cs2, .slice Ao2 q.objects.length Co2, .slice Ad2 q.drives.length Cd2] 36)) := ((Below.refl _ _).alloc (Nat.le_refl _) _).alloc (by simp) _
  have H := Lib.hid (h.below hbw)
  have G := Lib.hid (g.below hbw)
  have HB := Lib.hid hbw
  have HE := Lib.hid (show eqB r q = false from eqB_no fun e => e3 (by rw [e]))
  have f0 := eqi_yes e0
  have f1 := eqi_yes e1
  have f2 := eqi_yes e2
  have f3 := str_not e3
  clear h g hbw e0 e1 e2 e3
  go_enter Try.func27, Try.ntmps27
  go_wp2_with fail
  go_ret
  exact ⟨by rw [HE.out]; rfl, HB.out⟩
set_option maxHeartbeats 1000000 in
theorem same_way4 {W : World} {r q : RecD} {As Ao Ad As2 Ao2 Ad2 : Option Addr} {Cs Co Cd Cs2 Co2 Cd2 : Nat} (h : RecIs W r As Ao Ad Cs Co Cd) (g : RecIs W q As2 Ao2 Ad2 Cs2 Co2 Cd2) (e0 : r.kind = q.kind) (e1 : r.id = q.id) (e2 : r.size = q.size) (e3 : r.key = q.key) (e4 : ¬ r.stripes = q.stripes) :
    Calls Try.prog 27 #[recVal r As Ao Ad Cs Co Cd, recVal q As2 Ao2 Ad2 Cs2 Co2 Cd2] W (Saw W (eqB r q)) := by
  unfold recVal
  have hbw : Below W.heap.size W ((W.alloc (.cells #[.int .i64 r.kind, .int .i64 r.id, .int .i64 r.size, .string r.key, .slice As r.stripes.length Cs, .slice Ao r.objects.length Co, .slice Ad r.drives.length Cd] 36)).alloc (.cells #[.int .i64 q.kind, .int .i64 q.id, .int .i64 q.size, .string q.key, .slice As2 q.stripes.length Cs2, .slice Ao2 q.objects.length Co2, .slice Ad2 q.drives.length Cd2] 36)) := ((Below.refl _ _).alloc (Nat.le_refl _) _).alloc (by simp) _
  have H := Lib.hid (h.below hbw)
  have G := Lib.hid (g.below hbw)
  have HB := Lib.hid hbw
  have HE := Lib.hid (show eqB r q = false from eqB_no fun e => e4 (by rw [e]))
  have f0 := eqi_yes e0
  have f1 := eqi_yes e1
  have f2 := eqi_yes e2
  have f3 := str_same e3
  have f4 := Lib.hid (eqB_no e4)
  clear h g hbw e0 e1 e2 e3 e4
  go_enter Try.func27, Try.ntmps27
  go_wp2_with fail
  refine (stripesC r.stripes q.stripes _ _ _ H.out.s G.out.s).mono ?_
  rintro _ _ ⟨rfl, n0, rfl⟩
  rw [f4.out]
  go_wp2_with fail
  go_ret
  exact ⟨by rw [HE.out]; rfl, HB.out.trans (below_drewN _ _ _)⟩
set_option maxHeartbeats 1000000 in
theorem same_way5 {W : World} {r q : RecD} {As Ao Ad As2 Ao2 Ad2 : Option Addr} {Cs Co Cd Cs2 Co2 Cd2 : Nat} (h : RecIs W r As Ao Ad Cs Co Cd) (g : RecIs W q As2 Ao2 Ad2 Cs2 Co2 Cd2) (e0 : r.kind = q.kind) (e1 : r.id = q.id) (e2 : r.size = q.size) (e3 : r.key = q.key) (e4 : r.stripes = q.stripes) (e5 : ¬ r.objects = q.objects) :
    Calls Try.prog 27 #[recVal r As Ao Ad Cs Co Cd, recVal q As2 Ao2 Ad2 Cs2 Co2 Cd2] W (Saw W (eqB r q)) := by
  unfold recVal
  have hbw : Below W.heap.size W ((W.alloc (.cells #[.int .i64 r.kind, .int .i64 r.id, .int .i64 r.size, .string r.key, .slice As r.stripes.length Cs, .slice Ao r.objects.length Co, .slice Ad r.drives.length Cd] 36)).alloc (.cells #[.int .i64 q.kind, .int .i64 q.id, .int .i64 q.size, .string q.key, .slice As2 q.stripes.length Cs2, .slice Ao2 q.objects.length Co2, .slice Ad2 q.drives.length Cd2] 36)) := ((Below.refl _ _).alloc (Nat.le_refl _) _).alloc (by simp) _
  have H := Lib.hid (h.below hbw)
  have G := Lib.hid (g.below hbw)
  have HB := Lib.hid hbw
  have HE := Lib.hid (show eqB r q = false from eqB_no fun e => e5 (by rw [e]))
  have f0 := eqi_yes e0
  have f1 := eqi_yes e1
  have f2 := eqi_yes e2
  have f3 := str_same e3
  have f4 := Lib.hid (eqB_yes e4)
  have f5 := Lib.hid (eqB_no e5)
  clear h g hbw e0 e1 e2 e3 e4 e5
  go_enter Try.func27, Try.ntmps27
  go_wp2_with fail
  refine (stripesC r.stripes q.stripes _ _ _ H.out.s G.out.s).mono ?_
  rintro _ _ ⟨rfl, n0, rfl⟩
  rw [f4.out]
  go_wp2_with fail
  refine (objectsC r.objects q.objects _ _ _ (H.out.o.drewN _) (G.out.o.drewN _)).mono ?_
  rintro _ _ ⟨rfl, n1, rfl⟩
  rw [f5.out]
  rw [World.drewN_drewN]
  go_wp2_with fail
  go_ret
  exact ⟨by rw [HE.out]; rfl, HB.out.trans (below_drewN _ _ _)⟩
set_option maxHeartbeats 1000000 in
theorem same_way6 {W : World} {r q : RecD} {As Ao Ad As2 Ao2 Ad2 : Option Addr} {Cs Co Cd Cs2 Co2 Cd2 : Nat} (h : RecIs W r As Ao Ad Cs Co Cd) (g : RecIs W q As2 Ao2 Ad2 Cs2 Co2 Cd2) (e0 : r.kind = q.kind) (e1 : r.id = q.id) (e2 : r.size = q.size) (e3 : r.key = q.key) (e4 : r.stripes = q.stripes) (e5 : r.objects = q.objects) (e6 : ¬ r.drives = q.drives) :
    Calls Try.prog 27 #[recVal r As Ao Ad Cs Co Cd, recVal q As2 Ao2 Ad2 Cs2 Co2 Cd2] W (Saw W (eqB r q)) := by
  unfold recVal
  have hbw : Below W.heap.size W ((W.alloc (.cells #[.int .i64 r.kind, .int .i64 r.id, .int .i64 r.size, .string r.key, .slice As r.stripes.length Cs, .slice Ao r.objects.length Co, .slice Ad r.drives.length Cd] 36)).alloc (.cells #[.int .i64 q.kind, .int .i64 q.id, .int .i64 q.size, .string q.key, .slice As2 q.stripes.length Cs2, .slice Ao2 q.objects.length Co2, .slice Ad2 q.drives.length Cd2] 36)) := ((Below.refl _ _).alloc (Nat.le_refl _) _).alloc (by simp) _
  have H := Lib.hid (h.below hbw)
  have G := Lib.hid (g.below hbw)
  have HB := Lib.hid hbw
  have HE := Lib.hid (show eqB r q = false from eqB_no fun e => e6 (by rw [e]))
  have f0 := eqi_yes e0
  have f1 := eqi_yes e1
  have f2 := eqi_yes e2
  have f3 := str_same e3
  have f4 := Lib.hid (eqB_yes e4)
  have f5 := Lib.hid (eqB_yes e5)
  have f6 := Lib.hid (eqB_no e6)
  clear h g hbw e0 e1 e2 e3 e4 e5 e6
  go_enter Try.func27, Try.ntmps27
  go_wp2_with fail
  refine (stripesC r.stripes q.stripes _ _ _ H.out.s G.out.s).mono ?_
  rintro _ _ ⟨rfl, n0, rfl⟩
  rw [f4.out]
  go_wp2_with fail
  refine (objectsC r.objects q.objects _ _ _ (H.out.o.drewN _) (G.out.o.drewN _)).mono ?_
  rintro _ _ ⟨rfl, n1, rfl⟩
  rw [f5.out]
  rw [World.drewN_drewN]
  go_wp2_with fail
  refine (intsC r.drives q.drives _ _ _ (H.out.d.drewN _) (G.out.d.drewN _)).mono ?_
  rintro _ _ ⟨rfl, n2, rfl⟩
  rw [f6.out]
  rw [World.drewN_drewN]
  go_wp2_with fail
  go_ret
  exact ⟨by rw [HE.out]; rfl, HB.out.trans (below_drewN _ _ _)⟩
set_option maxHeartbeats 1000000 in
theorem same_way7 {W : World} {r q : RecD} {As Ao Ad As2 Ao2 Ad2 : Option Addr} {Cs Co Cd Cs2 Co2 Cd2 : Nat} (h : RecIs W r As Ao Ad Cs Co Cd) (g : RecIs W q As2 Ao2 Ad2 Cs2 Co2 Cd2) (e0 : r.kind = q.kind) (e1 : r.id = q.id) (e2 : r.size = q.size) (e3 : r.key = q.key) (e4 : r.stripes = q.stripes) (e5 : r.objects = q.objects) (e6 : r.drives = q.drives) :
    Calls Try.prog 27 #[recVal r As Ao Ad Cs Co Cd, recVal q As2 Ao2 Ad2 Cs2 Co2 Cd2] W (Saw W (eqB r q)) := by
  unfold recVal
  have hbw : Below W.heap.size W ((W.alloc (.cells #[.int .i64 r.kind, .int .i64 r.id, .int .i64 r.size, .string r.key, .slice As r.stripes.length Cs, .slice Ao r.objects.length Co, .slice Ad r.drives.length Cd] 36)).alloc (.cells #[.int .i64 q.kind, .int .i64 q.id, .int .i64 q.size, .string q.key, .slice As2 q.stripes.length Cs2, .slice Ao2 q.objects.length Co2, .slice Ad2 q.drives.length Cd2] 36)) := ((Below.refl _ _).alloc (Nat.le_refl _) _).alloc (by simp) _
  have H := Lib.hid (h.below hbw)
  have G := Lib.hid (g.below hbw)
  have HB := Lib.hid hbw
  have HE := Lib.hid (show eqB r q = true from eqB_yes (rec_eq e0 e1 e2 e3 e4 e5 e6))
  have f0 := eqi_yes e0
  have f1 := eqi_yes e1
  have f2 := eqi_yes e2
  have f3 := str_same e3
  have f4 := Lib.hid (eqB_yes e4)
  have f5 := Lib.hid (eqB_yes e5)
  have f6 := Lib.hid (eqB_yes e6)
  clear h g hbw e0 e1 e2 e3 e4 e5 e6
  go_enter Try.func27, Try.ntmps27
  go_wp2_with fail
  refine (stripesC r.stripes q.stripes _ _ _ H.out.s G.out.s).mono ?_
  rintro _ _ ⟨rfl, n0, rfl⟩
  rw [f4.out]
  go_wp2_with fail
  refine (objectsC r.objects q.objects _ _ _ (H.out.o.drewN _) (G.out.o.drewN _)).mono ?_
  rintro _ _ ⟨rfl, n1, rfl⟩
  rw [f5.out]
  rw [World.drewN_drewN]
  go_wp2_with fail
  refine (intsC r.drives q.drives _ _ _ (H.out.d.drewN _) (G.out.d.drewN _)).mono ?_
  rintro _ _ ⟨rfl, n2, rfl⟩
  rw [f6.out]
  rw [World.drewN_drewN]
  go_wp2_with fail
  go_ret
  exact ⟨by rw [HE.out]; rfl, HB.out.trans (below_drewN _ _ _)⟩
theorem refSame {W : World} {V U : Value} {r q : RecD} (h : RecV W V r) (g : RecV W U q) :
    Calls Try.prog 27 #[V, U] W (Saw W (eqB r q)) := by
  obtain ⟨As, Ao, Ad, Cs, Co, Cd, rfl, h⟩ := h
  obtain ⟨As2, Ao2, Ad2, Cs2, Co2, Cd2, rfl, g⟩ := g
  by_cases e0 : r.kind = q.kind
  rotate_left
  · exact same_way0 h g e0
  by_cases e1 : r.id = q.id
  rotate_left
  · exact same_way1 h g e0 e1
  by_cases e2 : r.size = q.size
  rotate_left
  · exact same_way2 h g e0 e1 e2
  by_cases e3 : r.key = q.key
  rotate_left
  · exact same_way3 h g e0 e1 e2 e3
  by_cases e4 : r.stripes = q.stripes
  rotate_left
  · exact same_way4 h g e0 e1 e2 e3 e4
  by_cases e5 : r.objects = q.objects
  rotate_left
  · exact same_way5 h g e0 e1 e2 e3 e4 e5
  by_cases e6 : r.drives = q.drives
  rotate_left
  · exact same_way6 h g e0 e1 e2 e3 e4 e5 e6
  exact same_way7 h g e0 e1 e2 e3 e4 e5 e6
end Go.Proofs.Ytlgdchflegflkaa.Rec
