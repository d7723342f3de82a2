import Derived.Test.YthomeenmcajmdaaGreatDoorBun06
import Derived.Test.YthomeenmcajmdaaGreatDoorBun08
namespace Go.Proofs.YthomeenmcajmdaaGreatDoor
open Go.RowKit Go.Maps
structure Tsk where
  k : Int
  p : Int
  l : List Prf
  r : Int
  c : Int
  xs : List Int
  r2 : Int
  c2 : Int
  ys : List Int
  bs : List Int
def Tsk.zero : Tsk := ⟨0, 0, [], 0, 0, [], 0, 0, [], []⟩
def taskV (T : Tsk) (pv u u2 bv : Value) : Value := .agg #[.int .i64 T.k, .int .u64 T.p, pv, .int .i64 T.r, .int .i64 T.c, u, .int .i64 T.r2, .int .i64 T.c2, u2, bv]
structure TkR (w : World) (T : Tsk) (pv u u2 bv : Value) : Prop where
  pr : Proofs w pv T.l
  i1 : Ints .u64 w u T.xs
  i2 : Ints .u64 w u2 T.ys
  i3 : Ints .u64 w bv T.bs
theorem Proofs.ext' {w w' : World} {v : Value} {l : List Prf} (h : Proofs w v l) (x : Ext w w') : Proofs w' v l := h.ext x
theorem TkR.ext {w w' : World} {T : Tsk} {pv u u2 bv : Value} (h : TkR w T pv u u2 bv) (x : Ext w w') : TkR w' T pv u u2 bv := ⟨h.pr.ext x, h.i1.ext x, h.i2.ext x, h.i3.ext x⟩
theorem TkR.zero (w : World) : TkR w Tsk.zero (.slice none 0 0) (.slice none 0 0) (.slice none 0 0) (.slice none 0 0) := ⟨Proofs.nil, Ints.nil, Ints.nil, Ints.nil⟩
structure TkZ (T : Tsk) : Prop where
  p0 : 0 ≤ T.p
  p1 : T.p ≤ 18446744073709551615
  l : ∀ f ∈ T.l, f.Ok
  x : U64s T.xs
  y : U64s T.ys
  b : U64s T.bs
theorem TkZ.zero : TkZ Tsk.zero := ⟨by simp [Tsk.zero], by simp [Tsk.zero], by simp [Tsk.zero], by simp [U64s, Tsk.zero], by simp [U64s, Tsk.zero], by simp [U64s, Tsk.zero]⟩
def fitsB (T : Tsk) : Bool :=
  if T.k = 1 then matB T.p T.r2 T.c2 T.ys && decide (T.r2 = T.c)
  else if T.k = 2 ∨ T.k = 5 then decide (T.r = T.c)
  else if T.k = 3 ∨ T.k = 4 then true
  else if T.k = 6 then decide (T.r = T.c) && decide (4 * T.r + 1 < T.p)
  else if T.k = 7 then decide ((T.bs.length : Int) = T.r) && hasB T.p T.bs
  else false
def spareB (T : Tsk) : Bool := (decide (T.r2 = 0) && decide (T.c2 = 0) && decide (T.ys.length = 0) || decide (T.k = 1)) && (decide (T.bs.length = 0) || decide (T.k = 7))
def taskB (T : Tsk) : Bool := matB T.p T.r T.c T.xs && (fitsB T && (spareB T && showsB T.l T.p))
theorem taskB_kind {T : Tsk} (h : taskB T = true) : T.k = 1 ∨ T.k = 2 ∨ T.k = 3 ∨ T.k = 4 ∨ T.k = 5 ∨ T.k = 6 ∨ T.k = 7 := by
  simp only [taskB, Bool.and_eq_true] at h
  have h2 := h.2.1
  unfold fitsB at h2
  by_cases h1 : T.k = 1
  · omega
  rw [if_neg h1] at h2
  by_cases h3 : T.k = 2 ∨ T.k = 5
  · omega
  rw [if_neg h3] at h2
  by_cases h4 : T.k = 3 ∨ T.k = 4
  · omega
  rw [if_neg h4] at h2
  by_cases h5 : T.k = 6
  · omega
  rw [if_neg h5] at h2
  by_cases h6 : T.k = 7
  · omega
  rw [if_neg h6] at h2
  cases h2
theorem Blk.at10 {w : World} {g : Nat} {ty : TypeId} {a b c d e f h i j k : Value} (hB : Blk w g ty #[a, b, c, d, e, f, h, i, j, k]) :
    w.cell? ⟨g, 0, none⟩ = some a ∧ w.cell? ⟨g, 1, none⟩ = some b ∧ w.cell? ⟨g, 2, none⟩ = some c ∧ w.cell? ⟨g, 3, none⟩ = some d ∧ w.cell? ⟨g, 4, none⟩ = some e ∧
    w.cell? ⟨g, 5, none⟩ = some f ∧ w.cell? ⟨g, 6, none⟩ = some h ∧ w.cell? ⟨g, 7, none⟩ = some i ∧ w.cell? ⟨g, 8, none⟩ = some j ∧ w.cell? ⟨g, 9, none⟩ = some k :=
  ⟨hB.cell 0, hB.cell 1, hB.cell 2, hB.cell 3, hB.cell 4, hB.cell 5, hB.cell 6, hB.cell 7, hB.cell 8, hB.cell 9⟩
end Go.Proofs.YthomeenmcajmdaaGreatDoor
namespace Go.Proofs.YthomeenmcajmdaaGreatDoor
open Go.RowKit Go.Maps
set_option maxHeartbeats 1000000 in
theorem tkSpare (T : Tsk) (pv u u2 bv : Value) (w : World) (h : TkR w T pv u u2 bv) : Calls Tryz.prog 29 #[taskV T pv u u2 bv] w (Ret (.bool (spareB T)) w) := by
  obtain ⟨R, hR⟩ : ∃ R, spareB T = R := ⟨_, rfl⟩
  rw [hR]
  obtain ⟨⟨pa, pc, rfl, -, -, -⟩, ⟨ua, uc, rfl, -, -, -⟩, ⟨va, vc, rfl, v1, v2, -⟩, ⟨ba, bc, rfl, b1, b2, -⟩⟩ := h
  obtain ⟨k, p, l, r, c, xs, r2, c2, ys, bs⟩ := T
  simp only [taskV, spareB] at *
  obtain ⟨L2, hL2⟩ : ∃ L2, ys.length = L2 := ⟨_, rfl⟩
  obtain ⟨L3, hL3⟩ : ∃ L3, bs.length = L3 := ⟨_, rfl⟩
  obtain ⟨L1, hL1⟩ : ∃ L1, xs.length = L1 := ⟨_, rfl⟩
  obtain ⟨L0, hL0⟩ : ∃ L0, l.length = L0 := ⟨_, rfl⟩
  rw [hL2, hL3] at hR
  rw [hL2] at v1
  rw [hL3] at b1
  rw [hL0, hL1, hL2, hL3]
  clear hL0 hL1 hL2 hL3
  have hA := hid (Blk.new w 28 #[.int .i64 k, .int .u64 p, .slice pa L0 pc, .int .i64 r, .int .i64 c, .slice ua L1 uc, .int .i64 r2, .int .i64 c2, .slice va L2 vc, .slice ba L3 bc])
  obtain ⟨a0, a1, a2, a3, a4, a5, a6, a7, a8, a9⟩ := hA.out.at10
  have e1 : decide (r2 = 0) = (r2 == 0) := by rw [Bool.eq_iff_iff]; simp
  have e2 : decide (c2 = 0) = (c2 == 0) := by rw [Bool.eq_iff_iff]; simp
  have e3 : decide (L2 = 0) = ((L2 : Int) == 0) := by rw [Bool.eq_iff_iff]; simp
  have e4 : decide (k = 1) = (k == 1) := by rw [Bool.eq_iff_iff]; simp
  have e5 : decide (L3 = 0) = ((L3 : Int) == 0) := by rw [Bool.eq_iff_iff]; simp
  have e6 : decide (k = 7) = (k == 7) := by rw [Bool.eq_iff_iff]; simp
  rw [e1, e2, e3, e4, e5, e6] at hR
  clear e1 e2 e3 e4 e5 e6
  cases q1 : (r2 == 0) <;> cases q2 : (c2 == 0) <;> cases q3 : ((L2 : Int) == 0) <;> cases q4 : (k == 1) <;> cases q5 : ((L3 : Int) == 0) <;> cases q6 : (k == 7) <;> rw [q1, q2, q3, q4, q5, q6] at hR <;> subst hR <;>
    (go_enter Tryz.func29, Tryz.ntmps29
     go_wp2_with fail
     all_goals (go_ret; exact ⟨rfl, (by repeat (first | exact Ext.refl _ | assumption | refine Ext.drew ?_ | refine Ext.drewN ?_ _ | refine Ext.alloc ?_ _ | refine Ext.trans ?_ (by assumption)))⟩))
end Go.Proofs.YthomeenmcajmdaaGreatDoor
namespace Go.Proofs.YthomeenmcajmdaaGreatDoor
open Go.RowKit Go.Maps
set_option maxHeartbeats 1000000 in
theorem tkFits (T : Tsk) (pv u u2 bv : Value) (w : World) (h : TkR w T pv u u2 bv) (hz : TkZ T) (hm : matB T.p T.r T.c T.xs = true) : Calls Tryz.prog 28 #[taskV T pv u u2 bv] w (Ret (.bool (fitsB T)) w) := by
  obtain ⟨R, hR⟩ : ∃ R, fitsB T = R := ⟨_, rfl⟩
  rw [hR]
  have hb := (matB_iff hz.x).1 hm
  have CM := hid fun (W : World) (hW : Ext w W) => mxRight T.p T.r2 T.c2 u2 T.ys W hz.p0 hz.p1 (h.i2.ext hW) hz.y
  have CH := hid fun (W : World) (hW : Ext w W) => has_any T.p bv T.bs W hz.p0 hz.p1 (h.i3.ext hW) hz.b
  obtain ⟨⟨pa, pc, rfl, -, -, -⟩, ⟨ua, uc, rfl, -, -, -⟩, ⟨va, vc, rfl, v1, v2, -⟩, ⟨ba, bc, rfl, b1, b2, -⟩⟩ := h
  have z0 := hz.p0; have z1 := hz.p1
  clear hz hm
  obtain ⟨k, p, l, r, c, xs, r2, c2, ys, bs⟩ := T
  simp only [taskV, fitsB] at *
  obtain ⟨-, -, m, n, rfl, rfl, m1, n1, -, -, -⟩ := hb
  obtain ⟨M2, hM2⟩ : ∃ M2, matB p r2 c2 ys = M2 := ⟨_, rfl⟩
  obtain ⟨H3, hH3⟩ : ∃ H3, hasB p bs = H3 := ⟨_, rfl⟩
  rw [hM2] at CM hR
  rw [hH3] at CH hR
  obtain ⟨L2, hL2⟩ : ∃ L2, ys.length = L2 := ⟨_, rfl⟩
  obtain ⟨L3, hL3⟩ : ∃ L3, bs.length = L3 := ⟨_, rfl⟩
  obtain ⟨L1, hL1⟩ : ∃ L1, xs.length = L1 := ⟨_, rfl⟩
  obtain ⟨L0, hL0⟩ : ∃ L0, l.length = L0 := ⟨_, rfl⟩
  rw [hL3] at hR b1 CH
  rw [hL2] at v1 CM
  rw [hL0, hL1, hL2, hL3]
  unfold matV at CM
  clear hL0 hL1 hL2 hL3 hM2 hH3
  have hA := hid (Blk.new w 28 #[.int .i64 k, .int .u64 p, .slice pa L0 pc, .int .i64 m, .int .i64 n, .slice ua L1 uc, .int .i64 r2, .int .i64 c2, .slice va L2 vc, .slice ba L3 bc])
  obtain ⟨a0, a1, a2, a3, a4, a5, a6, a7, a8, a9⟩ := hA.out.at10
  have e1 : decide (r2 = (n : Int)) = (r2 == (n : Int)) := by rw [Bool.eq_iff_iff]; simp
  have e2 : decide ((m : Int) = (n : Int)) = ((m : Int) == (n : Int)) := by rw [Bool.eq_iff_iff]; simp
  have e3 : decide ((L3 : Int) = (m : Int)) = ((L3 : Int) == (m : Int)) := by rw [Bool.eq_iff_iff]; simp
  rw [e1, e2, e3] at hR
  clear e1 e2 e3
  have w1 : IntKind.u64.wrap (m : Int) = m := by rw [u64_wrap]; omega
  have w2 : IntKind.u64.wrap (4 * (m : Int)) = 4 * m := by rw [u64_wrap]; omega
  have w3 : IntKind.u64.wrap (4 * (m : Int) + 1) = 4 * m + 1 := by rw [u64_wrap]; omega
  by_cases k1 : k = 1
  · subst k1
    rw [if_pos rfl] at hR
    cases M2 with
    | false =>
      subst hR
      go_enter Tryz.func28, Tryz.ntmps28
      go_wp2_with (go_at_call 27; refine (CM.out _ (by repeat (first | exact Ext.refl _ | assumption | refine Ext.drew ?_ | refine Ext.drewN ?_ _ | refine Ext.alloc ?_ _ | refine Ext.trans ?_ (by assumption)))).mono ?_; rintro _ w1 ⟨rfl, x1⟩)
      go_ret
      exact ⟨rfl, (by repeat (first | exact Ext.refl _ | assumption | refine Ext.drew ?_ | refine Ext.drewN ?_ _ | refine Ext.alloc ?_ _ | refine Ext.trans ?_ (by assumption)))⟩
    | true =>
      cases q : (r2 == (n : Int)) <;> rw [q] at hR <;> subst hR <;>
      (go_enter Tryz.func28, Tryz.ntmps28
       go_wp2_with (go_at_call 27; refine (CM.out _ (by repeat (first | exact Ext.refl _ | assumption | refine Ext.drew ?_ | refine Ext.drewN ?_ _ | refine Ext.alloc ?_ _ | refine Ext.trans ?_ (by assumption)))).mono ?_; rintro _ w1 ⟨rfl, x1⟩; obtain ⟨d0, d1, d2, d3, d4, d5, d6, d7, d8, d9⟩ := (hA.out.ext x1).at10)
       go_ret
       exact ⟨rfl, (by repeat (first | exact Ext.refl _ | assumption | refine Ext.drew ?_ | refine Ext.drewN ?_ _ | refine Ext.alloc ?_ _ | refine Ext.trans ?_ (by assumption)))⟩)
  rw [if_neg k1] at hR
  have f1 : (k == 1) = false := beq_eq_false_iff_ne.2 k1
  by_cases k2 : k = 2 ∨ k = 5
  · rw [if_pos k2] at hR
    have K1 := hid k1
    clear k1
    rcases k2 with k2 | k2 <;> subst k2 <;> subst hR <;>
      (clear f1
       go_enter Tryz.func28, Tryz.ntmps28
       go_wp2_with fail
       go_ret
       exact ⟨rfl, (by repeat (first | exact Ext.refl _ | assumption | refine Ext.drew ?_ | refine Ext.drewN ?_ _ | refine Ext.alloc ?_ _ | refine Ext.trans ?_ (by assumption)))⟩)
  rw [if_neg k2] at hR
  by_cases k3 : k = 3 ∨ k = 4
  · rw [if_pos k3] at hR
    clear k1 k2 f1
    rcases k3 with k3 | k3 <;> subst k3 <;> subst hR <;>
      (go_enter Tryz.func28, Tryz.ntmps28
       go_wp2_with fail
       go_ret
       exact ⟨rfl, (by repeat (first | exact Ext.refl _ | assumption | refine Ext.drew ?_ | refine Ext.drewN ?_ _ | refine Ext.alloc ?_ _ | refine Ext.trans ?_ (by assumption)))⟩)
  rw [if_neg k3] at hR
  by_cases k6 : k = 6
  · rw [if_pos k6] at hR
    clear k1 k2 k3 f1
    subst k6
    cases q : ((m : Int) == (n : Int)) <;> rw [q] at hR <;> subst hR <;>
    (go_enter Tryz.func28, Tryz.ntmps28
     go_wp2_with fail
     go_ret
     exact ⟨rfl, (by repeat (first | exact Ext.refl _ | assumption | refine Ext.drew ?_ | refine Ext.drewN ?_ _ | refine Ext.alloc ?_ _ | refine Ext.trans ?_ (by assumption)))⟩)
  rw [if_neg k6] at hR
  by_cases k7 : k = 7
  · rw [if_pos k7] at hR
    clear k1 k2 k3 k6 f1
    subst k7
    cases q : ((L3 : Int) == (m : Int)) <;> rw [q] at hR <;> subst hR <;>
    (go_enter Tryz.func28, Tryz.ntmps28
     go_wp2_with (go_at_call 60; refine (CH.out _ (by repeat (first | exact Ext.refl _ | assumption | refine Ext.drew ?_ | refine Ext.drewN ?_ _ | refine Ext.alloc ?_ _ | refine Ext.trans ?_ (by assumption)))).mono ?_; rintro _ w1 ⟨rfl, rfl⟩)
     go_ret
     exact ⟨rfl, (by repeat (first | exact Ext.refl _ | assumption | refine Ext.drew ?_ | refine Ext.drewN ?_ _ | refine Ext.alloc ?_ _ | refine Ext.trans ?_ (by assumption)))⟩)
  rw [if_neg k7] at hR
  subst hR
  have f2 : (k == 2) = false := beq_eq_false_iff_ne.2 (by omega)
  have f3 : (k == 3) = false := beq_eq_false_iff_ne.2 (by omega)
  have f4 : (k == 4) = false := beq_eq_false_iff_ne.2 (by omega)
  have f5 : (k == 5) = false := beq_eq_false_iff_ne.2 (by omega)
  have f6 : (k == 6) = false := beq_eq_false_iff_ne.2 k6
  have f7 : (k == 7) = false := beq_eq_false_iff_ne.2 k7
  clear k1 k2 k3 k6 k7
  go_enter Tryz.func28, Tryz.ntmps28
  go_wp2_with fail
  go_ret
  exact ⟨rfl, (by repeat (first | exact Ext.refl _ | assumption | refine Ext.drew ?_ | refine Ext.drewN ?_ _ | refine Ext.alloc ?_ _ | refine Ext.trans ?_ (by assumption)))⟩
end Go.Proofs.YthomeenmcajmdaaGreatDoor
namespace Go.Proofs.YthomeenmcajmdaaGreatDoor
open Go.RowKit Go.Maps
set_option maxHeartbeats 1000000 in
theorem tkRight (T : Tsk) (pv u u2 bv : Value) (w : World) (h : TkR w T pv u u2 bv) (hz : TkZ T) : Calls Tryz.prog 12 #[taskV T pv u u2 bv] w (Ret (.bool (taskB T)) w) := by
  obtain ⟨R, hR⟩ : ∃ R, taskB T = R := ⟨_, rfl⟩
  rw [hR]
  have C1 := hid fun (W : World) (hW : Ext w W) => mxRight T.p T.r T.c u T.xs W hz.p0 hz.p1 (h.i1.ext hW) hz.x
  have C2 := hid fun (hm : matB T.p T.r T.c T.xs = true) (W : World) (hW : Ext w W) => tkFits T pv u u2 bv W (h.ext hW) hz hm
  have C3 := hid fun (W : World) (hW : Ext w W) => tkSpare T pv u u2 bv W (h.ext hW)
  have C4 := hid fun (W : World) (hW : Ext w W) => Shows_any pv T.l T.p W (h.pr.ext hW) hz.l
  obtain ⟨⟨pa, pc, rfl, -, -, -⟩, ⟨ua, uc, rfl, -, -, -⟩, ⟨va, vc, rfl, v1, v2, -⟩, ⟨ba, bc, rfl, b1, b2, -⟩⟩ := h
  clear hz
  unfold taskB at hR
  obtain ⟨R1, e1⟩ : ∃ R1, matB T.p T.r T.c T.xs = R1 := ⟨_, rfl⟩
  obtain ⟨R2, e2⟩ : ∃ R2, fitsB T = R2 := ⟨_, rfl⟩
  obtain ⟨R3, e3⟩ : ∃ R3, spareB T = R3 := ⟨_, rfl⟩
  obtain ⟨R4, e4⟩ : ∃ R4, showsB T.l T.p = R4 := ⟨_, rfl⟩
  rw [e1] at C1 C2 hR
  rw [e2] at C2 hR
  rw [e3] at C3 hR
  rw [e4] at C4 hR
  clear e1 e2 e3 e4
  obtain ⟨k, p, l, r, c, xs, r2, c2, ys, bs⟩ := T
  simp only [taskV, matV] at *
  obtain ⟨L2, hL2⟩ : ∃ L2, ys.length = L2 := ⟨_, rfl⟩
  obtain ⟨L3, hL3⟩ : ∃ L3, bs.length = L3 := ⟨_, rfl⟩
  obtain ⟨L1, hL1⟩ : ∃ L1, xs.length = L1 := ⟨_, rfl⟩
  obtain ⟨L0, hL0⟩ : ∃ L0, l.length = L0 := ⟨_, rfl⟩
  rw [hL0, hL1, hL2, hL3] at C2 C3 ⊢
  rw [hL0] at C4
  rw [hL1] at C1
  clear hL0 hL1 hL2 hL3 b1 b2 v1 v2
  have hA := hid (Blk.new w 28 #[.int .i64 k, .int .u64 p, .slice pa L0 pc, .int .i64 r, .int .i64 c, .slice ua L1 uc, .int .i64 r2, .int .i64 c2, .slice va L2 vc, .slice ba L3 bc])
  obtain ⟨a0, a1, a2, a3, a4, a5, a6, a7, a8, a9⟩ := hA.out.at10
  cases R1 with
  | false =>
    subst hR
    clear C2 C3 C4
    go_enter Tryz.func12, Tryz.ntmps12
    go_wp2_with (go_at_call 27; refine (C1.out _ (by repeat (first | exact Ext.refl _ | assumption | refine Ext.drew ?_ | refine Ext.drewN ?_ _ | refine Ext.alloc ?_ _ | refine Ext.trans ?_ (by assumption)))).mono ?_; rintro _ w1 ⟨rfl, x1⟩)
    go_ret
    exact ⟨rfl, (by repeat (first | exact Ext.refl _ | assumption | refine Ext.drew ?_ | refine Ext.drewN ?_ _ | refine Ext.alloc ?_ _ | refine Ext.trans ?_ (by assumption)))⟩
  | true =>
    have D2 := hid (C2.out rfl)
    clear C2
    cases R2 with
    | false =>
      subst hR
      clear C3 C4
      go_enter Tryz.func12, Tryz.ntmps12
      go_wp2_with (first
        | (go_at_call 27; refine (C1.out _ (by repeat (first | exact Ext.refl _ | assumption | refine Ext.drew ?_ | refine Ext.drewN ?_ _ | refine Ext.alloc ?_ _ | refine Ext.trans ?_ (by assumption)))).mono ?_; rintro _ w1 ⟨rfl, x1⟩; obtain ⟨d0, d1, d2, d3, d4, d5, d6, d7, d8, d9⟩ := (hA.out.ext x1).at10)
        | (go_at_call 28; refine (D2.out _ (by repeat (first | exact Ext.refl _ | assumption | refine Ext.drew ?_ | refine Ext.drewN ?_ _ | refine Ext.alloc ?_ _ | refine Ext.trans ?_ (by assumption)))).mono ?_; rintro _ w2 ⟨rfl, x2⟩))
      go_ret
      exact ⟨rfl, (by repeat (first | exact Ext.refl _ | assumption | refine Ext.drew ?_ | refine Ext.drewN ?_ _ | refine Ext.alloc ?_ _ | refine Ext.trans ?_ (by assumption)))⟩
    | true =>
      cases R3 with
      | false =>
        subst hR
        clear C4
        go_enter Tryz.func12, Tryz.ntmps12
        go_wp2_with (first
          | (go_at_call 27; refine (C1.out _ (by repeat (first | exact Ext.refl _ | assumption | refine Ext.drew ?_ | refine Ext.drewN ?_ _ | refine Ext.alloc ?_ _ | refine Ext.trans ?_ (by assumption)))).mono ?_; rintro _ w1 ⟨rfl, x1⟩; obtain ⟨d0, d1, d2, d3, d4, d5, d6, d7, d8, d9⟩ := (hA.out.ext x1).at10)
          | (go_at_call 28; refine (D2.out _ (by repeat (first | exact Ext.refl _ | assumption | refine Ext.drew ?_ | refine Ext.drewN ?_ _ | refine Ext.alloc ?_ _ | refine Ext.trans ?_ (by assumption)))).mono ?_; rintro _ w2 ⟨rfl, x2⟩; obtain ⟨f0, f1, f2, f3, f4, f5, f6, f7, f8, f9⟩ := ((hA.out.ext x1).ext x2).at10)
          | (go_at_call 29; refine (C3.out _ (by repeat (first | exact Ext.refl _ | assumption | refine Ext.drew ?_ | refine Ext.drewN ?_ _ | refine Ext.alloc ?_ _ | refine Ext.trans ?_ (by assumption)))).mono ?_; rintro _ w3 ⟨rfl, x3⟩))
        go_ret
        exact ⟨rfl, (by repeat (first | exact Ext.refl _ | assumption | refine Ext.drew ?_ | refine Ext.drewN ?_ _ | refine Ext.alloc ?_ _ | refine Ext.trans ?_ (by assumption)))⟩
      | true =>
        have hR : R4 = R := hR
        subst hR
        go_enter Tryz.func12, Tryz.ntmps12
        go_wp2_with (first
          | (go_at_call 27; refine (C1.out _ (by repeat (first | exact Ext.refl _ | assumption | refine Ext.drew ?_ | refine Ext.drewN ?_ _ | refine Ext.alloc ?_ _ | refine Ext.trans ?_ (by assumption)))).mono ?_; rintro _ w1 ⟨rfl, x1⟩; obtain ⟨d0, d1, d2, d3, d4, d5, d6, d7, d8, d9⟩ := (hA.out.ext x1).at10)
          | (go_at_call 28; refine (D2.out _ (by repeat (first | exact Ext.refl _ | assumption | refine Ext.drew ?_ | refine Ext.drewN ?_ _ | refine Ext.alloc ?_ _ | refine Ext.trans ?_ (by assumption)))).mono ?_; rintro _ w2 ⟨rfl, x2⟩; obtain ⟨f0, f1, f2, f3, f4, f5, f6, f7, f8, f9⟩ := ((hA.out.ext x1).ext x2).at10)
          | (go_at_call 29; refine (C3.out _ (by repeat (first | exact Ext.refl _ | assumption | refine Ext.drew ?_ | refine Ext.drewN ?_ _ | refine Ext.alloc ?_ _ | refine Ext.trans ?_ (by assumption)))).mono ?_; rintro _ w3 ⟨rfl, x3⟩; obtain ⟨g0, g1, g2, g3, g4, g5, g6, g7, g8, g9⟩ := (((hA.out.ext x1).ext x2).ext x3).at10)
          | (go_at_call 30; refine (C4.out _ (by repeat (first | exact Ext.refl _ | assumption | refine Ext.drew ?_ | refine Ext.drewN ?_ _ | refine Ext.alloc ?_ _ | refine Ext.trans ?_ (by assumption)))).mono ?_; rintro _ w4 ⟨rfl, x4⟩))
        go_ret
        exact ⟨rfl, (by repeat (first | exact Ext.refl _ | assumption | refine Ext.drew ?_ | refine Ext.drewN ?_ _ | refine Ext.alloc ?_ _ | refine Ext.trans ?_ (by assumption)))⟩
set_option maxHeartbeats 1000000 in
theorem tkNumbers (T : Tsk) (pv u u2 bv : Value) (w : World) (h : TkR w T pv u u2 bv) (hl : T.xs.length + T.ys.length + T.bs.length ≤ 9223372036854775807) :
    Calls Tryz.prog 13 #[taskV T pv u u2 bv] w (Ret (.int .i64 ((T.xs.length + T.ys.length + T.bs.length : Nat) : Int)) w) := by
  obtain ⟨⟨pa, pc, rfl, -, -, -⟩, ⟨ua, uc, rfl, -, -, -⟩, ⟨va, vc, rfl, -, -, -⟩, ⟨ba, bc, rfl, -, -, -⟩⟩ := h
  obtain ⟨k, p, l, r, c, xs, r2, c2, ys, bs⟩ := T
  simp only [taskV] at *
  obtain ⟨L2, hL2⟩ : ∃ L2, ys.length = L2 := ⟨_, rfl⟩
  obtain ⟨L3, hL3⟩ : ∃ L3, bs.length = L3 := ⟨_, rfl⟩
  obtain ⟨L1, hL1⟩ : ∃ L1, xs.length = L1 := ⟨_, rfl⟩
  obtain ⟨L0, hL0⟩ : ∃ L0, l.length = L0 := ⟨_, rfl⟩
  rw [hL1, hL2, hL3] at hl
  rw [hL0, hL1, hL2, hL3]
  clear hL0 hL1 hL2 hL3
  have hA := hid (Blk.new w 28 #[.int .i64 k, .int .u64 p, .slice pa L0 pc, .int .i64 r, .int .i64 c, .slice ua L1 uc, .int .i64 r2, .int .i64 c2, .slice va L2 vc, .slice ba L3 bc])
  obtain ⟨a0, a1, a2, a3, a4, a5, a6, a7, a8, a9⟩ := hA.out.at10
  go_enter Tryz.func13, Tryz.ntmps13
  go_wp2_with fail
  go_ret
  exact ⟨by simp, (by repeat (first | exact Ext.refl _ | assumption | refine Ext.drew ?_ | refine Ext.drewN ?_ _ | refine Ext.alloc ?_ _ | refine Ext.trans ?_ (by assumption)))⟩
def drawsN (T : Tsk) : Int := if taskB T = true then (if T.k = 1 then T.c2 else if T.k = 2 then T.r else if T.k = 3 ∨ T.k = 4 ∨ T.k = 5 then T.c else if T.k = 6 then T.r + 1 else 0) else 0
set_option maxHeartbeats 1000000 in
theorem tkDraws (T : Tsk) (pv u u2 bv : Value) (w : World) (h : TkR w T pv u u2 bv) (hz : TkZ T) : Calls Tryz.prog 11 #[taskV T pv u u2 bv] w (Ret (.int .i64 (drawsN T)) w) := by
  have C1 := hid fun (W : World) (hW : Ext w W) => tkRight T pv u u2 bv W (h.ext hW) hz
  obtain ⟨D, hD⟩ : ∃ D, drawsN T = D := ⟨_, rfl⟩
  rw [hD]
  unfold drawsN at hD
  have hk := fun h : taskB T = true => taskB_kind h
  have hm := fun (h : taskB T = true) => (matB_iff hz.x).1 (show matB T.p T.r T.c T.xs = true by
    unfold taskB at h
    rw [Bool.and_eq_true] at h
    exact h.1)
  obtain ⟨B, hB⟩ : ∃ B, taskB T = B := ⟨_, rfl⟩
  rw [hB] at C1 hD hk hm
  obtain ⟨⟨pa, pc, rfl, -, -, -⟩, ⟨ua, uc, rfl, -, -, -⟩, ⟨va, vc, rfl, -, -, -⟩, ⟨ba, bc, rfl, -, -, -⟩⟩ := h
  clear hz hB
  obtain ⟨k, p, l, r, c, xs, r2, c2, ys, bs⟩ := T
  simp only [taskV] at *
  obtain ⟨L2, hL2⟩ : ∃ L2, ys.length = L2 := ⟨_, rfl⟩
  obtain ⟨L3, hL3⟩ : ∃ L3, bs.length = L3 := ⟨_, rfl⟩
  obtain ⟨L1, hL1⟩ : ∃ L1, xs.length = L1 := ⟨_, rfl⟩
  obtain ⟨L0, hL0⟩ : ∃ L0, l.length = L0 := ⟨_, rfl⟩
  rw [hL0, hL1, hL2, hL3] at C1 ⊢
  rw [hL1] at hm
  clear hL0 hL1 hL2 hL3
  have hA := hid (Blk.new w 28 #[.int .i64 k, .int .u64 p, .slice pa L0 pc, .int .i64 r, .int .i64 c, .slice ua L1 uc, .int .i64 r2, .int .i64 c2, .slice va L2 vc, .slice ba L3 bc])
  obtain ⟨a0, a1, a2, a3, a4, a5, a6, a7, a8, a9⟩ := hA.out.at10
  cases B with
  | false =>
    rw [if_neg (by decide)] at hD
    subst hD
    clear hk hm
    go_enter Tryz.func11, Tryz.ntmps11
    go_wp2_with (go_at_call 12; refine (C1.out _ (by repeat (first | exact Ext.refl _ | assumption | refine Ext.drew ?_ | refine Ext.drewN ?_ _ | refine Ext.alloc ?_ _ | refine Ext.trans ?_ (by assumption)))).mono ?_; rintro _ w1 ⟨rfl, x1⟩)
    go_ret
    exact ⟨rfl, (by repeat (first | exact Ext.refl _ | assumption | refine Ext.drew ?_ | refine Ext.drewN ?_ _ | refine Ext.alloc ?_ _ | refine Ext.trans ?_ (by assumption)))⟩
  | true =>
    have hk := hk rfl
    obtain ⟨-, -, m, n, rfl, rfl, m1, m2, n1, n2, -⟩ := hm rfl
    rw [if_pos rfl] at hD
    rcases hk with rfl | rfl | rfl | rfl | rfl | rfl | rfl <;> simp at hD <;> subst hD <;>
      (go_enter Tryz.func11, Tryz.ntmps11
       go_wp2_with (go_at_call 12; refine (C1.out _ (by repeat (first | exact Ext.refl _ | assumption | refine Ext.drew ?_ | refine Ext.drewN ?_ _ | refine Ext.alloc ?_ _ | refine Ext.trans ?_ (by assumption)))).mono ?_; rintro _ w1 ⟨rfl, x1⟩; obtain ⟨d0, d1, d2, d3, d4, d5, d6, d7, d8, d9⟩ := (hA.out.ext x1).at10)
       go_ret
       exact ⟨rfl, (by repeat (first | exact Ext.refl _ | assumption | refine Ext.drew ?_ | refine Ext.drewN ?_ _ | refine Ext.alloc ?_ _ | refine Ext.trans ?_ (by assumption)))⟩)
end Go.Proofs.YthomeenmcajmdaaGreatDoor
