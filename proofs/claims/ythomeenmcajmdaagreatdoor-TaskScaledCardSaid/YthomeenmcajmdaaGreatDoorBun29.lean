import Derived.Test.YthomeenmcajmdaaGreatDoorBun22
import Derived.Test.YthomeenmcajmdaaGreatDoorBun24
import Derived.Test.YthomeenmcajmdaaGreatDoorBun28
import Derived.Test.YthomeenmcajmdaaGreatDoorBun27
import Derived.Test.YthomeenmcajmdaaGreatDoorBun23
import Derived.Test.YthomeenmcajmdaaGreatDoorBun04
import Derived.Test.YthomeenmcajmdaaGreatDoorBun14
import Derived.Test.YthomeenmcajmdaaGreatDoorBun09
import Derived.Deep.RegionHeld3
import Derived.Test.YthomeenmcajmdaaGreatDoorBun16
import Derived.Test.YthomeenmcajmdaaGreatDoorBun05
namespace Go.Proofs.YthomeenmcajmdaaGreatDoor
open Go.RowKit Go.Maps
set_option maxHeartbeats 400000 in
theorem tkOneIf (b : Bool) (w : World) : Calls Tryz.prog 88 #[.bool b] w (RetL [bitZ b] w) := by
  cases b with
  | false =>
    go_enter Tryz.func88, Tryz.ntmps88
    go_wp2_with fail
    go_ret
    exact ⟨_, rfl, Ints.new1, (by repeat (first | exact Ext.refl _ | assumption | refine Ext.drew ?_ | refine Ext.drewN ?_ _ | refine Ext.alloc ?_ _ | refine Ext.trans ?_ (by assumption)))⟩
  | true =>
    go_enter Tryz.func88, Tryz.ntmps88
    go_wp2_with fail
    go_ret
    exact ⟨_, rfl, Ints.new1, (by repeat (first | exact Ext.refl _ | assumption | refine Ext.drew ?_ | refine Ext.drewN ?_ _ | refine Ext.alloc ?_ _ | refine Ext.trans ?_ (by assumption)))⟩
set_option maxHeartbeats 1000000 in
theorem tkRank (T : Tsk) (m n : Nat) (er : T.r = m) (ec : T.c = n) (pv u u2 bv : Value) (w : World) (h : TkR w T pv u u2 bv) (ok : MatOk T.p m n T.xs) (hf : Fld T.p) :
    Calls Tryz.prog 54 #[taskV T pv u u2 bv] w (RetL [((takeL T.p m n T.xs).U.length : Int)] w) := by
  obtain ⟨k, p, l, r, c, xs, r2, c2, ys, bs⟩ := T
  simp only at er ec
  subst er; subst ec
  simp only [taskV] at *
  have C1 := hid fun (W : World) (hW : Ext w W) => cmRank p m n u xs W ok hf (h.i1.ext hW)
  obtain ⟨K, hK⟩ : ∃ K, (takeL p m n xs).U.length = K := ⟨_, rfl⟩
  have hK2 : K ≤ 64 := by
    have := (takeL_ok (m := m) (n := n) (rightB_true ok.hp).1 hf ok.hx).le
    have := ok.hm
    omega
  rw [hK] at C1 ⊢
  have hwr : IntKind.u64.wrap (K : Int) = K := by rw [u64_wrap]; omega
  clear hK ok hf
  obtain ⟨⟨pa, pc, rfl, -, -, -⟩, ⟨ua, uc, rfl, -, -, -⟩, ⟨va, vc, rfl, -, -, -⟩, ⟨ba, bc, rfl, -, -, -⟩⟩ := h
  obtain ⟨L2, hL2⟩ : ∃ L2, ys.length = L2 := ⟨_, rfl⟩
  obtain ⟨L3, hL3⟩ : ∃ L3, bs.length = L3 := ⟨_, rfl⟩
  obtain ⟨L1, hL1⟩ : ∃ L1, xs.length = L1 := ⟨_, rfl⟩
  obtain ⟨L0, hL0⟩ : ∃ L0, l.length = L0 := ⟨_, rfl⟩
  rw [hL0, hL1, hL2, hL3]
  rw [hL1] at C1
  clear hL0 hL1 hL2 hL3
  unfold matV at C1
  have hA := hid (Blk.new w 54 #[.int .i64 k, .int .u64 p, .slice pa L0 pc, .int .i64 m, .int .i64 n, .slice ua L1 uc, .int .i64 r2, .int .i64 c2, .slice va L2 vc, .slice ba L3 bc])
  obtain ⟨a0, a1, a2, a3, a4, a5, a6, a7, a8, a9⟩ := hA.out.at10
  go_enter Tryz.func54, Tryz.ntmps54
  go_wp2_with (go_at_call 19; refine (C1.out _ (by repeat (first | exact Ext.refl _ | assumption | refine Ext.drew ?_ | refine Ext.drewN ?_ _ | refine Ext.alloc ?_ _ | refine Ext.trans ?_ (by assumption)))).mono ?_; rintro _ w1 ⟨rfl, x1⟩)
  go_ret
  exact ⟨_, rfl, Ints.new1, (by repeat (first | exact Ext.refl _ | assumption | refine Ext.drew ?_ | refine Ext.drewN ?_ _ | refine Ext.alloc ?_ _ | refine Ext.trans ?_ (by assumption)))⟩
set_option maxHeartbeats 1000000 in
theorem tkDet (T : Tsk) (m n : Nat) (er : T.r = m) (ec : T.c = n) (pv u u2 bv : Value) (w : World) (h : TkR w T pv u u2 bv) (ok : MatOk T.p m n T.xs) (hf : Fld T.p) (hmn : m = n) :
    Calls Tryz.prog 56 #[taskV T pv u u2 bv] w (RetL [detF m (atF m T.xs) % T.p] w) := by
  obtain ⟨k, p, l, r, c, xs, r2, c2, ys, bs⟩ := T
  simp only at er ec
  subst er; subst ec
  simp only [taskV] at *
  subst hmn
  have C1 := hid fun (W : World) (hW : Ext w W) => cmDet_yes p m u xs W ok hf (h.i1.ext hW)
  obtain ⟨D, hD⟩ : ∃ D, detF m (atF m xs) % p = D := ⟨_, rfl⟩
  rw [hD] at C1 ⊢
  clear hD ok hf
  obtain ⟨⟨pa, pc, rfl, -, -, -⟩, ⟨ua, uc, rfl, -, -, -⟩, ⟨va, vc, rfl, -, -, -⟩, ⟨ba, bc, rfl, -, -, -⟩⟩ := h
  obtain ⟨L2, hL2⟩ : ∃ L2, ys.length = L2 := ⟨_, rfl⟩
  obtain ⟨L3, hL3⟩ : ∃ L3, bs.length = L3 := ⟨_, rfl⟩
  obtain ⟨L1, hL1⟩ : ∃ L1, xs.length = L1 := ⟨_, rfl⟩
  obtain ⟨L0, hL0⟩ : ∃ L0, l.length = L0 := ⟨_, rfl⟩
  rw [hL0, hL1, hL2, hL3]
  rw [hL1] at C1
  clear hL0 hL1 hL2 hL3
  unfold matV at C1
  have hA := hid (Blk.new w 54 #[.int .i64 k, .int .u64 p, .slice pa L0 pc, .int .i64 m, .int .i64 m, .slice ua L1 uc, .int .i64 r2, .int .i64 c2, .slice va L2 vc, .slice ba L3 bc])
  obtain ⟨a0, a1, a2, a3, a4, a5, a6, a7, a8, a9⟩ := hA.out.at10
  go_enter Tryz.func56, Tryz.ntmps56
  go_wp2_with (go_at_call 87; refine (C1.out _ (by repeat (first | exact Ext.refl _ | assumption | refine Ext.drew ?_ | refine Ext.drewN ?_ _ | refine Ext.alloc ?_ _ | refine Ext.trans ?_ (by assumption)))).mono ?_; rintro _ w1 ⟨rfl, x1⟩)
  go_ret
  exact ⟨_, rfl, Ints.new1, (by repeat (first | exact Ext.refl _ | assumption | refine Ext.drew ?_ | refine Ext.drewN ?_ _ | refine Ext.alloc ?_ _ | refine Ext.trans ?_ (by assumption)))⟩
set_option maxHeartbeats 1000000 in
theorem tkSingular (T : Tsk) (m n : Nat) (er : T.r = m) (ec : T.c = n) (pv u u2 bv : Value) (w : World) (h : TkR w T pv u u2 bv) (ok : MatOk T.p m n T.xs) (hf : Fld T.p) (hmn : m = n) :
    Calls Tryz.prog 53 #[taskV T pv u u2 bv] w (RetL [bitZ (detF m (atF m T.xs) % T.p == 0)] w) := by
  obtain ⟨k, p, l, r, c, xs, r2, c2, ys, bs⟩ := T
  simp only at er ec
  subst er; subst ec
  simp only [taskV] at *
  subst hmn
  have C1 := hid fun (W : World) (hW : Ext w W) => cmDet_yes p m u xs W ok hf (h.i1.ext hW)
  obtain ⟨D, hD⟩ : ∃ D, detF m (atF m xs) % p = D := ⟨_, rfl⟩
  rw [hD] at C1 ⊢
  obtain ⟨B, hB⟩ : ∃ B, (D == 0) = B := ⟨_, rfl⟩
  rw [hB]
  have C2 := hid fun (W : World) => tkOneIf B W
  clear hD ok hf
  obtain ⟨⟨pa, pc, rfl, -, -, -⟩, ⟨ua, uc, rfl, -, -, -⟩, ⟨va, vc, rfl, -, -, -⟩, ⟨ba, bc, rfl, -, -, -⟩⟩ := h
  obtain ⟨L2, hL2⟩ : ∃ L2, ys.length = L2 := ⟨_, rfl⟩
  obtain ⟨L3, hL3⟩ : ∃ L3, bs.length = L3 := ⟨_, rfl⟩
  obtain ⟨L1, hL1⟩ : ∃ L1, xs.length = L1 := ⟨_, rfl⟩
  obtain ⟨L0, hL0⟩ : ∃ L0, l.length = L0 := ⟨_, rfl⟩
  rw [hL0, hL1, hL2, hL3]
  rw [hL1] at C1
  clear hL0 hL1 hL2 hL3
  unfold matV at C1
  have hA := hid (Blk.new w 54 #[.int .i64 k, .int .u64 p, .slice pa L0 pc, .int .i64 m, .int .i64 m, .slice ua L1 uc, .int .i64 r2, .int .i64 c2, .slice va L2 vc, .slice ba L3 bc])
  obtain ⟨a0, a1, a2, a3, a4, a5, a6, a7, a8, a9⟩ := hA.out.at10
  go_enter Tryz.func53, Tryz.ntmps53
  go_wp2_with (first
    | (go_at_call 87; refine (C1.out _ (by repeat (first | exact Ext.refl _ | assumption | refine Ext.drew ?_ | refine Ext.drewN ?_ _ | refine Ext.alloc ?_ _ | refine Ext.trans ?_ (by assumption)))).mono ?_; rintro _ w1 ⟨rfl, x1⟩)
    | (go_at_call 88; refine (C2.out _).mono ?_; rintro _ w2 ⟨v, rfl, hv, x2⟩))
  go_ret
  exact ⟨_, rfl, hv, (by repeat (first | exact Ext.refl _ | assumption | refine Ext.drew ?_ | refine Ext.drewN ?_ _ | refine Ext.alloc ?_ _ | refine Ext.trans ?_ (by assumption)))⟩
set_option maxHeartbeats 1000000 in
theorem tkMinimal (T : Tsk) (m n : Nat) (er : T.r = m) (ec : T.c = n) (pv u u2 bv : Value) (w : World) (h : TkR w T pv u u2 bv) (ok : MatOk T.p m n T.xs) (hf : Fld T.p) (hmn : m = n) :
    Calls Tryz.prog 57 #[taskV T pv u u2 bv] w (RetL (minP T.p m T.xs) w) := by
  obtain ⟨k, p, l, r, c, xs, r2, c2, ys, bs⟩ := T
  simp only at er ec
  subst er; subst ec
  simp only [taskV] at *
  subst hmn
  have C1 := hid fun (W : World) (hW : Ext w W) => krMin p m u xs (minP p m xs) W ok hf (h.i1.ext hW) (minP_is (hf.has (rightB_true ok.hp).1))
  obtain ⟨Q, hQ⟩ : ∃ Q, minP p m xs = Q := ⟨_, rfl⟩
  rw [hQ] at C1 ⊢
  clear hQ ok hf
  obtain ⟨⟨pa, pc, rfl, -, -, -⟩, ⟨ua, uc, rfl, -, -, -⟩, ⟨va, vc, rfl, -, -, -⟩, ⟨ba, bc, rfl, -, -, -⟩⟩ := h
  obtain ⟨L2, hL2⟩ : ∃ L2, ys.length = L2 := ⟨_, rfl⟩
  obtain ⟨L3, hL3⟩ : ∃ L3, bs.length = L3 := ⟨_, rfl⟩
  obtain ⟨L1, hL1⟩ : ∃ L1, xs.length = L1 := ⟨_, rfl⟩
  obtain ⟨L0, hL0⟩ : ∃ L0, l.length = L0 := ⟨_, rfl⟩
  rw [hL0, hL1, hL2, hL3]
  rw [hL1] at C1
  clear hL0 hL1 hL2 hL3
  unfold matV at C1
  have hA := hid (Blk.new w 54 #[.int .i64 k, .int .u64 p, .slice pa L0 pc, .int .i64 m, .int .i64 m, .slice ua L1 uc, .int .i64 r2, .int .i64 c2, .slice va L2 vc, .slice ba L3 bc])
  obtain ⟨a0, a1, a2, a3, a4, a5, a6, a7, a8, a9⟩ := hA.out.at10
  go_enter Tryz.func57, Tryz.ntmps57
  go_wp2_with (go_at_call 90; refine (C1.out _ (by repeat (first | exact Ext.refl _ | assumption | refine Ext.drew ?_ | refine Ext.drewN ?_ _ | refine Ext.alloc ?_ _ | refine Ext.trans ?_ (by assumption)))).mono ?_; rintro _ w1 ⟨v, rfl, hv, x1⟩)
  go_ret
  exact ⟨_, rfl, hv, (by repeat (first | exact Ext.refl _ | assumption | refine Ext.drew ?_ | refine Ext.drewN ?_ _ | refine Ext.alloc ?_ _ | refine Ext.trans ?_ (by assumption)))⟩
set_option maxHeartbeats 1000000 in
theorem tkSolving (T : Tsk) (m n : Nat) (er : T.r = m) (ec : T.c = n) (pv u u2 bv : Value) (w : World) (h : TkR w T pv u u2 bv) (ok : MatOk T.p m n T.xs) (hf : Fld T.p) (hb : T.bs.length = m) (hr : Rng T.p T.bs) :
    Calls Tryz.prog 58 #[taskV T pv u u2 bv] w (RetL [bitZ (solvB T.p m n T.xs T.bs)] w) := by
  obtain ⟨k, p, l, r, c, xs, r2, c2, ys, bs⟩ := T
  simp only at er ec
  subst er; subst ec
  simp only [taskV] at *
  have C1 := hid fun (W : World) (hW : Ext w W) => svSolve p m n u bv xs bs W ok hf (h.i1.ext hW) (h.i3.ext hW) hb hr
  have hSB := hid fun (code : Int) (l' : List Int) (hq : SolQ p m n xs bs code l') => (show (code == 0) = solvB p m n xs bs from by
    rcases hq with ⟨rfl, hx⟩ | ⟨rfl, -, hx⟩
    · rw [show solvB p m n xs bs = true from solvB_iff.2 ⟨_, hx⟩]; rfl
    · rw [show solvB p m n xs bs = false from Bool.eq_false_iff.2 fun h => hx (solvB_iff.1 h)]; rfl)
  obtain ⟨S, hS⟩ : ∃ S, solvB p m n xs bs = S := ⟨_, rfl⟩
  rw [hS] at hSB ⊢
  have C2 := hid fun (b : Bool) (W : World) => tkOneIf b W
  clear ok hf hr hS
  obtain ⟨⟨pa, pc, rfl, -, -, -⟩, ⟨ua, uc, rfl, -, -, -⟩, ⟨va, vc, rfl, -, -, -⟩, ⟨ba, bc, rfl, -, -, -⟩⟩ := h
  obtain ⟨L2, hL2⟩ : ∃ L2, ys.length = L2 := ⟨_, rfl⟩
  obtain ⟨L3, hL3⟩ : ∃ L3, bs.length = L3 := ⟨_, rfl⟩
  obtain ⟨L1, hL1⟩ : ∃ L1, xs.length = L1 := ⟨_, rfl⟩
  obtain ⟨L0, hL0⟩ : ∃ L0, l.length = L0 := ⟨_, rfl⟩
  rw [hL0, hL1, hL2, hL3]
  rw [hL1, hL3] at C1
  clear hL0 hL1 hL2 hL3
  unfold matV at C1
  have hA := hid (Blk.new w 54 #[.int .i64 k, .int .u64 p, .slice pa L0 pc, .int .i64 m, .int .i64 n, .slice ua L1 uc, .int .i64 r2, .int .i64 c2, .slice va L2 vc, .slice ba L3 bc])
  obtain ⟨a0, a1, a2, a3, a4, a5, a6, a7, a8, a9⟩ := hA.out.at10
  go_enter Tryz.func58, Tryz.ntmps58
  go_wp2_with (go_at_call 91; refine (C1.out _ (by repeat (first | exact Ext.refl _ | assumption | refine Ext.drew ?_ | refine Ext.drewN ?_ _ | refine Ext.alloc ?_ _ | refine Ext.trans ?_ (by assumption)))).mono ?_; rintro _ w1 ⟨code, l', hq, v, rfl, -, x1⟩
               have HC := hid (hSB.out code l' hq)
               clear hq)
  refine (C2.out (code == 0) _).mono ?_; rintro _ w2 ⟨v', rfl, hv, x2⟩
  go_wp2_with fail
  go_ret
  exact ⟨_, rfl, by rw [← HC.out]; exact hv, (by repeat (first | exact Ext.refl _ | assumption | refine Ext.drew ?_ | refine Ext.drewN ?_ _ | refine Ext.alloc ?_ _ | refine Ext.trans ?_ (by assumption)))⟩
set_option maxHeartbeats 1000000 in
theorem tkProduct (T : Tsk) (m n q : Nat) (er : T.r = m) (ec : T.c = n) (er2 : T.r2 = n) (ec2 : T.c2 = q) (pv u u2 bv : Value) (w : World) (h : TkR w T pv u u2 bv) (ok : MatOk T.p m n T.xs) (oky : MatOk T.p n q T.ys) :
    Calls Tryz.prog 52 #[taskV T pv u u2 bv] w (RetL (mulL T.p m n q T.xs T.ys) w) := by
  obtain ⟨k, p, l, r, c, xs, r2, c2, ys, bs⟩ := T
  simp only at er ec er2 ec2
  subst er; subst ec; subst er2; subst ec2
  simp only [taskV] at *
  have C1 := hid fun (W : World) (hW : Ext w W) => mxMul_yes p m n q u u2 xs ys W ok oky (h.i1.ext hW) (h.i2.ext hW)
  obtain ⟨Q, hQ⟩ : ∃ Q, mulL p m n q xs ys = Q := ⟨_, rfl⟩
  rw [hQ] at C1 ⊢
  clear hQ ok oky
  obtain ⟨⟨pa, pc, rfl, -, -, -⟩, ⟨ua, uc, rfl, -, -, -⟩, ⟨va, vc, rfl, -, -, -⟩, ⟨ba, bc, rfl, -, -, -⟩⟩ := h
  obtain ⟨L2, hL2⟩ : ∃ L2, ys.length = L2 := ⟨_, rfl⟩
  obtain ⟨L3, hL3⟩ : ∃ L3, bs.length = L3 := ⟨_, rfl⟩
  obtain ⟨L1, hL1⟩ : ∃ L1, xs.length = L1 := ⟨_, rfl⟩
  obtain ⟨L0, hL0⟩ : ∃ L0, l.length = L0 := ⟨_, rfl⟩
  rw [hL0, hL1, hL2, hL3]
  rw [hL1, hL2] at C1
  clear hL0 hL1 hL2 hL3
  unfold matV at C1
  have hA := hid (Blk.new w 54 #[.int .i64 k, .int .u64 p, .slice pa L0 pc, .int .i64 m, .int .i64 n, .slice ua L1 uc, .int .i64 n, .int .i64 q, .slice va L2 vc, .slice ba L3 bc])
  obtain ⟨a0, a1, a2, a3, a4, a5, a6, a7, a8, a9⟩ := hA.out.at10
  go_enter Tryz.func52, Tryz.ntmps52
  go_wp2_with (go_at_call 86; refine (C1.out _ (by repeat (first | exact Ext.refl _ | assumption | refine Ext.drew ?_ | refine Ext.drewN ?_ _ | refine Ext.alloc ?_ _ | refine Ext.trans ?_ (by assumption)))).mono ?_; rintro _ w1 ⟨v, rfl, hv, x1⟩
               have HV := hid hv
               unfold matV
               obtain ⟨aa, cc, rfl, -, -, -⟩ := hv
               obtain ⟨b0, b1, b2⟩ := (Blk.new w1 26 #[.int .i64 (m : Int), .int .i64 (q : Int), .slice aa Q.length cc]).at3)
  go_ret
  exact ⟨_, rfl, HV.out.ext (by repeat (first | exact Ext.refl _ | assumption | refine Ext.drew ?_ | refine Ext.drewN ?_ _ | refine Ext.alloc ?_ _ | refine Ext.trans ?_ (by assumption))), (by repeat (first | exact Ext.refl _ | assumption | refine Ext.drew ?_ | refine Ext.drewN ?_ _ | refine Ext.alloc ?_ _ | refine Ext.trans ?_ (by assumption)))⟩
set_option maxHeartbeats 1000000 in
theorem tkProfile (T : Tsk) (m n : Nat) (er : T.r = m) (ec : T.c = n) (pv u u2 bv : Value) (w : World) (h : TkR w T pv u u2 bv) (ok : MatOk T.p m n T.xs) (hf : Fld T.p) :
    Calls Tryz.prog 55 #[taskV T pv u u2 bv] w (RetL (profZ T.p m n T.xs) w) := by
  obtain ⟨k, p, l, r, c, xs, r2, c2, ys, bs⟩ := T
  simp only at er ec
  subst er; subst ec
  simp only [taskV] at *
  have C1 := hid fun (W : World) (hW : Ext w W) => cmProfile p m n u xs W ok hf (h.i1.ext hW)
  obtain ⟨P, hP⟩ : ∃ P, profZ p m n xs = P := ⟨_, rfl⟩
  have hPl : P.length ≤ 64 := by
    have := (takeL_ok (m := m) (n := n) (rightB_true ok.hp).1 hf ok.hx).le
    have := ok.hm
    have := profZ_len ok hf
    rw [hP] at this
    omega
  have hPz := hid (show ∀ z ∈ P, 0 ≤ z ∧ z < 9223372036854775807 from by
    intro z hz
    rw [← hP] at hz
    unfold profZ at hz
    obtain ⟨x, hx, rfl⟩ := List.mem_map.1 hz
    obtain ⟨i, hi, rfl⟩ := List.mem_iff_getElem.1 hx
    have h1 := (takeL_ok (m := m) (n := n) (rightB_true ok.hp).1 hf ok.hx).low i hi
    have e : (takeL p m n xs).rows.getD i 0 = (takeL p m n xs).rows[i] := by simp [List.getD, List.getElem?_eq_getElem hi]
    have := ok.hm
    rw [e] at h1
    omega)
  rw [hP] at C1 ⊢
  obtain ⟨i0, hi, hz0, hz1, hz2⟩ := info_parts info_u64p
  clear hP ok hf
  obtain ⟨⟨pa, pc, rfl, -, -, -⟩, ⟨ua, uc, rfl, -, -, -⟩, ⟨va, vc, rfl, -, -, -⟩, ⟨ba, bc, rfl, -, -, -⟩⟩ := h
  obtain ⟨L2, hL2⟩ : ∃ L2, ys.length = L2 := ⟨_, rfl⟩
  obtain ⟨L3, hL3⟩ : ∃ L3, bs.length = L3 := ⟨_, rfl⟩
  obtain ⟨L1, hL1⟩ : ∃ L1, xs.length = L1 := ⟨_, rfl⟩
  obtain ⟨L0, hL0⟩ : ∃ L0, l.length = L0 := ⟨_, rfl⟩
  rw [hL0, hL1, hL2, hL3]
  rw [hL1] at C1
  clear hL0 hL1 hL2 hL3
  unfold matV at C1
  have hA := hid (Blk.new w 54 #[.int .i64 k, .int .u64 p, .slice pa L0 pc, .int .i64 m, .int .i64 n, .slice ua L1 uc, .int .i64 r2, .int .i64 c2, .slice va L2 vc, .slice ba L3 bc])
  obtain ⟨a0, a1, a2, a3, a4, a5, a6, a7, a8, a9⟩ := hA.out.at10
  go_enter Tryz.func55, Tryz.ntmps55
  go_wp2_with (go_at_call 89; refine (C1.out _ (by repeat (first | exact Ext.refl _ | assumption | refine Ext.drew ?_ | refine Ext.drewN ?_ _ | refine Ext.alloc ?_ _ | refine Ext.trans ?_ (by assumption)))).mono ?_; rintro _ w1 ⟨v, rfl, hv, x1⟩
               obtain ⟨aa, cc, rfl, s1, s2, s3⟩ := hv
               have S3 := hid s3
               clear s3)
  go_loopw [18, 5] (fun i lv wl => ∃ k : Nat, i = .int .i64 k ∧ k ≤ P.length ∧ wl.ownsRow w1.heap.size 22 1 lv k ((P.take k).map (Value.int .u64)) ∧ Ext w1 wl) (fun i _ _ => P.length - (intOf i).toNat)
  case atStart => exact ⟨0, rfl, Nat.zero_le _, World.ownsRow_nil _ _ _ _, Ext.refl _⟩
  case round =>
    obtain ⟨k', rfl, hk, hown, hx⟩ := hrel
    by_cases hlt : k' < P.length
    · obtain ⟨b', off, rfl, hb', hc⟩ := S3.out (by omega)
      have g1 := (hx.cells _ _ hb').trans (hc k' hlt)
      have htk : P.take (k' + 1) = P.take k' ++ [P.getD k' 0] := by
        rw [List.take_succ_eq_append_getElem hlt]; simp [List.getD, List.getElem?_eq_getElem hlt]
      have hz := hPz.out _ (getD_mem (xs := P) 0 hlt)
      generalize P.getD k' 0 = z at *
      have hwr : IntKind.u64.wrap z = z := by rw [u64_wrap]; omega
      have HTK := hid htk; have HO := hid hown
      have hs := hx.size
      clear htk hown hc
      go_wp2_with (first
        | (at_builtin; refine wpList_append_own _ rfl _ _ 24 rfl w1.heap.size 22 i0 (.int .u64 0) 1 8 Tryz.underlying24 hi hz0 hz1 hz2 rfl (by decide) _ _ _ rfl (HO.out.alloc _) ⟨wr.heap.size, 0, none⟩ 1 1 [.int .u64 z] rfl rfl (cells_new _ _ _ (by simp)) (by simp [Value.oneCell']) (by simp only [maxLen]; omega) (by omega) (by simp; omega) ?_; intro v' w4 hown4 hgrow4 hnil4)
        | fail)
      have HO4 := hid hown4
      clear hown4
      go_roundw
      case rel => exact ⟨k' + 1, by go_num, by omega, by rw [HTK.out]; simpa using HO4.out, (hx.alloc _).grown hgrow4 (fun j e => (HO.out.lt j e).1)⟩
      case measure => simp [intOf]; omega
    · obtain rfl : k' = P.length := by omega
      rw [List.take_length] at hown
      have HO := hid (own_ints hown)
      obtain ⟨la, lc, rfl⟩ := ownsRow_slice hown
      clear hown
      go_wp2_with fail
      go_ret
      exact ⟨_, rfl, HO.out, (by repeat (first | exact Ext.refl _ | assumption | refine Ext.drew ?_ | refine Ext.drewN ?_ _ | refine Ext.alloc ?_ _ | refine Ext.trans ?_ (by assumption)))⟩
end Go.Proofs.YthomeenmcajmdaaGreatDoor
namespace Go.Proofs.YthomeenmcajmdaaGreatDoor
open Go.RowKit Go.Maps
set_option maxHeartbeats 1000000 in
theorem tkAnswer_no (T : Tsk) (pv u u2 bv : Value) (w : World) (h : TkR w T pv u u2 bv) (hz : TkZ T) (hb : taskB T = false) : Calls Tryz.prog 10 #[taskV T pv u u2 bv] w (Ret (.tuple #[.slice none 0 0, .int .i64 1]) w) := by
  have C1 := hid fun (W : World) (hW : Ext w W) => tkRight T pv u u2 bv W (h.ext hW) hz
  rw [hb] at C1
  obtain ⟨⟨pa, pc, rfl, -, -, -⟩, ⟨ua, uc, rfl, -, -, -⟩, ⟨va, vc, rfl, -, -, -⟩, ⟨ba, bc, rfl, -, -, -⟩⟩ := h
  clear hz hb
  obtain ⟨k, p, l, r, c, xs, r2, c2, ys, bs⟩ := T
  simp only [taskV] at *
  obtain ⟨L2, hL2⟩ : ∃ L2, ys.length = L2 := ⟨_, rfl⟩
  obtain ⟨L3, hL3⟩ : ∃ L3, bs.length = L3 := ⟨_, rfl⟩
  obtain ⟨L1, hL1⟩ : ∃ L1, xs.length = L1 := ⟨_, rfl⟩
  obtain ⟨L0, hL0⟩ : ∃ L0, l.length = L0 := ⟨_, rfl⟩
  rw [hL0, hL1, hL2, hL3] at C1 ⊢
  clear hL0 hL1 hL2 hL3
  have hA := hid (Blk.new w 28 #[.int .i64 k, .int .u64 p, .slice pa L0 pc, .int .i64 r, .int .i64 c, .slice ua L1 uc, .int .i64 r2, .int .i64 c2, .slice va L2 vc, .slice ba L3 bc])
  obtain ⟨a0, a1, a2, a3, a4, a5, a6, a7, a8, a9⟩ := hA.out.at10
  go_enter Tryz.func10, Tryz.ntmps10
  go_wp2_with (go_at_call 12; refine (C1.out _ (by repeat (first | exact Ext.refl _ | assumption | refine Ext.drew ?_ | refine Ext.drewN ?_ _ | refine Ext.alloc ?_ _ | refine Ext.trans ?_ (by assumption)))).mono ?_; rintro _ w1 ⟨rfl, x1⟩)
  go_ret2
  exact ⟨rfl, (by repeat (first | exact Ext.refl _ | assumption | refine Ext.drew ?_ | refine Ext.drewN ?_ _ | refine Ext.alloc ?_ _ | refine Ext.trans ?_ (by assumption)))⟩
def RetWays (w : World) (e : Ending) (w' : World) : Prop := ∃ g, e = .returned (.slice (some ⟨g, 0, none⟩) 8 8) ∧ Blk w' g 51 #[.nilFunc, .func (.func 52) #[] #[], .func (.func 53) #[] #[], .func (.func 54) #[] #[],
  .func (.func 55) #[] #[], .func (.func 56) #[] #[], .func (.func 57) #[] #[], .func (.func 58) #[] #[]] ∧ Ext w w'
set_option maxHeartbeats 1000000 in
theorem tkAnswers (w : World) : Calls Tryz.prog 26 #[] w (RetWays w) := by
  go_enter Tryz.func26, Tryz.ntmps26
  go_wp2_with fail
  go_ret
  exact ⟨_, rfl, Blk.new _ _ _, (by repeat (first | exact Ext.refl _ | assumption | refine Ext.drew ?_ | refine Ext.drewN ?_ _ | refine Ext.alloc ?_ _ | refine Ext.trans ?_ (by assumption)))⟩
set_option maxHeartbeats 2000000 in
theorem tkAnswer_1 (T : Tsk) (pv u u2 bv : Value) (w : World) (h : TkR w T pv u u2 bv) (hz : TkZ T) (hb : taskB T = true) (hk : T.k = 1) (L : List Int) (C : ∀ W, Ext w W → Calls Tryz.prog 52 #[taskV T pv u u2 bv] W (RetL L W)) :
    Calls Tryz.prog 10 #[taskV T pv u u2 bv] w (RetE 0 L w) := by
  have C1 := hid fun (W : World) (hW : Ext w W) => tkRight T pv u u2 bv W (h.ext hW) hz
  rw [hb] at C1
  have C2 := hid fun (W : World) => tkAnswers W
  have C3 := hid C
  clear C
  obtain ⟨⟨pa, pc, rfl, -, -, -⟩, ⟨ua, uc, rfl, -, -, -⟩, ⟨va, vc, rfl, -, -, -⟩, ⟨ba, bc, rfl, -, -, -⟩⟩ := h
  clear hz hb
  obtain ⟨k, p, l, r, c, xs, r2, c2, ys, bs⟩ := T
  simp only [taskV] at *
  obtain ⟨L2, hL2⟩ : ∃ L2, ys.length = L2 := ⟨_, rfl⟩
  obtain ⟨L3, hL3⟩ : ∃ L3, bs.length = L3 := ⟨_, rfl⟩
  obtain ⟨L1, hL1⟩ : ∃ L1, xs.length = L1 := ⟨_, rfl⟩
  obtain ⟨L0, hL0⟩ : ∃ L0, l.length = L0 := ⟨_, rfl⟩
  rw [hL0, hL1, hL2, hL3] at C1 C3 ⊢
  clear hL0 hL1 hL2 hL3
  subst hk
  have hA := hid (Blk.new w 28 #[.int .i64 1, .int .u64 p, .slice pa L0 pc, .int .i64 r, .int .i64 c, .slice ua L1 uc, .int .i64 r2, .int .i64 c2, .slice va L2 vc, .slice ba L3 bc])
  obtain ⟨a0, a1, a2, a3, a4, a5, a6, a7, a8, a9⟩ := hA.out.at10
  go_enter Tryz.func10, Tryz.ntmps10
  go_wp2_with (go_at_call 12; refine (C1.out _ (by repeat (first | exact Ext.refl _ | assumption | refine Ext.drew ?_ | refine Ext.drewN ?_ _ | refine Ext.alloc ?_ _ | refine Ext.trans ?_ (by assumption)))).mono ?_; rintro _ w1 ⟨rfl, x1⟩; obtain ⟨d0, d1, d2, d3, d4, d5, d6, d7, d8, d9⟩ := (hA.out.ext x1).at10)
  have fs := hid fun (W : World) (hW : Ext w1 W) => ((hA.out.ext x1).ext hW).at10
  clear d0 d1 d2 d3 d4 d5 d6 d7 d8 d9
  refine wp_region_held_drew (S := fun W' => Ext w1 W') (by kernel_rfl) ((Ext.refl w1).drew) (fun hHeld => ?_)
  refine wpAnyH_take (i := 1) (v := .pointer (some ⟨w.heap.size, 0, none⟩)) rfl (by kernel_rfl) (by kernel_rfl) (by kernel_rfl) (fun _ _ _ h => h) (Or.inl ⟨by rfl, ?_⟩) hHeld ?_
  · intro W' hSw
    go_simp
  refine wpAnyH_take (i := 2) (v := .int .i64 1) rfl (by kernel_rfl) (by kernel_rfl) (by kernel_rfl) (fun _ _ _ h => h) (Or.inl ⟨by rfl, ?_⟩) hHeld ?_
  · intro W' hSw
    obtain ⟨d0, d1, d2, d3, d4, d5, d6, d7, d8, d9⟩ := fs.out W' hSw
    go_simp
  refine wpAnyH_take (i := 5) (v := .agg #[.int .i64 1, .int .u64 p, .slice pa L0 pc, .int .i64 r, .int .i64 c, .slice ua L1 uc, .int .i64 r2, .int .i64 c2, .slice va L2 vc, .slice ba L3 bc]) rfl (by kernel_rfl) (by kernel_rfl) (by kernel_rfl) (fun _ _ _ h => h) (Or.inl ⟨by rfl, ?_⟩) hHeld ?_
  · intro W' hSw
    obtain ⟨d0, d1, d2, d3, d4, d5, d6, d7, d8, d9⟩ := fs.out W' hSw
    go_simp
  refine held_step 0 (by kernel_rfl) rfl (fun K hK => ?_)
  go_simp
  go_wp2_with fail
  refine (C2.out _).mono ?_
  rintro _ w2 ⟨g2, rfl, hB2, x2⟩
  have x2' : Ext w1 w2 := hHeld.trans x2
  have q2 : w2.cell? ⟨g2, 1, none⟩ = some (.func (.func 52) #[] #[]) := hB2.cell 1
  have HQ2 := hid q2
  clear q2 hB2
  go_wp2_with fail
  refine hK.out _ _ x2' (fun hHeld => ?_)
  clear hK K
  refine wpAnyH_take (i := 3) (v := .pointer (some ⟨g2, 1, none⟩)) rfl (by kernel_rfl) (by kernel_rfl) (by kernel_rfl) (fun _ _ _ h => h) (Or.inl ⟨by rfl, ?_⟩) hHeld ?_
  · intro W' hSw
    go_simp
  refine held_step 4 (by kernel_rfl) rfl (fun K hK => ?_)
  have q2 := HQ2.out
  go_simp
  refine hK.out _ _ x2' (fun hHeld => ?_)
  clear hK K
  refine held_step 6 (by kernel_rfl) rfl (fun K hK => ?_)
  go_simp
  go_wp2_with fail
  refine (C3.out _ (by repeat (first | exact Ext.refl _ | assumption | refine Ext.alloc ?_ _ | refine Ext.trans ?_ (by assumption)))).mono ?_
  rintro _ w3 ⟨v, rfl, hv, x3⟩
  have x3' : Ext w1 w3 := x2'.trans x3
  go_wp2_with fail
  refine hK.out _ _ x3' (fun hHeld => ?_)
  clear hK K
  have HV := hid hv
  obtain ⟨av, cv, rfl, -, -, -⟩ := hv
  refine held_step 7 (by kernel_rfl) rfl (fun K hK => ?_)
  go_simp
  refine hK.out _ _ hHeld (fun hHeld => ?_)
  clear hK K
  refine held_step 8 (by kernel_rfl) rfl (fun K hK => ?_)
  go_simp
  refine hK.out _ _ hHeld (fun hHeld => ?_)
  clear hK K
  refine wpAnyH_done (by kernel_rfl) ?_ _
  go_wp2_with fail
  go_ret2
  exact ⟨_, rfl, HV.out.ext (by repeat (first | exact Ext.refl _ | assumption | refine Ext.drew ?_ | refine Ext.drewN ?_ _ | refine Ext.alloc ?_ _ | refine Ext.trans ?_ (by assumption))), (by repeat (first | exact Ext.refl _ | assumption | refine Ext.drew ?_ | refine Ext.drewN ?_ _ | refine Ext.alloc ?_ _ | refine Ext.trans ?_ (by assumption)))⟩
set_option maxHeartbeats 2000000 in
theorem tkAnswer_2 (T : Tsk) (pv u u2 bv : Value) (w : World) (h : TkR w T pv u u2 bv) (hz : TkZ T) (hb : taskB T = true) (hk : T.k = 2) (L : List Int) (C : ∀ W, Ext w W → Calls Tryz.prog 53 #[taskV T pv u u2 bv] W (RetL L W)) :
    Calls Tryz.prog 10 #[taskV T pv u u2 bv] w (RetE 0 L w) := by
  have C1 := hid fun (W : World) (hW : Ext w W) => tkRight T pv u u2 bv W (h.ext hW) hz
  rw [hb] at C1
  have C2 := hid fun (W : World) => tkAnswers W
  have C3 := hid C
  clear C
  obtain ⟨⟨pa, pc, rfl, -, -, -⟩, ⟨ua, uc, rfl, -, -, -⟩, ⟨va, vc, rfl, -, -, -⟩, ⟨ba, bc, rfl, -, -, -⟩⟩ := h
  clear hz hb
  obtain ⟨k, p, l, r, c, xs, r2, c2, ys, bs⟩ := T
  simp only [taskV] at *
  obtain ⟨L2, hL2⟩ : ∃ L2, ys.length = L2 := ⟨_, rfl⟩
  obtain ⟨L3, hL3⟩ : ∃ L3, bs.length = L3 := ⟨_, rfl⟩
  obtain ⟨L1, hL1⟩ : ∃ L1, xs.length = L1 := ⟨_, rfl⟩
  obtain ⟨L0, hL0⟩ : ∃ L0, l.length = L0 := ⟨_, rfl⟩
  rw [hL0, hL1, hL2, hL3] at C1 C3 ⊢
  clear hL0 hL1 hL2 hL3
  subst hk
  have hA := hid (Blk.new w 28 #[.int .i64 2, .int .u64 p, .slice pa L0 pc, .int .i64 r, .int .i64 c, .slice ua L1 uc, .int .i64 r2, .int .i64 c2, .slice va L2 vc, .slice ba L3 bc])
  obtain ⟨a0, a1, a2, a3, a4, a5, a6, a7, a8, a9⟩ := hA.out.at10
  go_enter Tryz.func10, Tryz.ntmps10
  go_wp2_with (go_at_call 12; refine (C1.out _ (by repeat (first | exact Ext.refl _ | assumption | refine Ext.drew ?_ | refine Ext.drewN ?_ _ | refine Ext.alloc ?_ _ | refine Ext.trans ?_ (by assumption)))).mono ?_; rintro _ w1 ⟨rfl, x1⟩; obtain ⟨d0, d1, d2, d3, d4, d5, d6, d7, d8, d9⟩ := (hA.out.ext x1).at10)
  have fs := hid fun (W : World) (hW : Ext w1 W) => ((hA.out.ext x1).ext hW).at10
  clear d0 d1 d2 d3 d4 d5 d6 d7 d8 d9
  refine wp_region_held_drew (S := fun W' => Ext w1 W') (by kernel_rfl) ((Ext.refl w1).drew) (fun hHeld => ?_)
  refine wpAnyH_take (i := 1) (v := .pointer (some ⟨w.heap.size, 0, none⟩)) rfl (by kernel_rfl) (by kernel_rfl) (by kernel_rfl) (fun _ _ _ h => h) (Or.inl ⟨by rfl, ?_⟩) hHeld ?_
  · intro W' hSw
    go_simp
  refine wpAnyH_take (i := 2) (v := .int .i64 2) rfl (by kernel_rfl) (by kernel_rfl) (by kernel_rfl) (fun _ _ _ h => h) (Or.inl ⟨by rfl, ?_⟩) hHeld ?_
  · intro W' hSw
    obtain ⟨d0, d1, d2, d3, d4, d5, d6, d7, d8, d9⟩ := fs.out W' hSw
    go_simp
  refine wpAnyH_take (i := 5) (v := .agg #[.int .i64 2, .int .u64 p, .slice pa L0 pc, .int .i64 r, .int .i64 c, .slice ua L1 uc, .int .i64 r2, .int .i64 c2, .slice va L2 vc, .slice ba L3 bc]) rfl (by kernel_rfl) (by kernel_rfl) (by kernel_rfl) (fun _ _ _ h => h) (Or.inl ⟨by rfl, ?_⟩) hHeld ?_
  · intro W' hSw
    obtain ⟨d0, d1, d2, d3, d4, d5, d6, d7, d8, d9⟩ := fs.out W' hSw
    go_simp
  refine held_step 0 (by kernel_rfl) rfl (fun K hK => ?_)
  go_simp
  go_wp2_with fail
  refine (C2.out _).mono ?_
  rintro _ w2 ⟨g2, rfl, hB2, x2⟩
  have x2' : Ext w1 w2 := hHeld.trans x2
  have q2 : w2.cell? ⟨g2, 2, none⟩ = some (.func (.func 53) #[] #[]) := hB2.cell 2
  have HQ2 := hid q2
  clear q2 hB2
  go_wp2_with fail
  refine hK.out _ _ x2' (fun hHeld => ?_)
  clear hK K
  refine wpAnyH_take (i := 3) (v := .pointer (some ⟨g2, 2, none⟩)) rfl (by kernel_rfl) (by kernel_rfl) (by kernel_rfl) (fun _ _ _ h => h) (Or.inl ⟨by rfl, ?_⟩) hHeld ?_
  · intro W' hSw
    go_simp
  refine held_step 4 (by kernel_rfl) rfl (fun K hK => ?_)
  have q2 := HQ2.out
  go_simp
  refine hK.out _ _ x2' (fun hHeld => ?_)
  clear hK K
  refine held_step 6 (by kernel_rfl) rfl (fun K hK => ?_)
  go_simp
  go_wp2_with fail
  refine (C3.out _ (by repeat (first | exact Ext.refl _ | assumption | refine Ext.alloc ?_ _ | refine Ext.trans ?_ (by assumption)))).mono ?_
  rintro _ w3 ⟨v, rfl, hv, x3⟩
  have x3' : Ext w1 w3 := x2'.trans x3
  go_wp2_with fail
  refine hK.out _ _ x3' (fun hHeld => ?_)
  clear hK K
  have HV := hid hv
  obtain ⟨av, cv, rfl, -, -, -⟩ := hv
  refine held_step 7 (by kernel_rfl) rfl (fun K hK => ?_)
  go_simp
  refine hK.out _ _ hHeld (fun hHeld => ?_)
  clear hK K
  refine held_step 8 (by kernel_rfl) rfl (fun K hK => ?_)
  go_simp
  refine hK.out _ _ hHeld (fun hHeld => ?_)
  clear hK K
  refine wpAnyH_done (by kernel_rfl) ?_ _
  go_wp2_with fail
  go_ret2
  exact ⟨_, rfl, HV.out.ext (by repeat (first | exact Ext.refl _ | assumption | refine Ext.drew ?_ | refine Ext.drewN ?_ _ | refine Ext.alloc ?_ _ | refine Ext.trans ?_ (by assumption))), (by repeat (first | exact Ext.refl _ | assumption | refine Ext.drew ?_ | refine Ext.drewN ?_ _ | refine Ext.alloc ?_ _ | refine Ext.trans ?_ (by assumption)))⟩
set_option maxHeartbeats 2000000 in
theorem tkAnswer_3 (T : Tsk) (pv u u2 bv : Value) (w : World) (h : TkR w T pv u u2 bv) (hz : TkZ T) (hb : taskB T = true) (hk : T.k = 3) (L : List Int) (C : ∀ W, Ext w W → Calls Tryz.prog 54 #[taskV T pv u u2 bv] W (RetL L W)) :
    Calls Tryz.prog 10 #[taskV T pv u u2 bv] w (RetE 0 L w) := by
  have C1 := hid fun (W : World) (hW : Ext w W) => tkRight T pv u u2 bv W (h.ext hW) hz
  rw [hb] at C1
  have C2 := hid fun (W : World) => tkAnswers W
  have C3 := hid C
  clear C
  obtain ⟨⟨pa, pc, rfl, -, -, -⟩, ⟨ua, uc, rfl, -, -, -⟩, ⟨va, vc, rfl, -, -, -⟩, ⟨ba, bc, rfl, -, -, -⟩⟩ := h
  clear hz hb
  obtain ⟨k, p, l, r, c, xs, r2, c2, ys, bs⟩ := T
  simp only [taskV] at *
  obtain ⟨L2, hL2⟩ : ∃ L2, ys.length = L2 := ⟨_, rfl⟩
  obtain ⟨L3, hL3⟩ : ∃ L3, bs.length = L3 := ⟨_, rfl⟩
  obtain ⟨L1, hL1⟩ : ∃ L1, xs.length = L1 := ⟨_, rfl⟩
  obtain ⟨L0, hL0⟩ : ∃ L0, l.length = L0 := ⟨_, rfl⟩
  rw [hL0, hL1, hL2, hL3] at C1 C3 ⊢
  clear hL0 hL1 hL2 hL3
  subst hk
  have hA := hid (Blk.new w 28 #[.int .i64 3, .int .u64 p, .slice pa L0 pc, .int .i64 r, .int .i64 c, .slice ua L1 uc, .int .i64 r2, .int .i64 c2, .slice va L2 vc, .slice ba L3 bc])
  obtain ⟨a0, a1, a2, a3, a4, a5, a6, a7, a8, a9⟩ := hA.out.at10
  go_enter Tryz.func10, Tryz.ntmps10
  go_wp2_with (go_at_call 12; refine (C1.out _ (by repeat (first | exact Ext.refl _ | assumption | refine Ext.drew ?_ | refine Ext.drewN ?_ _ | refine Ext.alloc ?_ _ | refine Ext.trans ?_ (by assumption)))).mono ?_; rintro _ w1 ⟨rfl, x1⟩; obtain ⟨d0, d1, d2, d3, d4, d5, d6, d7, d8, d9⟩ := (hA.out.ext x1).at10)
  have fs := hid fun (W : World) (hW : Ext w1 W) => ((hA.out.ext x1).ext hW).at10
  clear d0 d1 d2 d3 d4 d5 d6 d7 d8 d9
  refine wp_region_held_drew (S := fun W' => Ext w1 W') (by kernel_rfl) ((Ext.refl w1).drew) (fun hHeld => ?_)
  refine wpAnyH_take (i := 1) (v := .pointer (some ⟨w.heap.size, 0, none⟩)) rfl (by kernel_rfl) (by kernel_rfl) (by kernel_rfl) (fun _ _ _ h => h) (Or.inl ⟨by rfl, ?_⟩) hHeld ?_
  · intro W' hSw
    go_simp
  refine wpAnyH_take (i := 2) (v := .int .i64 3) rfl (by kernel_rfl) (by kernel_rfl) (by kernel_rfl) (fun _ _ _ h => h) (Or.inl ⟨by rfl, ?_⟩) hHeld ?_
  · intro W' hSw
    obtain ⟨d0, d1, d2, d3, d4, d5, d6, d7, d8, d9⟩ := fs.out W' hSw
    go_simp
  refine wpAnyH_take (i := 5) (v := .agg #[.int .i64 3, .int .u64 p, .slice pa L0 pc, .int .i64 r, .int .i64 c, .slice ua L1 uc, .int .i64 r2, .int .i64 c2, .slice va L2 vc, .slice ba L3 bc]) rfl (by kernel_rfl) (by kernel_rfl) (by kernel_rfl) (fun _ _ _ h => h) (Or.inl ⟨by rfl, ?_⟩) hHeld ?_
  · intro W' hSw
    obtain ⟨d0, d1, d2, d3, d4, d5, d6, d7, d8, d9⟩ := fs.out W' hSw
    go_simp
  refine held_step 0 (by kernel_rfl) rfl (fun K hK => ?_)
  go_simp
  go_wp2_with fail
  refine (C2.out _).mono ?_
  rintro _ w2 ⟨g2, rfl, hB2, x2⟩
  have x2' : Ext w1 w2 := hHeld.trans x2
  have q2 : w2.cell? ⟨g2, 3, none⟩ = some (.func (.func 54) #[] #[]) := hB2.cell 3
  have HQ2 := hid q2
  clear q2 hB2
  go_wp2_with fail
  refine hK.out _ _ x2' (fun hHeld => ?_)
  clear hK K
  refine wpAnyH_take (i := 3) (v := .pointer (some ⟨g2, 3, none⟩)) rfl (by kernel_rfl) (by kernel_rfl) (by kernel_rfl) (fun _ _ _ h => h) (Or.inl ⟨by rfl, ?_⟩) hHeld ?_
  · intro W' hSw
    go_simp
  refine held_step 4 (by kernel_rfl) rfl (fun K hK => ?_)
  have q2 := HQ2.out
  go_simp
  refine hK.out _ _ x2' (fun hHeld => ?_)
  clear hK K
  refine held_step 6 (by kernel_rfl) rfl (fun K hK => ?_)
  go_simp
  go_wp2_with fail
  refine (C3.out _ (by repeat (first | exact Ext.refl _ | assumption | refine Ext.alloc ?_ _ | refine Ext.trans ?_ (by assumption)))).mono ?_
  rintro _ w3 ⟨v, rfl, hv, x3⟩
  have x3' : Ext w1 w3 := x2'.trans x3
  go_wp2_with fail
  refine hK.out _ _ x3' (fun hHeld => ?_)
  clear hK K
  have HV := hid hv
  obtain ⟨av, cv, rfl, -, -, -⟩ := hv
  refine held_step 7 (by kernel_rfl) rfl (fun K hK => ?_)
  go_simp
  refine hK.out _ _ hHeld (fun hHeld => ?_)
  clear hK K
  refine held_step 8 (by kernel_rfl) rfl (fun K hK => ?_)
  go_simp
  refine hK.out _ _ hHeld (fun hHeld => ?_)
  clear hK K
  refine wpAnyH_done (by kernel_rfl) ?_ _
  go_wp2_with fail
  go_ret2
  exact ⟨_, rfl, HV.out.ext (by repeat (first | exact Ext.refl _ | assumption | refine Ext.drew ?_ | refine Ext.drewN ?_ _ | refine Ext.alloc ?_ _ | refine Ext.trans ?_ (by assumption))), (by repeat (first | exact Ext.refl _ | assumption | refine Ext.drew ?_ | refine Ext.drewN ?_ _ | refine Ext.alloc ?_ _ | refine Ext.trans ?_ (by assumption)))⟩
set_option maxHeartbeats 2000000 in
theorem tkAnswer_4 (T : Tsk) (pv u u2 bv : Value) (w : World) (h : TkR w T pv u u2 bv) (hz : TkZ T) (hb : taskB T = true) (hk : T.k = 4) (L : List Int) (C : ∀ W, Ext w W → Calls Tryz.prog 55 #[taskV T pv u u2 bv] W (RetL L W)) :
    Calls Tryz.prog 10 #[taskV T pv u u2 bv] w (RetE 0 L w) := by
  have C1 := hid fun (W : World) (hW : Ext w W) => tkRight T pv u u2 bv W (h.ext hW) hz
  rw [hb] at C1
  have C2 := hid fun (W : World) => tkAnswers W
  have C3 := hid C
  clear C
  obtain ⟨⟨pa, pc, rfl, -, -, -⟩, ⟨ua, uc, rfl, -, -, -⟩, ⟨va, vc, rfl, -, -, -⟩, ⟨ba, bc, rfl, -, -, -⟩⟩ := h
  clear hz hb
  obtain ⟨k, p, l, r, c, xs, r2, c2, ys, bs⟩ := T
  simp only [taskV] at *
  obtain ⟨L2, hL2⟩ : ∃ L2, ys.length = L2 := ⟨_, rfl⟩
  obtain ⟨L3, hL3⟩ : ∃ L3, bs.length = L3 := ⟨_, rfl⟩
  obtain ⟨L1, hL1⟩ : ∃ L1, xs.length = L1 := ⟨_, rfl⟩
  obtain ⟨L0, hL0⟩ : ∃ L0, l.length = L0 := ⟨_, rfl⟩
  rw [hL0, hL1, hL2, hL3] at C1 C3 ⊢
  clear hL0 hL1 hL2 hL3
  subst hk
  have hA := hid (Blk.new w 28 #[.int .i64 4, .int .u64 p, .slice pa L0 pc, .int .i64 r, .int .i64 c, .slice ua L1 uc, .int .i64 r2, .int .i64 c2, .slice va L2 vc, .slice ba L3 bc])
  obtain ⟨a0, a1, a2, a3, a4, a5, a6, a7, a8, a9⟩ := hA.out.at10
  go_enter Tryz.func10, Tryz.ntmps10
  go_wp2_with (go_at_call 12; refine (C1.out _ (by repeat (first | exact Ext.refl _ | assumption | refine Ext.drew ?_ | refine Ext.drewN ?_ _ | refine Ext.alloc ?_ _ | refine Ext.trans ?_ (by assumption)))).mono ?_; rintro _ w1 ⟨rfl, x1⟩; obtain ⟨d0, d1, d2, d3, d4, d5, d6, d7, d8, d9⟩ := (hA.out.ext x1).at10)
  have fs := hid fun (W : World) (hW : Ext w1 W) => ((hA.out.ext x1).ext hW).at10
  clear d0 d1 d2 d3 d4 d5 d6 d7 d8 d9
  refine wp_region_held_drew (S := fun W' => Ext w1 W') (by kernel_rfl) ((Ext.refl w1).drew) (fun hHeld => ?_)
  refine wpAnyH_take (i := 1) (v := .pointer (some ⟨w.heap.size, 0, none⟩)) rfl (by kernel_rfl) (by kernel_rfl) (by kernel_rfl) (fun _ _ _ h => h) (Or.inl ⟨by rfl, ?_⟩) hHeld ?_
  · intro W' hSw
    go_simp
  refine wpAnyH_take (i := 2) (v := .int .i64 4) rfl (by kernel_rfl) (by kernel_rfl) (by kernel_rfl) (fun _ _ _ h => h) (Or.inl ⟨by rfl, ?_⟩) hHeld ?_
  · intro W' hSw
    obtain ⟨d0, d1, d2, d3, d4, d5, d6, d7, d8, d9⟩ := fs.out W' hSw
    go_simp
  refine wpAnyH_take (i := 5) (v := .agg #[.int .i64 4, .int .u64 p, .slice pa L0 pc, .int .i64 r, .int .i64 c, .slice ua L1 uc, .int .i64 r2, .int .i64 c2, .slice va L2 vc, .slice ba L3 bc]) rfl (by kernel_rfl) (by kernel_rfl) (by kernel_rfl) (fun _ _ _ h => h) (Or.inl ⟨by rfl, ?_⟩) hHeld ?_
  · intro W' hSw
    obtain ⟨d0, d1, d2, d3, d4, d5, d6, d7, d8, d9⟩ := fs.out W' hSw
    go_simp
  refine held_step 0 (by kernel_rfl) rfl (fun K hK => ?_)
  go_simp
  go_wp2_with fail
  refine (C2.out _).mono ?_
  rintro _ w2 ⟨g2, rfl, hB2, x2⟩
  have x2' : Ext w1 w2 := hHeld.trans x2
  have q2 : w2.cell? ⟨g2, 4, none⟩ = some (.func (.func 55) #[] #[]) := hB2.cell 4
  have HQ2 := hid q2
  clear q2 hB2
  go_wp2_with fail
  refine hK.out _ _ x2' (fun hHeld => ?_)
  clear hK K
  refine wpAnyH_take (i := 3) (v := .pointer (some ⟨g2, 4, none⟩)) rfl (by kernel_rfl) (by kernel_rfl) (by kernel_rfl) (fun _ _ _ h => h) (Or.inl ⟨by rfl, ?_⟩) hHeld ?_
  · intro W' hSw
    go_simp
  refine held_step 4 (by kernel_rfl) rfl (fun K hK => ?_)
  have q2 := HQ2.out
  go_simp
  refine hK.out _ _ x2' (fun hHeld => ?_)
  clear hK K
  refine held_step 6 (by kernel_rfl) rfl (fun K hK => ?_)
  go_simp
  go_wp2_with fail
  refine (C3.out _ (by repeat (first | exact Ext.refl _ | assumption | refine Ext.alloc ?_ _ | refine Ext.trans ?_ (by assumption)))).mono ?_
  rintro _ w3 ⟨v, rfl, hv, x3⟩
  have x3' : Ext w1 w3 := x2'.trans x3
  go_wp2_with fail
  refine hK.out _ _ x3' (fun hHeld => ?_)
  clear hK K
  have HV := hid hv
  obtain ⟨av, cv, rfl, -, -, -⟩ := hv
  refine held_step 7 (by kernel_rfl) rfl (fun K hK => ?_)
  go_simp
  refine hK.out _ _ hHeld (fun hHeld => ?_)
  clear hK K
  refine held_step 8 (by kernel_rfl) rfl (fun K hK => ?_)
  go_simp
  refine hK.out _ _ hHeld (fun hHeld => ?_)
  clear hK K
  refine wpAnyH_done (by kernel_rfl) ?_ _
  go_wp2_with fail
  go_ret2
  exact ⟨_, rfl, HV.out.ext (by repeat (first | exact Ext.refl _ | assumption | refine Ext.drew ?_ | refine Ext.drewN ?_ _ | refine Ext.alloc ?_ _ | refine Ext.trans ?_ (by assumption))), (by repeat (first | exact Ext.refl _ | assumption | refine Ext.drew ?_ | refine Ext.drewN ?_ _ | refine Ext.alloc ?_ _ | refine Ext.trans ?_ (by assumption)))⟩
set_option maxHeartbeats 2000000 in
theorem tkAnswer_5 (T : Tsk) (pv u u2 bv : Value) (w : World) (h : TkR w T pv u u2 bv) (hz : TkZ T) (hb : taskB T = true) (hk : T.k = 5) (L : List Int) (C : ∀ W, Ext w W → Calls Tryz.prog 56 #[taskV T pv u u2 bv] W (RetL L W)) :
    Calls Tryz.prog 10 #[taskV T pv u u2 bv] w (RetE 0 L w) := by
  have C1 := hid fun (W : World) (hW : Ext w W) => tkRight T pv u u2 bv W (h.ext hW) hz
  rw [hb] at C1
  have C2 := hid fun (W : World) => tkAnswers W
  have C3 := hid C
  clear C
  obtain ⟨⟨pa, pc, rfl, -, -, -⟩, ⟨ua, uc, rfl, -, -, -⟩, ⟨va, vc, rfl, -, -, -⟩, ⟨ba, bc, rfl, -, -, -⟩⟩ := h
  clear hz hb
  obtain ⟨k, p, l, r, c, xs, r2, c2, ys, bs⟩ := T
  simp only [taskV] at *
  obtain ⟨L2, hL2⟩ : ∃ L2, ys.length = L2 := ⟨_, rfl⟩
  obtain ⟨L3, hL3⟩ : ∃ L3, bs.length = L3 := ⟨_, rfl⟩
  obtain ⟨L1, hL1⟩ : ∃ L1, xs.length = L1 := ⟨_, rfl⟩
  obtain ⟨L0, hL0⟩ : ∃ L0, l.length = L0 := ⟨_, rfl⟩
  rw [hL0, hL1, hL2, hL3] at C1 C3 ⊢
  clear hL0 hL1 hL2 hL3
  subst hk
  have hA := hid (Blk.new w 28 #[.int .i64 5, .int .u64 p, .slice pa L0 pc, .int .i64 r, .int .i64 c, .slice ua L1 uc, .int .i64 r2, .int .i64 c2, .slice va L2 vc, .slice ba L3 bc])
  obtain ⟨a0, a1, a2, a3, a4, a5, a6, a7, a8, a9⟩ := hA.out.at10
  go_enter Tryz.func10, Tryz.ntmps10
  go_wp2_with (go_at_call 12; refine (C1.out _ (by repeat (first | exact Ext.refl _ | assumption | refine Ext.drew ?_ | refine Ext.drewN ?_ _ | refine Ext.alloc ?_ _ | refine Ext.trans ?_ (by assumption)))).mono ?_; rintro _ w1 ⟨rfl, x1⟩; obtain ⟨d0, d1, d2, d3, d4, d5, d6, d7, d8, d9⟩ := (hA.out.ext x1).at10)
  have fs := hid fun (W : World) (hW : Ext w1 W) => ((hA.out.ext x1).ext hW).at10
  clear d0 d1 d2 d3 d4 d5 d6 d7 d8 d9
  refine wp_region_held_drew (S := fun W' => Ext w1 W') (by kernel_rfl) ((Ext.refl w1).drew) (fun hHeld => ?_)
  refine wpAnyH_take (i := 1) (v := .pointer (some ⟨w.heap.size, 0, none⟩)) rfl (by kernel_rfl) (by kernel_rfl) (by kernel_rfl) (fun _ _ _ h => h) (Or.inl ⟨by rfl, ?_⟩) hHeld ?_
  · intro W' hSw
    go_simp
  refine wpAnyH_take (i := 2) (v := .int .i64 5) rfl (by kernel_rfl) (by kernel_rfl) (by kernel_rfl) (fun _ _ _ h => h) (Or.inl ⟨by rfl, ?_⟩) hHeld ?_
  · intro W' hSw
    obtain ⟨d0, d1, d2, d3, d4, d5, d6, d7, d8, d9⟩ := fs.out W' hSw
    go_simp
  refine wpAnyH_take (i := 5) (v := .agg #[.int .i64 5, .int .u64 p, .slice pa L0 pc, .int .i64 r, .int .i64 c, .slice ua L1 uc, .int .i64 r2, .int .i64 c2, .slice va L2 vc, .slice ba L3 bc]) rfl (by kernel_rfl) (by kernel_rfl) (by kernel_rfl) (fun _ _ _ h => h) (Or.inl ⟨by rfl, ?_⟩) hHeld ?_
  · intro W' hSw
    obtain ⟨d0, d1, d2, d3, d4, d5, d6, d7, d8, d9⟩ := fs.out W' hSw
    go_simp
  refine held_step 0 (by kernel_rfl) rfl (fun K hK => ?_)
  go_simp
  go_wp2_with fail
  refine (C2.out _).mono ?_
  rintro _ w2 ⟨g2, rfl, hB2, x2⟩
  have x2' : Ext w1 w2 := hHeld.trans x2
  have q2 : w2.cell? ⟨g2, 5, none⟩ = some (.func (.func 56) #[] #[]) := hB2.cell 5
  have HQ2 := hid q2
  clear q2 hB2
  go_wp2_with fail
  refine hK.out _ _ x2' (fun hHeld => ?_)
  clear hK K
  refine wpAnyH_take (i := 3) (v := .pointer (some ⟨g2, 5, none⟩)) rfl (by kernel_rfl) (by kernel_rfl) (by kernel_rfl) (fun _ _ _ h => h) (Or.inl ⟨by rfl, ?_⟩) hHeld ?_
  · intro W' hSw
    go_simp
  refine held_step 4 (by kernel_rfl) rfl (fun K hK => ?_)
  have q2 := HQ2.out
  go_simp
  refine hK.out _ _ x2' (fun hHeld => ?_)
  clear hK K
  refine held_step 6 (by kernel_rfl) rfl (fun K hK => ?_)
  go_simp
  go_wp2_with fail
  refine (C3.out _ (by repeat (first | exact Ext.refl _ | assumption | refine Ext.alloc ?_ _ | refine Ext.trans ?_ (by assumption)))).mono ?_
  rintro _ w3 ⟨v, rfl, hv, x3⟩
  have x3' : Ext w1 w3 := x2'.trans x3
  go_wp2_with fail
  refine hK.out _ _ x3' (fun hHeld => ?_)
  clear hK K
  have HV := hid hv
  obtain ⟨av, cv, rfl, -, -, -⟩ := hv
  refine held_step 7 (by kernel_rfl) rfl (fun K hK => ?_)
  go_simp
  refine hK.out _ _ hHeld (fun hHeld => ?_)
  clear hK K
  refine held_step 8 (by kernel_rfl) rfl (fun K hK => ?_)
  go_simp
  refine hK.out _ _ hHeld (fun hHeld => ?_)
  clear hK K
  refine wpAnyH_done (by kernel_rfl) ?_ _
  go_wp2_with fail
  go_ret2
  exact ⟨_, rfl, HV.out.ext (by repeat (first | exact Ext.refl _ | assumption | refine Ext.drew ?_ | refine Ext.drewN ?_ _ | refine Ext.alloc ?_ _ | refine Ext.trans ?_ (by assumption))), (by repeat (first | exact Ext.refl _ | assumption | refine Ext.drew ?_ | refine Ext.drewN ?_ _ | refine Ext.alloc ?_ _ | refine Ext.trans ?_ (by assumption)))⟩
set_option maxHeartbeats 2000000 in
theorem tkAnswer_6 (T : Tsk) (pv u u2 bv : Value) (w : World) (h : TkR w T pv u u2 bv) (hz : TkZ T) (hb : taskB T = true) (hk : T.k = 6) (L : List Int) (C : ∀ W, Ext w W → Calls Tryz.prog 57 #[taskV T pv u u2 bv] W (RetL L W)) :
    Calls Tryz.prog 10 #[taskV T pv u u2 bv] w (RetE 0 L w) := by
  have C1 := hid fun (W : World) (hW : Ext w W) => tkRight T pv u u2 bv W (h.ext hW) hz
  rw [hb] at C1
  have C2 := hid fun (W : World) => tkAnswers W
  have C3 := hid C
  clear C
  obtain ⟨⟨pa, pc, rfl, -, -, -⟩, ⟨ua, uc, rfl, -, -, -⟩, ⟨va, vc, rfl, -, -, -⟩, ⟨ba, bc, rfl, -, -, -⟩⟩ := h
  clear hz hb
  obtain ⟨k, p, l, r, c, xs, r2, c2, ys, bs⟩ := T
  simp only [taskV] at *
  obtain ⟨L2, hL2⟩ : ∃ L2, ys.length = L2 := ⟨_, rfl⟩
  obtain ⟨L3, hL3⟩ : ∃ L3, bs.length = L3 := ⟨_, rfl⟩
  obtain ⟨L1, hL1⟩ : ∃ L1, xs.length = L1 := ⟨_, rfl⟩
  obtain ⟨L0, hL0⟩ : ∃ L0, l.length = L0 := ⟨_, rfl⟩
  rw [hL0, hL1, hL2, hL3] at C1 C3 ⊢
  clear hL0 hL1 hL2 hL3
  subst hk
  have hA := hid (Blk.new w 28 #[.int .i64 6, .int .u64 p, .slice pa L0 pc, .int .i64 r, .int .i64 c, .slice ua L1 uc, .int .i64 r2, .int .i64 c2, .slice va L2 vc, .slice ba L3 bc])
  obtain ⟨a0, a1, a2, a3, a4, a5, a6, a7, a8, a9⟩ := hA.out.at10
  go_enter Tryz.func10, Tryz.ntmps10
  go_wp2_with (go_at_call 12; refine (C1.out _ (by repeat (first | exact Ext.refl _ | assumption | refine Ext.drew ?_ | refine Ext.drewN ?_ _ | refine Ext.alloc ?_ _ | refine Ext.trans ?_ (by assumption)))).mono ?_; rintro _ w1 ⟨rfl, x1⟩; obtain ⟨d0, d1, d2, d3, d4, d5, d6, d7, d8, d9⟩ := (hA.out.ext x1).at10)
  have fs := hid fun (W : World) (hW : Ext w1 W) => ((hA.out.ext x1).ext hW).at10
  clear d0 d1 d2 d3 d4 d5 d6 d7 d8 d9
  refine wp_region_held_drew (S := fun W' => Ext w1 W') (by kernel_rfl) ((Ext.refl w1).drew) (fun hHeld => ?_)
  refine wpAnyH_take (i := 1) (v := .pointer (some ⟨w.heap.size, 0, none⟩)) rfl (by kernel_rfl) (by kernel_rfl) (by kernel_rfl) (fun _ _ _ h => h) (Or.inl ⟨by rfl, ?_⟩) hHeld ?_
  · intro W' hSw
    go_simp
  refine wpAnyH_take (i := 2) (v := .int .i64 6) rfl (by kernel_rfl) (by kernel_rfl) (by kernel_rfl) (fun _ _ _ h => h) (Or.inl ⟨by rfl, ?_⟩) hHeld ?_
  · intro W' hSw
    obtain ⟨d0, d1, d2, d3, d4, d5, d6, d7, d8, d9⟩ := fs.out W' hSw
    go_simp
  refine wpAnyH_take (i := 5) (v := .agg #[.int .i64 6, .int .u64 p, .slice pa L0 pc, .int .i64 r, .int .i64 c, .slice ua L1 uc, .int .i64 r2, .int .i64 c2, .slice va L2 vc, .slice ba L3 bc]) rfl (by kernel_rfl) (by kernel_rfl) (by kernel_rfl) (fun _ _ _ h => h) (Or.inl ⟨by rfl, ?_⟩) hHeld ?_
  · intro W' hSw
    obtain ⟨d0, d1, d2, d3, d4, d5, d6, d7, d8, d9⟩ := fs.out W' hSw
    go_simp
  refine held_step 0 (by kernel_rfl) rfl (fun K hK => ?_)
  go_simp
  go_wp2_with fail
  refine (C2.out _).mono ?_
  rintro _ w2 ⟨g2, rfl, hB2, x2⟩
  have x2' : Ext w1 w2 := hHeld.trans x2
  have q2 : w2.cell? ⟨g2, 6, none⟩ = some (.func (.func 57) #[] #[]) := hB2.cell 6
  have HQ2 := hid q2
  clear q2 hB2
  go_wp2_with fail
  refine hK.out _ _ x2' (fun hHeld => ?_)
  clear hK K
  refine wpAnyH_take (i := 3) (v := .pointer (some ⟨g2, 6, none⟩)) rfl (by kernel_rfl) (by kernel_rfl) (by kernel_rfl) (fun _ _ _ h => h) (Or.inl ⟨by rfl, ?_⟩) hHeld ?_
  · intro W' hSw
    go_simp
  refine held_step 4 (by kernel_rfl) rfl (fun K hK => ?_)
  have q2 := HQ2.out
  go_simp
  refine hK.out _ _ x2' (fun hHeld => ?_)
  clear hK K
  refine held_step 6 (by kernel_rfl) rfl (fun K hK => ?_)
  go_simp
  go_wp2_with fail
  refine (C3.out _ (by repeat (first | exact Ext.refl _ | assumption | refine Ext.alloc ?_ _ | refine Ext.trans ?_ (by assumption)))).mono ?_
  rintro _ w3 ⟨v, rfl, hv, x3⟩
  have x3' : Ext w1 w3 := x2'.trans x3
  go_wp2_with fail
  refine hK.out _ _ x3' (fun hHeld => ?_)
  clear hK K
  have HV := hid hv
  obtain ⟨av, cv, rfl, -, -, -⟩ := hv
  refine held_step 7 (by kernel_rfl) rfl (fun K hK => ?_)
  go_simp
  refine hK.out _ _ hHeld (fun hHeld => ?_)
  clear hK K
  refine held_step 8 (by kernel_rfl) rfl (fun K hK => ?_)
  go_simp
  refine hK.out _ _ hHeld (fun hHeld => ?_)
  clear hK K
  refine wpAnyH_done (by kernel_rfl) ?_ _
  go_wp2_with fail
  go_ret2
  exact ⟨_, rfl, HV.out.ext (by repeat (first | exact Ext.refl _ | assumption | refine Ext.drew ?_ | refine Ext.drewN ?_ _ | refine Ext.alloc ?_ _ | refine Ext.trans ?_ (by assumption))), (by repeat (first | exact Ext.refl _ | assumption | refine Ext.drew ?_ | refine Ext.drewN ?_ _ | refine Ext.alloc ?_ _ | refine Ext.trans ?_ (by assumption)))⟩
set_option maxHeartbeats 2000000 in
theorem tkAnswer_7 (T : Tsk) (pv u u2 bv : Value) (w : World) (h : TkR w T pv u u2 bv) (hz : TkZ T) (hb : taskB T = true) (hk : T.k = 7) (L : List Int) (C : ∀ W, Ext w W → Calls Tryz.prog 58 #[taskV T pv u u2 bv] W (RetL L W)) :
    Calls Tryz.prog 10 #[taskV T pv u u2 bv] w (RetE 0 L w) := by
  have C1 := hid fun (W : World) (hW : Ext w W) => tkRight T pv u u2 bv W (h.ext hW) hz
  rw [hb] at C1
  have C2 := hid fun (W : World) => tkAnswers W
  have C3 := hid C
  clear C
  obtain ⟨⟨pa, pc, rfl, -, -, -⟩, ⟨ua, uc, rfl, -, -, -⟩, ⟨va, vc, rfl, -, -, -⟩, ⟨ba, bc, rfl, -, -, -⟩⟩ := h
  clear hz hb
  obtain ⟨k, p, l, r, c, xs, r2, c2, ys, bs⟩ := T
  simp only [taskV] at *
  obtain ⟨L2, hL2⟩ : ∃ L2, ys.length = L2 := ⟨_, rfl⟩
  obtain ⟨L3, hL3⟩ : ∃ L3, bs.length = L3 := ⟨_, rfl⟩
  obtain ⟨L1, hL1⟩ : ∃ L1, xs.length = L1 := ⟨_, rfl⟩
  obtain ⟨L0, hL0⟩ : ∃ L0, l.length = L0 := ⟨_, rfl⟩
  rw [hL0, hL1, hL2, hL3] at C1 C3 ⊢
  clear hL0 hL1 hL2 hL3
  subst hk
  have hA := hid (Blk.new w 28 #[.int .i64 7, .int .u64 p, .slice pa L0 pc, .int .i64 r, .int .i64 c, .slice ua L1 uc, .int .i64 r2, .int .i64 c2, .slice va L2 vc, .slice ba L3 bc])
  obtain ⟨a0, a1, a2, a3, a4, a5, a6, a7, a8, a9⟩ := hA.out.at10
  go_enter Tryz.func10, Tryz.ntmps10
  go_wp2_with (go_at_call 12; refine (C1.out _ (by repeat (first | exact Ext.refl _ | assumption | refine Ext.drew ?_ | refine Ext.drewN ?_ _ | refine Ext.alloc ?_ _ | refine Ext.trans ?_ (by assumption)))).mono ?_; rintro _ w1 ⟨rfl, x1⟩; obtain ⟨d0, d1, d2, d3, d4, d5, d6, d7, d8, d9⟩ := (hA.out.ext x1).at10)
  have fs := hid fun (W : World) (hW : Ext w1 W) => ((hA.out.ext x1).ext hW).at10
  clear d0 d1 d2 d3 d4 d5 d6 d7 d8 d9
  refine wp_region_held_drew (S := fun W' => Ext w1 W') (by kernel_rfl) ((Ext.refl w1).drew) (fun hHeld => ?_)
  refine wpAnyH_take (i := 1) (v := .pointer (some ⟨w.heap.size, 0, none⟩)) rfl (by kernel_rfl) (by kernel_rfl) (by kernel_rfl) (fun _ _ _ h => h) (Or.inl ⟨by rfl, ?_⟩) hHeld ?_
  · intro W' hSw
    go_simp
  refine wpAnyH_take (i := 2) (v := .int .i64 7) rfl (by kernel_rfl) (by kernel_rfl) (by kernel_rfl) (fun _ _ _ h => h) (Or.inl ⟨by rfl, ?_⟩) hHeld ?_
  · intro W' hSw
    obtain ⟨d0, d1, d2, d3, d4, d5, d6, d7, d8, d9⟩ := fs.out W' hSw
    go_simp
  refine wpAnyH_take (i := 5) (v := .agg #[.int .i64 7, .int .u64 p, .slice pa L0 pc, .int .i64 r, .int .i64 c, .slice ua L1 uc, .int .i64 r2, .int .i64 c2, .slice va L2 vc, .slice ba L3 bc]) rfl (by kernel_rfl) (by kernel_rfl) (by kernel_rfl) (fun _ _ _ h => h) (Or.inl ⟨by rfl, ?_⟩) hHeld ?_
  · intro W' hSw
    obtain ⟨d0, d1, d2, d3, d4, d5, d6, d7, d8, d9⟩ := fs.out W' hSw
    go_simp
  refine held_step 0 (by kernel_rfl) rfl (fun K hK => ?_)
  go_simp
  go_wp2_with fail
  refine (C2.out _).mono ?_
  rintro _ w2 ⟨g2, rfl, hB2, x2⟩
  have x2' : Ext w1 w2 := hHeld.trans x2
  have q2 : w2.cell? ⟨g2, 7, none⟩ = some (.func (.func 58) #[] #[]) := hB2.cell 7
  have HQ2 := hid q2
  clear q2 hB2
  go_wp2_with fail
  refine hK.out _ _ x2' (fun hHeld => ?_)
  clear hK K
  refine wpAnyH_take (i := 3) (v := .pointer (some ⟨g2, 7, none⟩)) rfl (by kernel_rfl) (by kernel_rfl) (by kernel_rfl) (fun _ _ _ h => h) (Or.inl ⟨by rfl, ?_⟩) hHeld ?_
  · intro W' hSw
    go_simp
  refine held_step 4 (by kernel_rfl) rfl (fun K hK => ?_)
  have q2 := HQ2.out
  go_simp
  refine hK.out _ _ x2' (fun hHeld => ?_)
  clear hK K
  refine held_step 6 (by kernel_rfl) rfl (fun K hK => ?_)
  go_simp
  go_wp2_with fail
  refine (C3.out _ (by repeat (first | exact Ext.refl _ | assumption | refine Ext.alloc ?_ _ | refine Ext.trans ?_ (by assumption)))).mono ?_
  rintro _ w3 ⟨v, rfl, hv, x3⟩
  have x3' : Ext w1 w3 := x2'.trans x3
  go_wp2_with fail
  refine hK.out _ _ x3' (fun hHeld => ?_)
  clear hK K
  have HV := hid hv
  obtain ⟨av, cv, rfl, -, -, -⟩ := hv
  refine held_step 7 (by kernel_rfl) rfl (fun K hK => ?_)
  go_simp
  refine hK.out _ _ hHeld (fun hHeld => ?_)
  clear hK K
  refine held_step 8 (by kernel_rfl) rfl (fun K hK => ?_)
  go_simp
  refine hK.out _ _ hHeld (fun hHeld => ?_)
  clear hK K
  refine wpAnyH_done (by kernel_rfl) ?_ _
  go_wp2_with fail
  go_ret2
  exact ⟨_, rfl, HV.out.ext (by repeat (first | exact Ext.refl _ | assumption | refine Ext.drew ?_ | refine Ext.drewN ?_ _ | refine Ext.alloc ?_ _ | refine Ext.trans ?_ (by assumption))), (by repeat (first | exact Ext.refl _ | assumption | refine Ext.drew ?_ | refine Ext.drewN ?_ _ | refine Ext.alloc ?_ _ | refine Ext.trans ?_ (by assumption)))⟩
theorem fits_kind {T : Tsk} (h : taskB T = true) : fitsB T = true := by
  simp only [taskB, Bool.and_eq_true] at h
  exact h.2.1
theorem fits_square {T : Tsk} (h : taskB T = true) (hk : T.k = 2 ∨ T.k = 5 ∨ T.k = 6) : T.r = T.c := by
  have h2 := fits_kind h
  unfold fitsB at h2
  rw [if_neg (by omega)] at h2
  by_cases h3 : T.k = 2 ∨ T.k = 5
  · rw [if_pos h3] at h2; simpa using h2
  · rw [if_neg h3, if_neg (by omega), if_pos (by omega)] at h2
    simp at h2; exact h2.1
theorem fits_prod {T : Tsk} (hz : TkZ T) (h : taskB T = true) (hk : T.k = 1) : T.r2 = T.c ∧ ∃ n q : Nat, T.r2 = n ∧ T.c2 = q ∧ MatOk T.p n q T.ys := by
  have h2 := fits_kind h
  unfold fitsB at h2
  rw [if_pos hk, Bool.and_eq_true, decide_eq_true_eq] at h2
  obtain ⟨h3, h4⟩ := h2
  obtain ⟨h5, h6, n, q, e1, e2, n1, n2, q1, q2, hl⟩ := (matB_iff hz.y).1 h3
  exact ⟨h4, n, q, e1, e2, h5, h6, ⟨n1, n2⟩, ⟨q1, q2⟩, hl⟩
theorem fits_solve {T : Tsk} (hz : TkZ T) (h : taskB T = true) (hk : T.k = 7) : (T.bs.length : Int) = T.r ∧ Rng T.p T.bs := by
  have h2 := fits_kind h
  unfold fitsB at h2
  rw [if_neg (by omega), if_neg (by omega), if_neg (by omega), if_neg (by omega), if_pos hk, Bool.and_eq_true, decide_eq_true_eq] at h2
  exact ⟨h2.1, fun x hx => ⟨(hz.b x hx).1, (hasB_true h2.2).2 x hx⟩⟩
theorem tkAnswer_yes (T : Tsk) (pv u u2 bv : Value) (w : World) (h : TkR w T pv u u2 bv) (hz : TkZ T) (hb : taskB T = true) : Calls Tryz.prog 10 #[taskV T pv u u2 bv] w (RetE 0 (ansT T) w) := by
  obtain ⟨m, n, er, ec, ok, hf⟩ := task_ok hz hb
  rcases taskB_kind hb with hk | hk | hk | hk | hk | hk | hk
  · obtain ⟨e1, n', q, e2, e3, oky⟩ := fits_prod hz hb hk
    obtain rfl : n' = n := by omega
    have ea : ansT T = mulL T.p m n' q T.xs T.ys := by unfold ansT; rw [if_pos hk, er, ec, e3, Int.toNat_natCast, Int.toNat_natCast, Int.toNat_natCast]
    rw [ea]
    exact tkAnswer_1 T pv u u2 bv w h hz hb hk _ fun W hW => tkProduct T m n' q er ec e2 e3 pv u u2 bv W (h.ext hW) ok oky
  · have e := fits_square hb (.inl hk)
    have ea : ansT T = [bitZ (detF m (atF m T.xs) % T.p == 0)] := by unfold ansT; rw [if_neg (by omega), if_pos hk, er, Int.toNat_natCast]
    rw [ea]
    exact tkAnswer_2 T pv u u2 bv w h hz hb hk _ fun W hW => tkSingular T m n er ec pv u u2 bv W (h.ext hW) ok hf (by omega)
  · have ea : ansT T = [((takeL T.p m n T.xs).U.length : Int)] := by unfold ansT; rw [if_neg (by omega), if_neg (by omega), if_pos hk, er, ec, Int.toNat_natCast, Int.toNat_natCast]
    rw [ea]
    exact tkAnswer_3 T pv u u2 bv w h hz hb hk _ fun W hW => tkRank T m n er ec pv u u2 bv W (h.ext hW) ok hf
  · have ea : ansT T = profZ T.p m n T.xs := by unfold ansT; rw [if_neg (by omega), if_neg (by omega), if_neg (by omega), if_pos hk, er, ec, Int.toNat_natCast, Int.toNat_natCast]
    rw [ea]
    exact tkAnswer_4 T pv u u2 bv w h hz hb hk _ fun W hW => tkProfile T m n er ec pv u u2 bv W (h.ext hW) ok hf
  · have e := fits_square hb (.inr (.inl hk))
    have ea : ansT T = [detF m (atF m T.xs) % T.p] := by unfold ansT; rw [if_neg (by omega), if_neg (by omega), if_neg (by omega), if_neg (by omega), if_pos hk, er, Int.toNat_natCast]
    rw [ea]
    exact tkAnswer_5 T pv u u2 bv w h hz hb hk _ fun W hW => tkDet T m n er ec pv u u2 bv W (h.ext hW) ok hf (by omega)
  · have e := fits_square hb (.inr (.inr hk))
    have ea : ansT T = minP T.p m T.xs := by unfold ansT; rw [if_neg (by omega), if_neg (by omega), if_neg (by omega), if_neg (by omega), if_neg (by omega), if_pos hk, er, Int.toNat_natCast]
    rw [ea]
    exact tkAnswer_6 T pv u u2 bv w h hz hb hk _ fun W hW => tkMinimal T m n er ec pv u u2 bv W (h.ext hW) ok hf (by omega)
  · obtain ⟨e1, e2⟩ := fits_solve hz hb hk
    have ea : ansT T = [bitZ (solvB T.p m n T.xs T.bs)] := by unfold ansT; rw [if_neg (by omega), if_neg (by omega), if_neg (by omega), if_neg (by omega), if_neg (by omega), if_neg (by omega), er, ec, Int.toNat_natCast, Int.toNat_natCast]
    rw [ea]
    exact tkAnswer_7 T pv u u2 bv w h hz hb hk _ fun W hW => tkSolving T m n er ec pv u u2 bv W (h.ext hW) ok hf (by omega) e2
noncomputable def ansE (T : Tsk) : Int := if taskB T = true then 0 else 1
noncomputable def ansL (T : Tsk) : List Int := if taskB T = true then ansT T else []
theorem tkAnswer (T : Tsk) (pv u u2 bv : Value) (w : World) (h : TkR w T pv u u2 bv) (hz : TkZ T) : Calls Tryz.prog 10 #[taskV T pv u u2 bv] w (RetE (ansE T) (ansL T) w) := by
  unfold ansE ansL
  cases hb : taskB T with
  | true =>
    rw [if_pos rfl, if_pos rfl]
    exact tkAnswer_yes T pv u u2 bv w h hz hb
  | false =>
    rw [if_neg (by decide), if_neg (by decide)]
    exact (tkAnswer_no T pv u u2 bv w h hz hb).mono fun e w' h => ⟨_, h.1, Ints.nil, h.2⟩
end Go.Proofs.YthomeenmcajmdaaGreatDoor
namespace Go.Proofs.YthomeenmcajmdaaGreatDoor
open Go.RowKit Go.Maps
theorem ins_sorted (x : Int) : ∀ ss : List Int, ss.Pairwise (· < ·) → ∃ s2 : List Int, s2.Pairwise (· < ·) ∧ ∀ n, n ∈ s2 ↔ n = x ∨ n ∈ ss
  | [], _ => ⟨[x], by simp, fun n => by simp⟩
  | y :: ss, h => by
    rw [List.pairwise_cons] at h
    rcases Int.lt_trichotomy x y with h1 | h1 | h1
    · refine ⟨x :: y :: ss, ?_, fun n => by simp⟩
      rw [List.pairwise_cons, List.pairwise_cons]
      exact ⟨fun z hz => by
        rcases List.mem_cons.1 hz with rfl | hz
        · exact h1
        · have := h.1 z hz; omega, h⟩
    · subst h1
      exact ⟨x :: ss, List.pairwise_cons.2 h, fun n => by simp⟩
    · obtain ⟨s2, h2, h3⟩ := ins_sorted x ss h.2
      refine ⟨y :: s2, List.pairwise_cons.2 ⟨fun z hz => ?_, h2⟩, fun n => ?_⟩
      · rcases (h3 z).1 hz with rfl | hz
        · exact h1
        · exact h.1 z hz
      · rw [List.mem_cons, h3, List.mem_cons]
        constructor
        · rintro (h | h | h)
          · exact .inr (.inl h)
          · exact .inl h
          · exact .inr (.inr h)
        · rintro (h | h | h)
          · exact .inr (.inl h)
          · exact .inl h
          · exact .inr (.inr h)
theorem exists_sorted : ∀ L : List Int, ∃ ss : List Int, ss.Pairwise (· < ·) ∧ ∀ n, n ∈ ss ↔ n ∈ L
  | [] => ⟨[], by simp, fun n => by simp⟩
  | x :: L => by
    obtain ⟨ss, h1, h2⟩ := exists_sorted L
    obtain ⟨s2, h3, h4⟩ := ins_sorted x ss h1
    exact ⟨s2, h3, fun n => by rw [h4, h2, List.mem_cons]⟩
theorem Reach.trans {p q n : Int} (h : Reach p q) (k : Reach q n) : Reach p n := fun S h0 h1 => k S (h S h0 h1) h1
theorem clo_reach : ∀ (f p : Nat) (n : Int), n ∈ clo f p → Reach p n
  | 0, p, n, h => by simp [clo] at h
  | f + 1, p, n, h => by
    rw [clo] at h
    rcases List.mem_cons.1 h with rfl | h
    · exact Reach.self _
    · obtain ⟨q, hq, hn⟩ := List.mem_flatMap.1 h
      by_cases h2 : q.1.toNat = 2
      · rw [show Nat.beq q.1.toNat 2 = true by rw [Nat.beq_eq]; exact h2, if_pos rfl] at hn
        simp at hn
      · rw [show Nat.beq q.1.toNat 2 = false by rw [← Bool.not_eq_true, Nat.beq_eq]; exact h2, if_neg Bool.false_ne_true] at hn
        have hq1 := partsOf_pos (p : Int) q hq
        have h3 := clo_reach f q.1.toNat n hn
        rw [show ((q.1.toNat : Nat) : Int) = q.1 by omega] at h3
        exact ((Reach.self _).part hq (by omega)).trans h3
theorem bf_of {p : Int} (h0 : 0 ≤ p) (hlt : p < 16777216) (he : bErr p = 0) : BF p := by
  have h2 : ¬ p < 2 := fun h => by rw [bErr, if_pos h] at he; omega
  have hP : IsP p := by
    rw [bErr, if_neg h2] at he
    cases hi : isB p with
    | true => exact (isB_iff p).1 hi
    | false => rw [hi, if_neg Bool.false_ne_true] at he; omega
  by_cases hp2 : p = 2
  · have hb : ([] : List Int) = builtL p := built_eq (by simp) (fun n => ⟨fun h => by simp at h, fun h => absurd hp2 h.1⟩)
    exact ⟨by rw [← hb]; simp, hP, fun _ => hb.symm, fun h => absurd hp2 h, hlt, fun n hn => by rw [← hb] at hn; simp at hn, .inl hp2, fun n hn => by rw [← hb] at hn; simp at hn⟩
  · obtain ⟨P, rfl⟩ : ∃ P : Nat, p = P := ⟨p.toNat, by omega⟩
    obtain ⟨c1, c2, -, c4⟩ := clo_ok 24 P hP (by omega) (by simpa using (show P < 16777216 by omega)) (by omega)
    obtain ⟨ss, s1, s2⟩ := exists_sorted (clo 24 P)
    have hss : ss = builtL (P : Int) := built_eq s1 (fun n => ⟨fun hn => ⟨hp2, clo_reach 24 P n ((s2 n).1 hn)⟩, fun hn => (s2 n).2 (hn.2 (· ∈ clo 24 P) c4 (fun m q hm hq hq2 => (c2 m hm q hq).resolve_left hq2))⟩)
    subst hss
    exact ⟨s1, hP, fun h => absurd h hp2, fun _ => by omega, hlt, fun n hn => by rw [Int.toNat_natCast]; exact ⟨(s2 n).1 hn, clo_reach 24 P n ((s2 n).1 hn)⟩, .inr ((s2 _).2 c4), fun n hn q hq => (c2 n ((s2 n).1 hn) q hq).imp id fun h => (s2 _).2 h⟩
def plainB (k p r c : Int) : Bool := if k = 2 ∨ k = 5 then decide (r = c) else if k = 3 ∨ k = 4 then true else if k = 6 then decide (r = c) && decide (4 * r + 1 < p) else false
theorem plain_right {k p r c : Int} {xs : List Int} (h0 : 0 ≤ p) (hlt : p < 16777216) (he : bErr p = 0) (hm : matB p r c xs = true) : taskB (plT k p r c xs) = plainB k p r c := by
  have hs : showsB (bList p) p = true := bList_show (fun _ => bf_of h0 hlt he) he
  have hr : 1 ≤ r := by
    unfold matB at hm
    simp only [Bool.and_eq_true, decide_eq_true_eq] at hm
    omega
  have h3 : spareB (plT k p r c xs) = true := by simp [spareB, plT]
  unfold taskB
  rw [h3, show matB (plT k p r c xs).p (plT k p r c xs).r (plT k p r c xs).c (plT k p r c xs).xs = true from hm, show showsB (plT k p r c xs).l (plT k p r c xs).p = true from hs, Bool.true_and, Bool.and_true, Bool.and_true]
  unfold plainB
  show (if k = 1 then (matB p 0 0 [] && decide ((0 : Int) = c)) else if k = 2 ∨ k = 5 then decide (r = c) else if k = 3 ∨ k = 4 then true else if k = 6 then (decide (r = c) && decide (4 * r + 1 < p)) else if k = 7 then (decide (((0 : Nat) : Int) = r) && hasB p []) else false) = _
  by_cases k1 : k = 1
  · rw [if_pos k1, if_neg (by omega), if_neg (by omega), if_neg (by omega)]
    simp [matB]
  rw [if_neg k1]
  by_cases k2 : k = 2 ∨ k = 5
  · rw [if_pos k2, if_pos k2]
  rw [if_neg k2, if_neg k2]
  by_cases k3 : k = 3 ∨ k = 4
  · rw [if_pos k3, if_pos k3]
  rw [if_neg k3, if_neg k3]
  by_cases k6 : k = 6
  · rw [if_pos k6, if_pos k6]
  rw [if_neg k6, if_neg k6]
  by_cases k7 : k = 7
  · rw [if_pos k7]
    simp
    omega
  · rw [if_neg k7]
theorem plain_wrong {k p r c : Int} {xs : List Int} (hm : matB p r c xs = false) : taskB (plT k p r c xs) = false := by
  unfold taskB
  rw [show matB (plT k p r c xs).p (plT k p r c xs).r (plT k p r c xs).c (plT k p r c xs).xs = false from hm, Bool.false_and]
theorem plE_iff {k p r c : Int} {xs : List Int} (h0 : 0 ≤ p) (hlt : p < 16777216) : plE k p r c xs = 0 ↔ bErr p = 0 ∧ matB p r c xs = true ∧ plainB k p r c = true := by
  unfold plE
  by_cases he : bErr p = 0
  · rw [if_pos he]
    cases hm : matB p r c xs with
    | true => rw [plain_right h0 hlt he hm]; cases plainB k p r c <;> simp [he]
    | false => rw [plain_wrong hm]; simp
  · rw [if_neg he]; simp [he]
theorem plE_arg {k p r c : Int} {xs : List Int} (h0 : 0 ≤ p) (hlt : p < 16777216) (he : bErr p = 0) (h : plainB k p r c = false) : plE k p r c xs = 1 := by
  unfold plE
  rw [if_pos he]
  cases hm : matB p r c xs with
  | true => rw [plain_right h0 hlt he hm, h, if_neg Bool.false_ne_true]
  | false => rw [plain_wrong hm, if_neg Bool.false_ne_true]
theorem plT_right {k p r c : Int} {xs : List Int} (h : plE k p r c xs = 0) : taskB (plT k p r c xs) = true := by
  unfold plE at h
  by_cases he : bErr p = 0
  · rw [if_pos he] at h
    cases hb : taskB (plT k p r c xs) with
    | true => rfl
    | false => rw [hb, if_neg Bool.false_ne_true] at h; omega
  · rw [if_neg he] at h; exact absurd h he
def RetTk (k p : Int) (l : List Prf) (L0 : Nat) (r c : Int) (xs : List Int) (N : Nat) (E : Int) (w : World) (e : Ending) (w' : World) : Prop :=
  ∃ pa pc ua uc, e = .returned (.tuple #[.agg #[.int .i64 k, .int .u64 p, .slice pa L0 pc, .int .i64 r, .int .i64 c, .slice ua N uc, .int .i64 0, .int .i64 0, .slice none 0 0, .slice none 0 0], .int .i64 E]) ∧
    TkR w' ⟨k, p, l, r, c, xs, 0, 0, [], []⟩ (.slice pa L0 pc) (.slice ua N uc) (.slice none 0 0) (.slice none 0 0) ∧ TkZ ⟨k, p, l, r, c, xs, 0, 0, [], []⟩ ∧ Ext w w'
theorem tkPlain_yes (k p r c : Int) (u : Value) (xs : List Int) (w : World) (h0 : 0 ≤ p) (hlt : p < 16777216) (hv : Ints .u64 w u xs) (hx : U64s xs) (hT : Tab w) (hE : plE k p r c xs = 0) {L0 N : Nat} (hl : (bList p).length = L0) (hn : xs.length = N) :
    Calls Tryz.prog 16 #[.int .i64 k, .int .u64 p, .agg #[.int .i64 r, .int .i64 c, u]] w (RetTk k p (bList p) L0 r c xs N 0 w) := by
  refine (tkPlain k p r c u xs w h0 hlt hv hx hT).mono fun e w' h => ?_
  obtain ⟨pv, u', rfl, h1, h2, h3⟩ := h
  have e2 : plD k p r c xs = plT k p r c xs := by unfold plD; rw [if_pos hE]
  rw [e2] at h1 h2 ⊢
  rw [hE]
  have h1' := h1
  obtain ⟨⟨pa, pc, rfl, -, -, -⟩, ⟨ua, uc, rfl, -, -, -⟩, -, -⟩ := h1'
  subst hl; subst hn
  exact ⟨pa, pc, ua, uc, rfl, h1, h2, h3⟩
theorem tkPlain_no (k p r c : Int) (u : Value) (xs : List Int) (w : World) (h0 : 0 ≤ p) (hlt : p < 16777216) (hv : Ints .u64 w u xs) (hx : U64s xs) (hT : Tab w) {E : Int} (hE : plE k p r c xs = E) (hne : E ≠ 0) :
    Calls Tryz.prog 16 #[.int .i64 k, .int .u64 p, .agg #[.int .i64 r, .int .i64 c, u]] w (RetTk 0 0 [] 0 0 0 [] 0 E w) := by
  refine (tkPlain k p r c u xs w h0 hlt hv hx hT).mono fun e w' h => ?_
  obtain ⟨pv, u', rfl, h1, h2, h3⟩ := h
  have e2 : plD k p r c xs = Tsk.zero := by unfold plD; rw [if_neg (by rw [hE]; exact hne)]
  rw [e2] at h1 h2 ⊢
  rw [hE]
  have h1' := h1
  obtain ⟨⟨pa, pc, rfl, -, -, -⟩, ⟨ua, uc, rfl, -, -, -⟩, -, -⟩ := h1'
  exact ⟨pa, pc, ua, uc, rfl, h1, h2, h3⟩
theorem tkAns {k p : Int} {l : List Prf} {r c : Int} {xs : List Int} {r2 c2 : Int} {ys bs : List Int} {pv u u2 bv : Value} {w : World} (h : TkR w ⟨k, p, l, r, c, xs, r2, c2, ys, bs⟩ pv u u2 bv) (hz : TkZ ⟨k, p, l, r, c, xs, r2, c2, ys, bs⟩) {E : Int} {L : List Int}
    (hE : ansE ⟨k, p, l, r, c, xs, r2, c2, ys, bs⟩ = E) (hL : ansL ⟨k, p, l, r, c, xs, r2, c2, ys, bs⟩ = L) :
    Calls Tryz.prog 10 #[.agg #[.int .i64 k, .int .u64 p, pv, .int .i64 r, .int .i64 c, u, .int .i64 r2, .int .i64 c2, u2, bv]] w (RetE E L w) := by
  have := tkAnswer _ pv u u2 bv w h hz
  rw [hE, hL] at this
  exact this
theorem ansE_yes {T : Tsk} (h : taskB T = true) : ansE T = 0 := by unfold ansE; rw [if_pos h]
theorem ansL_yes {T : Tsk} (h : taskB T = true) : ansL T = ansT T := by unfold ansL; rw [if_pos h]
theorem ansE_no {T : Tsk} (h : taskB T = false) : ansE T = 1 := by unfold ansE; rw [h]; rfl
theorem ansL_no {T : Tsk} (h : taskB T = false) : ansL T = [] := by unfold ansL; rw [h]; rfl
theorem ansP2 {p r c : Int} {xs : List Int} {m : Nat} (er : r = m) : ansT (plT 2 p r c xs) = [bitZ (detF m (atF m xs) % p == 0)] := by
  unfold ansT
  rw [if_neg (show ¬ (plT 2 p r c xs).k = 1 from by show ¬ (2 : Int) = 1; decide), if_pos (show (plT 2 p r c xs).k = 2 from rfl)]
  subst er
  rfl
theorem ansP3 {p r c : Int} {xs : List Int} {m n : Nat} (er : r = m) (ec : c = n) : ansT (plT 3 p r c xs) = [((takeL p m n xs).U.length : Int)] := by
  unfold ansT
  rw [if_neg (show ¬ (plT 3 p r c xs).k = 1 from by show ¬ (3 : Int) = 1; decide), if_neg (show ¬ (plT 3 p r c xs).k = 2 from by show ¬ (3 : Int) = 2; decide), if_pos (show (plT 3 p r c xs).k = 3 from rfl)]
  subst er; subst ec
  rfl
theorem ansP4 {p r c : Int} {xs : List Int} {m n : Nat} (er : r = m) (ec : c = n) : ansT (plT 4 p r c xs) = profZ p m n xs := by
  unfold ansT
  rw [if_neg (show ¬ (plT 4 p r c xs).k = 1 from by show ¬ (4 : Int) = 1; decide), if_neg (show ¬ (plT 4 p r c xs).k = 2 from by show ¬ (4 : Int) = 2; decide), if_neg (show ¬ (plT 4 p r c xs).k = 3 from by show ¬ (4 : Int) = 3; decide), if_pos (show (plT 4 p r c xs).k = 4 from rfl)]
  subst er; subst ec
  rfl
theorem ansP5 {p r c : Int} {xs : List Int} {m : Nat} (er : r = m) : ansT (plT 5 p r c xs) = [detF m (atF m xs) % p] := by
  unfold ansT
  rw [if_neg (show ¬ (plT 5 p r c xs).k = 1 from by show ¬ (5 : Int) = 1; decide), if_neg (show ¬ (plT 5 p r c xs).k = 2 from by show ¬ (5 : Int) = 2; decide), if_neg (show ¬ (plT 5 p r c xs).k = 3 from by show ¬ (5 : Int) = 3; decide), if_neg (show ¬ (plT 5 p r c xs).k = 4 from by show ¬ (5 : Int) = 4; decide), if_pos (show (plT 5 p r c xs).k = 5 from rfl)]
  subst er
  rfl
theorem ansP6 {p r c : Int} {xs : List Int} {m : Nat} (er : r = m) : ansT (plT 6 p r c xs) = minP p m xs := by
  unfold ansT
  rw [if_neg (show ¬ (plT 6 p r c xs).k = 1 from by show ¬ (6 : Int) = 1; decide), if_neg (show ¬ (plT 6 p r c xs).k = 2 from by show ¬ (6 : Int) = 2; decide), if_neg (show ¬ (plT 6 p r c xs).k = 3 from by show ¬ (6 : Int) = 3; decide), if_neg (show ¬ (plT 6 p r c xs).k = 4 from by show ¬ (6 : Int) = 4; decide), if_neg (show ¬ (plT 6 p r c xs).k = 5 from by show ¬ (6 : Int) = 5; decide), if_pos (show (plT 6 p r c xs).k = 6 from rfl)]
  subst er
  rfl
theorem bErr_prime {p : Int} (h : IsP p) : bErr p = 0 := by rw [bErr, if_neg (by have := h.1; omega), (isB_iff p).2 h, if_pos rfl]
theorem isP7 : IsP 7 := ⟨by decide, fun c h1 h2 => by
  have h3 : c < 3 := Int.not_le.1 fun h => by have := Int.mul_le_mul h h (by omega) (by omega); omega
  obtain rfl : c = 2 := by omega
  decide⟩
end Go.Proofs.YthomeenmcajmdaaGreatDoor
namespace Go.Proofs.YthomeenmcajmdaaGreatDoor
open Go.RowKit Go.Maps
def xsA : List Int := [1, 2, 2, 4]
theorem fldA : Fld 7 := fld_is isP7
theorem okA : MatOk 7 2 2 xsA := ⟨by decide, by unfold Rng xsA; decide, by decide, by decide, rfl⟩
theorem detA : detF 2 (atF 2 xsA) % 7 = 0 := by decide
theorem rankA : (takeL 7 2 2 xsA).U.length = 1 := by
  have ok := takeL_ok (p := 7) (m := 2) (n := 2) (xs := xsA) (by decide) fldA okA.hx
  have h1 := ok.le
  have h2 := (det_rank (n := 2) (xs := xsA) (p := 7) (by decide) fldA okA.hx).1 detA
  have h3 : (takeL 7 2 2 xsA).U.length ≠ 0 := fun h0 => by
    have hm := ok.made 0 (by decide) 0 (by decide)
    have hc := (ok.cl 0 (by decide)).1
    rw [show ((takeL 7 2 2 xsA).C.getD 0 []).length = 0 by omega] at hm
    have e1 : (rowOf 2 xsA 0).getD 0 0 = 1 := by decide
    rw [e1] at hm
    simp [sm] at hm
  omega
theorem plA2 : plE 2 7 2 2 xsA = 0 := (plE_iff (by decide) (by decide)).2 ⟨bErr_prime isP7, okA.b, by decide⟩
theorem plA3 : plE 3 7 2 2 xsA = 0 := (plE_iff (by decide) (by decide)).2 ⟨bErr_prime isP7, okA.b, by decide⟩
theorem plA6 : plE 6 7 2 2 xsA = 1 := plE_arg (by decide) (by decide) (bErr_prime isP7) (by decide)
theorem drawsA : drawsN ⟨2, 7, bList 7, 2, 2, xsA, 0, 0, [], []⟩ = 2 := by
  unfold drawsN
  rw [if_pos (show taskB ⟨2, 7, bList 7, 2, 2, xsA, 0, 0, [], []⟩ = true from plT_right plA2)]
  rfl
set_option maxRecDepth 100000 in
set_option maxHeartbeats 2000000 in
theorem awake16 (w : World) (hT : Tab w) : Calls Tryz.prog 7 #[] w (Ret (.bool true) w) := by
  obtain ⟨L0, hL0⟩ : ∃ L0, (bList 7).length = L0 := ⟨_, rfl⟩
  have C1 := hid fun (W : World) (v : Value) (hv : Ints .u64 W v xsA) (ht : Tab W) => tkPlain_yes 2 7 2 2 v xsA W (by decide) (by decide) hv okA.u64 ht plA2 hL0 (show xsA.length = 4 from rfl)
  have C2 := hid fun (W : World) (v : Value) (hv : Ints .u64 W v xsA) (ht : Tab W) => tkPlain_yes 3 7 2 2 v xsA W (by decide) (by decide) hv okA.u64 ht plA3 hL0 (show xsA.length = 4 from rfl)
  have C3 := hid fun (W : World) (v : Value) (hv : Ints .u64 W v xsA) (ht : Tab W) => tkPlain_no 6 7 2 2 v xsA W (by decide) (by decide) hv okA.u64 ht plA6 (by decide)
  have R2 := plT_right plA2
  have R3 := plT_right plA3
  have e1 : ansT (plT 2 7 2 2 xsA) = [1] := (ansP2 (m := 2) (p := 7) (r := 2) (c := 2) (xs := xsA) rfl).trans (by rw [detA]; rfl)
  have e2 : ansT (plT 3 7 2 2 xsA) = [1] := (ansP3 (m := 2) (n := 2) (p := 7) (r := 2) (c := 2) (xs := xsA) rfl rfl).trans (by rw [rankA]; rfl)
  have C4 := hid fun (W : World) (pa : Option Addr) (pc : Nat) (ua : Option Addr) (uc : Nat) (h : TkR W ⟨2, 7, bList 7, 2, 2, xsA, 0, 0, [], []⟩ (.slice pa L0 pc) (.slice ua 4 uc) (.slice none 0 0) (.slice none 0 0)) (hz : TkZ ⟨2, 7, bList 7, 2, 2, xsA, 0, 0, [], []⟩) => tkAns h hz (ansE_yes R2) ((ansL_yes R2).trans e1)
  have C5 := hid fun (W : World) (pa : Option Addr) (pc : Nat) (ua : Option Addr) (uc : Nat) (h : TkR W ⟨3, 7, bList 7, 2, 2, xsA, 0, 0, [], []⟩ (.slice pa L0 pc) (.slice ua 4 uc) (.slice none 0 0) (.slice none 0 0)) (hz : TkZ ⟨3, 7, bList 7, 2, 2, xsA, 0, 0, [], []⟩) => tkAns h hz (ansE_yes R3) ((ansL_yes R3).trans e2)
  have C6 := hid fun (W : World) (pa : Option Addr) (pc : Nat) (ua : Option Addr) (uc : Nat) (h : TkR W ⟨2, 7, bList 7, 2, 2, xsA, 0, 0, [], []⟩ (.slice pa L0 pc) (.slice ua 4 uc) (.slice none 0 0) (.slice none 0 0)) (hz : TkZ ⟨2, 7, bList 7, 2, 2, xsA, 0, 0, [], []⟩) =>
    (show Calls Tryz.prog 12 #[.agg #[.int .i64 2, .int .u64 7, .slice pa L0 pc, .int .i64 2, .int .i64 2, .slice ua 4 uc, .int .i64 0, .int .i64 0, .slice none 0 0, .slice none 0 0]] W (Ret (.bool true) W) from by
      have := tkRight _ _ _ _ _ W h hz
      rwa [show taskB ⟨2, 7, bList 7, 2, 2, xsA, 0, 0, [], []⟩ = true from R2] at this)
  have C7 := hid fun (W : World) (pa : Option Addr) (pc : Nat) (ua : Option Addr) (uc : Nat) (h : TkR W ⟨2, 7, bList 7, 2, 2, xsA, 0, 0, [], []⟩ (.slice pa L0 pc) (.slice ua 4 uc) (.slice none 0 0) (.slice none 0 0)) (hz : TkZ ⟨2, 7, bList 7, 2, 2, xsA, 0, 0, [], []⟩) =>
    (show Calls Tryz.prog 11 #[.agg #[.int .i64 2, .int .u64 7, .slice pa L0 pc, .int .i64 2, .int .i64 2, .slice ua 4 uc, .int .i64 0, .int .i64 0, .slice none 0 0, .slice none 0 0]] W (Ret (.int .i64 2) W) from by
      have := tkDraws _ _ _ _ _ W h hz
      rwa [show drawsN ⟨2, 7, bList 7, 2, 2, xsA, 0, 0, [], []⟩ = 2 from drawsA] at this)
  have C8 := hid fun (W : World) (pa : Option Addr) (pc : Nat) (ua : Option Addr) (uc : Nat) (h : TkR W ⟨2, 7, bList 7, 2, 2, xsA, 0, 0, [], []⟩ (.slice pa L0 pc) (.slice ua 4 uc) (.slice none 0 0) (.slice none 0 0)) =>
    (show Calls Tryz.prog 13 #[.agg #[.int .i64 2, .int .u64 7, .slice pa L0 pc, .int .i64 2, .int .i64 2, .slice ua 4 uc, .int .i64 0, .int .i64 0, .slice none 0 0, .slice none 0 0]] W (Ret (.int .i64 4) W) from
      tkNumbers _ _ _ _ _ W h (show 4 + 0 + 0 ≤ 9223372036854775807 by decide))
  have HT := hid hT
  have IM := hid ((Ints.lit (k := .u64) (w := w) (t := 22) xsA (by decide) rfl).alloc (.cells #[.int .i64 2, .int .i64 2, .slice (some ⟨w.heap.size, 0, none⟩) 4 4] 26))
  have HA := hid (Blk.at_ (w := w.alloc (.cells #[.int .u64 1, .int .u64 2, .int .u64 2, .int .u64 4] 22)) (t := 26) (cs := #[.int .i64 2, .int .i64 2, .slice (some ⟨w.heap.size, 0, none⟩) 4 4]) (g := w.heap.size + 1) (by rw [alloc_size]))
  have hW0 := hid ((((Ext.refl w).alloc (.cells #[.int .u64 1, .int .u64 2, .int .u64 2, .int .u64 4] 22))).alloc (.cells #[.int .i64 2, .int .i64 2, .slice (some ⟨w.heap.size, 0, none⟩) 4 4] 26))
  obtain ⟨wb, hwb⟩ : ∃ W, (w.alloc (.cells #[.int .u64 1, .int .u64 2, .int .u64 2, .int .u64 4] 22)).alloc (.cells #[.int .i64 2, .int .i64 2, .slice (some ⟨w.heap.size, 0, none⟩) 4 4] 26) = W := ⟨_, rfl⟩
  have hS1 := hid fun (W : World) => Ints.lit (k := .u64) (w := W) (t := 22) [1] (by decide) rfl
  simp only [show xsA.map (Value.int .u64) = [.int .u64 1, .int .u64 2, .int .u64 2, .int .u64 4] from rfl, show xsA.length = 4 from rfl] at IM
  rw [hwb] at HA hW0 IM
  clear hT R2 R3 e1 e2 hL0
  go_enter Tryz.func7, Tryz.ntmps7
  obtain ⟨ha_0, ha_1, ha_2⟩ := HA.out.at3
  go_wp2_with fail
  refine (C1.out _ _ IM.out (HT.out.ext hW0.out)).mono ?_
  rintro _ w2 ⟨pa2, pc2, ua2, uc2, rfl, hr2, hz2, xw2⟩
  clear ha_0 ha_1 ha_2
  have HR2 := hid hr2; have HZ2 := hid hz2
  clear hr2 hz2
  have z3 := (Ext.refl w2).alloc (.cells #[.int .i64 2, .int .u64 7, .slice pa2 L0 pc2, .int .i64 2, .int .i64 2, .slice ua2 4 uc2, .int .i64 0, .int .i64 0, .slice none 0 0, .slice none 0 0] 28)
  have HB := hid (Blk.new w2 28 #[.int .i64 2, .int .u64 7, .slice pa2 L0 pc2, .int .i64 2, .int .i64 2, .slice ua2 4 uc2, .int .i64 0, .int .i64 0, .slice none 0 0, .slice none 0 0])
  obtain ⟨hb_0, hb_1, hb_2, hb_3, hb_4, hb_5, hb_6, hb_7, hb_8, hb_9⟩ := HB.out.at10
  go_wp2_with fail
  refine (C4.out _ _ _ _ _ (HR2.out.ext z3) HZ2.out).mono ?_
  rintro _ w3 ⟨v3, rfl, hv3, xw3⟩
  clear hb_0 hb_1 hb_2 hb_3 hb_4 hb_5 hb_6 hb_7 hb_8 hb_9
  have HV3 := hid hv3
  obtain ⟨va3, vc3, rfl, -, -, -⟩ := hv3
  simp only [List.length_cons, List.length_nil, Nat.zero_add] at HV3 ⊢
  obtain ⟨ha_0, ha_1, ha_2⟩ := (HA.out.ext (xw2.trans (z3.trans xw3))).at3
  go_wp2_with fail
  refine (C2.out _ _ (IM.out.ext (xw2.trans (z3.trans xw3))) (HT.out.ext (hW0.out.trans (xw2.trans (z3.trans xw3))))).mono ?_
  rintro _ w4 ⟨pa4, pc4, ua4, uc4, rfl, hr4, hz4, xw4⟩
  clear ha_0 ha_1 ha_2
  have HR4 := hid hr4; have HZ4 := hid hz4
  clear hr4 hz4
  have z6 := (Ext.refl w4).alloc (.cells #[.int .i64 3, .int .u64 7, .slice pa4 L0 pc4, .int .i64 2, .int .i64 2, .slice ua4 4 uc4, .int .i64 0, .int .i64 0, .slice none 0 0, .slice none 0 0] 28)
  have HC := hid (Blk.new w4 28 #[.int .i64 3, .int .u64 7, .slice pa4 L0 pc4, .int .i64 2, .int .i64 2, .slice ua4 4 uc4, .int .i64 0, .int .i64 0, .slice none 0 0, .slice none 0 0])
  obtain ⟨hc_0, hc_1, hc_2, hc_3, hc_4, hc_5, hc_6, hc_7, hc_8, hc_9⟩ := HC.out.at10
  go_wp2_with fail
  refine (C5.out _ _ _ _ _ (HR4.out.ext z6) HZ4.out).mono ?_
  rintro _ w5 ⟨v5, rfl, hv5, xw5⟩
  clear hc_0 hc_1 hc_2 hc_3 hc_4 hc_5 hc_6 hc_7 hc_8 hc_9
  have HV5 := hid hv5
  obtain ⟨va5, vc5, rfl, -, -, -⟩ := hv5
  simp only [List.length_cons, List.length_nil, Nat.zero_add] at HV5 ⊢
  obtain ⟨ha_0, ha_1, ha_2⟩ := (HA.out.ext (xw2.trans (z3.trans (xw3.trans (xw4.trans (z6.trans xw5)))))).at3
  go_wp2_with fail
  refine (C3.out _ _ (IM.out.ext (xw2.trans (z3.trans (xw3.trans (xw4.trans (z6.trans xw5)))))) (HT.out.ext (hW0.out.trans (xw2.trans (z3.trans (xw3.trans (xw4.trans (z6.trans xw5)))))))).mono ?_
  rintro _ w6 ⟨pa6, pc6, ua6, uc6, rfl, hr6, hz6, xw6⟩
  clear ha_0 ha_1 ha_2
  clear hr6 hz6
  go_upto_region 7 with fail
  obtain ⟨wz, hwz⟩ : ∃ W, w6.alloc (.cells #[.int .i64 0, .int .u64 0, .slice pa6 0 pc6, .int .i64 0, .int .i64 0, .slice ua6 0 uc6, .int .i64 0, .int .i64 0, .slice none 0 0, .slice none 0 0] 28) = W := ⟨_, rfl⟩
  have zz : Ext w6 wz := hwz ▸ (Ext.refl w6).alloc _
  go_wp2_with fail
  refine (same_yes _ _ [1] _ ((HV3.out.ext (xw4.trans (z6.trans (xw5.trans (xw6.trans zz))))).alloc _) (hS1.out _)).mono ?_
  rintro _ w7 ⟨rfl, x7⟩
  have y7 : Ext wz w7 := (Ext.alloc (Ext.refl _) _).trans x7
  go_wp2_with fail
  refine (same_yes _ _ [1] _ ((HV5.out.ext (xw6.trans (zz.trans y7))).alloc _) (hS1.out _)).mono ?_
  rintro _ w8 ⟨rfl, x8⟩
  have y8 : Ext w7 w8 := (Ext.alloc (Ext.refl _) _).trans x8
  obtain ⟨hb_0, hb_1, hb_2, hb_3, hb_4, hb_5, hb_6, hb_7, hb_8, hb_9⟩ := (HB.out.ext (xw3.trans (xw4.trans (z6.trans (xw5.trans (xw6.trans (zz.trans (y7.trans y8)))))))).at10
  go_wp2_with fail
  refine (C6.out _ _ _ _ _ (HR2.out.ext (z3.trans (xw3.trans (xw4.trans (z6.trans (xw5.trans (xw6.trans (zz.trans (y7.trans y8))))))))) HZ2.out).mono ?_
  rintro _ w9 ⟨rfl, xw9⟩
  clear hb_0 hb_1 hb_2 hb_3 hb_4 hb_5 hb_6 hb_7 hb_8 hb_9
  obtain ⟨hb_0, hb_1, hb_2, hb_3, hb_4, hb_5, hb_6, hb_7, hb_8, hb_9⟩ := (HB.out.ext (xw3.trans (xw4.trans (z6.trans (xw5.trans (xw6.trans (zz.trans (y7.trans (y8.trans xw9))))))))).at10
  go_wp2_with fail
  refine (C7.out _ _ _ _ _ (HR2.out.ext (z3.trans (xw3.trans (xw4.trans (z6.trans (xw5.trans (xw6.trans (zz.trans (y7.trans (y8.trans xw9)))))))))) HZ2.out).mono ?_
  rintro _ w10 ⟨rfl, xw10⟩
  clear hb_0 hb_1 hb_2 hb_3 hb_4 hb_5 hb_6 hb_7 hb_8 hb_9
  obtain ⟨hb_0, hb_1, hb_2, hb_3, hb_4, hb_5, hb_6, hb_7, hb_8, hb_9⟩ := (HB.out.ext (xw3.trans (xw4.trans (z6.trans (xw5.trans (xw6.trans (zz.trans (y7.trans (y8.trans (xw9.trans xw10)))))))))).at10
  go_wp2_with fail
  refine (C8.out _ _ _ _ _ (HR2.out.ext (z3.trans (xw3.trans (xw4.trans (z6.trans (xw5.trans (xw6.trans (zz.trans (y7.trans (y8.trans (xw9.trans xw10)))))))))))).mono ?_
  rintro _ w11 ⟨rfl, xw11⟩
  clear hb_0 hb_1 hb_2 hb_3 hb_4 hb_5 hb_6 hb_7 hb_8 hb_9
  go_wp2_with fail
  go_ret
  exact ⟨rfl, (hW0.out.trans (xw2.trans (z3.trans (xw3.trans (xw4.trans (z6.trans (xw5.trans (xw6.trans (zz.trans (y7.trans (y8.trans (xw9.trans (xw10.trans xw11)))))))))))))⟩
end Go.Proofs.YthomeenmcajmdaaGreatDoor
