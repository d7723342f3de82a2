/- The first look of layer 4's laws: it answers true. -/
import Derived.Test.YtbpbagejblbacaaSerRule2
import Derived.Test.YtbpbagejblbacaaSerOn
import Derived.Test.YtbpbagejblbacaaFldP
import Derived.Test.YtbpbagejblbacaaSame
namespace Go.Proofs.Ytbpbagejblbacaa
open Go.RowKit

theorem fld7 : Fld 7 := fun a h0 h => by
  have : a = 1 ∨ a = 2 ∨ a = 3 ∨ a = 4 ∨ a = 5 ∨ a = 6 := by omega
  rcases this with rfl | rfl | rfl | rfl | rfl | rfl <;> decide
def fibL : List Int := [1, 1, 2, 3, 5, 1]
theorem fib_only : ∀ x : Fin 7, ∀ y : Fin 7, obeysB 7 fibL [1, (x : Nat), (y : Nat)] = true → x = 6 ∧ y = 6 := by decide +kernel
theorem fib_one : ∀ x : Fin 7, obeysB 7 fibL [1, (x : Nat)] = false := by decide +kernel
theorem fib_none : obeysB 7 fibL [1] = false := by decide +kernel
theorem fib_obeys : obeysB 7 fibL [1, 6, 6] = true := by decide +kernel
theorem fib_on : onL 7 [1, 6, 6] [1, 1] 4 = fibL := by decide +kernel
theorem fib_rule : ruleB 7 [1, 6, 6] = true := by decide +kernel
theorem fib_u64 : U64s fibL := by unfold U64s; decide
theorem fib_rng : Rng 7 fibL := by unfold Rng; decide
theorem fib_unique {c : List Int} (h : RuleIs 7 fibL c) : c = [1, 6, 6] := by
  obtain ⟨h1, h2, h3, h4, h5, h6⟩ := h
  have hu : U64s c := h2.u64 (by decide)
  have ho : obeysB 7 fibL c = true := (obeysB_iff fib_u64 hu).2 ⟨h1, fib_rng, h5⟩
  have hle := h6 _ _ ((obeysB_iff fib_u64 (by unfold U64s; decide)).1 fib_obeys).2.2
  simp at hle
  have h0 : c.getD 0 0 = 1 := ((ruleB_iff hu).1 h1).2.2.2.2
  match c, h3, hle, h0, ho, h2 with
  | [a], _, _, h0, ho, _ =>
    obtain rfl : a = 1 := by simpa using h0
    rw [fib_none] at ho; cases ho
  | [a, x], _, _, h0, ho, h2 =>
    obtain rfl : a = 1 := by simpa using h0
    have hx := h2 x (by simp)
    have := fib_one ⟨x.toNat, by omega⟩
    simp only [Int.toNat_of_nonneg hx.1] at this
    rw [this] at ho; cases ho
  | [a, x, y], _, _, h0, ho, h2 =>
    obtain rfl : a = 1 := by simpa using h0
    have hx := h2 x (by simp)
    have hy := h2 y (by simp)
    have := fib_only ⟨x.toNat, by omega⟩ ⟨y.toNat, by omega⟩
    simp only [Int.toNat_of_nonneg hx.1, Int.toNat_of_nonneg hy.1] at this
    obtain ⟨e1, e2⟩ := this ho
    have e1' := congrArg Fin.val e1
    have e2' := congrArg Fin.val e2
    simp at e1' e2'
    rw [show x = 6 by omega, show y = 6 by omega]
  | a :: b :: c :: d :: l, _, hle, _, _, _ => simp at hle

set_option maxHeartbeats 1000000 in
theorem awake04 (w : World) : Calls Try.prog 8 #[] w (Ret (.bool true) w) := by
  have r7 : Hid (rightB 7 = true) := by unfold Hid; decide
  have hF := hid fib_rng
  have hs := hid (fun (W : World) (t : TypeId) => Ints.lit (k := .u64) (w := W) (t := t) (n := W.heap.size) fibL (by decide) rfl)
  go_enter Try.func8, Try.ntmps8
  go_wp2_with fail
  refine (sRule 7 _ fibL _ r7.out (hs.out w _) hF.out (by decide)).mono ?_
  rintro _ w1 (⟨v1, c, rfl, i1, x1, h1⟩ | ⟨d, rfl, x1, d0, d1, d2⟩)
  · obtain rfl := fib_unique h1
    have I0 := hid ((hs.out w 22).ext x1)
    have hx1 : Ext w w1 := ((Ext.refl w).alloc _).trans x1
    have I1 := hid i1
    obtain ⟨a1, c1, rfl, _, _, k3⟩ := i1
    clear k3 x1 h1
    go_wp2_with fail
    refine (sOn_yes 7 4 _ _ [1, 1] [1, 6, 6] w1 (I0.out.take' 2 (by decide)) I1.out fib_rule (Rng.take fib_rng 2) (by unfold U64s; decide) (by omega) (by simp)).mono ?_
    rw [fib_on]
    rintro _ w2 ⟨v2, rfl, i2, x2⟩
    have I2 := hid i2
    clear i2
    go_wp2_with fail
    refine (sPoly_yes 7 _ [1, 6, 6] w2 (I1.out.ext x2) fib_rule (by unfold U64s; decide)).mono ?_
    rintro _ w3 ⟨v3, rfl, i3, x3⟩
    have I3 := hid i3
    have y2 : Ext w w2 := hx1.trans x2
    have y3 : Ext w w3 := y2.trans x3
    clear i3
    go_wp2_with fail
    refine (same_yes _ _ [1, 6, 6] _ ((I1.out.ext (x2.trans x3)).alloc _) (Ints.at3 (by simp))).mono ?_
    rintro _ w4 ⟨rfl, x4⟩
    have x34 : Ext w3 w4 := ((Ext.refl w3).alloc _).trans x4
    have y4 : Ext w w4 := y3.trans x34
    clear x4
    go_wp2_with fail
    refine (same_yes _ _ fibL _ (I2.out.ext (x3.trans x34)) (I0.out.ext (x2.trans (x3.trans x34)))).mono ?_
    rintro _ w5 ⟨rfl, x5⟩
    have y5 : Ext w w5 := y4.trans x5
    go_wp2_with fail
    refine (same_yes _ _ [6, 6, 1] _ ((I3.out.ext (x34.trans x5)).alloc _) (Ints.at3 (by simp))).mono ?_
    rintro _ w6 ⟨rfl, x6⟩
    have x56 : Ext w5 w6 := ((Ext.refl w5).alloc _).trans x6
    have y6 : Ext w w6 := y5.trans x56
    have z6 : Ext w1 w6 := x2.trans (x3.trans (x34.trans (x5.trans x56)))
    clear x6
    go_wp2_with fail
    have ho := sObeys 7 _ _ fibL [1, 6, 6] w6 (by omega) (by omega) (I0.out.ext z6) (I1.out.ext z6) fib_u64 (by unfold U64s; decide) (by decide)
    rw [fib_obeys] at ho
    refine ho.mono ?_
    rintro _ w7 ⟨rfl, x7⟩
    go_wp2_with fail
    have hr := sRight 7 _ [1, 6, 6] w7 (by omega) (by omega) (I1.out.ext (z6.trans x7)) (by unfold U64s; decide)
    rw [fib_rule] at hr
    refine hr.mono ?_
    rintro _ _ ⟨rfl, rfl⟩
    go_wp2_with fail
    go_ret
    exact ⟨rfl, y6.trans x7⟩
  · have := fld7 d d0 d1
    rw [this] at d2; cases d2
end Go.Proofs.Ytbpbagejblbacaa
