/- The first look of layer 1's laws: it answers true. -/
import Derived.Test.YtobibegjalfjoaaDot
namespace Go.Proofs.Ytobibegjalfjoaa
open Go.RowKit

theorem minv75 : minv 7 5 = 3 := minv_eq (by decide) (by decide) (by decide)
set_option maxHeartbeats 1000000 in
theorem awake01 (w : World) : Calls Try.prog 9 #[] w (Ret (.bool true) w) := by
  have r7 : Hid (rightB 7 = true) := by unfold Hid; decide
  have r6 : Hid (rightB 6 = true) := by unfold Hid; decide
  have e2 := hid minv75
  have e4 : Hid (dotZ [1, 2] [3, 4] % 7 = 4) := by unfold Hid; decide
  have e3 : Hid (mpow 7 3 6 = 1) := by unfold Hid; decide
  go_enter Try.func9, Try.ntmps9
  go_wp2_with fail
  refine (mul_yes 7 5 3 _ r7.out (by decide) (by decide) (by decide) (by decide)).mono ?_
  rintro e w1 ⟨rfl, h1⟩
  go_wp2_with fail
  refine (inv_yes 7 5 _ r7.out (by decide) (by decide) (by decide)).mono ?_
  rw [e2.out]
  rintro e w2 ⟨rfl, h2⟩
  go_wp2_with fail
  refine (pow_yes 7 3 6 _ r7.out (by decide) (by decide) (by decide) (by decide)).mono ?_
  rw [e3.out]
  rintro e w3 ⟨rfl, h3⟩
  go_wp2_with fail
  refine (dot_yes 7 _ _ [1, 2] [3, 4] _ (Ints.new2.alloc _) (Ints.at2 (by simp)) (by unfold U64s; decide) (by unfold U64s; decide) rfl (by decide) (by decide)).mono ?_
  rw [e4.out]
  rintro e w4 ⟨rfl, h4⟩
  go_wp2_with fail
  refine (inv_zero 6 3 _ r6.out (by decide) (by decide) (by decide)).mono ?_
  rintro e w5 ⟨rfl, h5⟩
  go_wp2_with fail
  refine (has_yes 7 _ [6] _ Ints.new1 (by unfold U64s; decide) (by decide)).mono ?_
  rintro e w6 ⟨rfl, rfl⟩
  go_wp2_with fail
  refine (has_no 7 _ [7] _ (by decide) (by decide) (Ints.at1 (by simp)) (by unfold U64s; decide) (by decide)).mono ?_
  rintro e w7 ⟨rfl, rfl⟩
  go_wp2_with fail
  go_ret
  exact ⟨rfl, (by repeat (first | exact Ext.refl _ | assumption | refine Ext.drew ?_ | refine Ext.drewN ?_ _ | refine Ext.alloc ?_ _ | refine Ext.trans ?_ (by assumption)))⟩
end Go.Proofs.Ytobibegjalfjoaa
