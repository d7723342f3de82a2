/- The first look of layer 3's laws: it answers true. -/
import Derived.Test.YtgeinhlhhlmciaaGcd
import Derived.Test.YtgeinhlhhlmciaaEval
import Derived.Test.YtgeinhlhhlmciaaFldP
namespace Go.Proofs.Ytgeinhlhhlmciaa
open Go.RowKit

/-- a least multiple is one, as monic ones are -/
theorem lcm_unique {p : Int} (hF : Fld p) (hp : 2 ≤ p) {L1 L2 G : List Int} (h1 : Pol p L1) (h2 : Pol p L2) (hG : Pol p G) (n1 : L1 ≠ []) (n2 : L2 ≠ []) (g0 : G ≠ []) (m1 : lead L1 = 1) (m2 : lead L2 = 1) {F : Ser p} {c1 c2 : Int}
    (e1 : pol p L1 * pol p G = Ser.C p c1 * F) (e2 : pol p L2 * pol p G = Ser.C p c2 * F) : L1 = L2 := by
  have key : ∀ {L M : List Int} {c d : Int}, Pol p L → Pol p M → L ≠ [] → pol p L * pol p G = Ser.C p c * F → pol p M * pol p G = Ser.C p d * F → ∃ w : Ser p, w.poly ∧ pol p M = w * pol p L := by
    intro L M c d hL hM nL eL eM
    have hc : c % p ≠ 0 := fun e => by
      have : Ser.C p c = 0 := by rw [Ser.C_congr (show c % p = 0 % p by rw [e]; simp), Ser.C_zero]
      rw [this, Ser.zero_mul] at eL
      have := pol_div_unique (q := pol p L) (q' := 0) (r := 0) (r' := 0) hG g0 (hF.linv hp hG g0) (pol_poly _) Ser.poly_zero (Ser.low_zero _) (Ser.low_zero _) (by rw [eL, Ser.zero_mul])
      exact nL (hL.zero this.1)
    have hr := mod_range c hp
    have hi := hF.inv hp (show 0 < c % p by omega) hr.2
    obtain ⟨i, ei⟩ : ∃ i, minv p (c % p) = i := ⟨_, rfl⟩
    rw [ei, mm_l] at hi
    have hF2 : F = Ser.C p i * (pol p L * pol p G) := by
      rw [eL, ← Ser.mul_assoc, Ser.C_mul, Ser.C_congr (show i * c % p = 1 % p by rw [Int.mul_comm, hi]; exact (mod_small (by omega) (by omega)).symm), Ser.C_one, Ser.one_mul]
    refine ⟨Ser.C p d * Ser.C p i, (Ser.poly_C d).mul (Ser.poly_C i), ?_⟩
    refine (pol_div_unique (q := pol p M) (q' := Ser.C p d * Ser.C p i * pol p L) (r := 0) (r' := 0) hG g0 (hF.linv hp hG g0) (pol_poly _) (((Ser.poly_C d).mul (Ser.poly_C i)).mul (pol_poly _)) (Ser.low_zero _) (Ser.low_zero _) ?_).1
    rw [eM, hF2]
    ac_rfl
  obtain ⟨w, hw, ew⟩ := key h1 h2 n1 e1 e2
  obtain ⟨v, hv, ev⟩ := key h2 h1 n2 e2 e1
  have i1 : (1 : Int) * 1 % p = 1 := mod_small (by omega) (by omega)
  have l1 := len_mul h2 n2 h1 (i := 1) (by rw [m1]; exact i1) hw ew
  have l2 := len_mul h1 n1 h2 (i := 1) (by rw [m2]; exact i1) hv ev
  exact monic_eq hp h1 h2 n2 m1 m2 (by omega) hv ev

theorem fld7 : Fld 7 := fun a h0 h => by
  have : a = 1 ∨ a = 2 ∨ a = 3 ∨ a = 4 ∨ a = 5 ∨ a = 6 := by omega
  rcases this with rfl | rfl | rfl | rfl | rfl | rfl <;> decide
theorem pol61 : Pol 7 [6, 1] := ⟨by unfold Rng; decide, fun _ => by decide⟩
theorem pol601 : Pol 7 [6, 0, 1] := ⟨by unfold Rng; decide, fun _ => by decide⟩
theorem pol11 : Pol 7 [1, 1] := ⟨by unfold Rng; decide, fun _ => by decide⟩
theorem mul61 : pol 7 [1, 1] * pol 7 [6, 1] = pol 7 [6, 0, 1] := Ser.ext_ fun k => by
  match k with
  | 0 => decide
  | 1 => decide
  | 2 => decide
  | k + 3 =>
    rw [((pol_low (p := 7) [1, 1]).mul (pol_low [6, 1])) (k + 3) (by simp), (pol_low (p := 7) [6, 0, 1]) (k + 3) (by simp)]
theorem gcd61 : IsGcd 7 [6, 0, 1] [6, 1] [6, 1] := IsGcd.of_dvd pol61 (by decide) (pol_poly [1, 1]) mul61.symm

set_option maxHeartbeats 1000000 in
theorem awake03 (w : World) : Calls Try.prog 9 #[] w (Ret (.bool true) w) := by
  have r7 : Hid (rightB 7 = true) := by unfold Hid; decide
  have hm := hid (show (pol 7 [1, 1] * pol 7 [6, 1]).low 512 from ((pol_low (p := 7) [1, 1]).mul (pol_low [6, 1])).mono (by simp))
  have he : Hid (hor 7 3 [6, 0, 1].reverse = 1) := by unfold Hid; decide
  go_enter Try.func9, Try.ntmps9
  go_wp2_with fail
  refine (pGcd_yes 7 _ _ [6, 0, 1] [6, 1] _ r7.out fld7 ((Ints.at3 (by simp)).alloc _) (Ints.at2 (by simp)) pol601 pol61 (by simp)).mono ?_
  rintro _ w1 ⟨vg, G, rfl, g1, g2, x1⟩
  obtain rfl : G = [6, 1] := g2.unique (by decide) gcd61
  have G1 := hid g1
  clear g1 g2
  go_wp2_with fail
  refine (pLcm_yes 7 _ _ [6, 0, 1] [6, 1] _ r7.out fld7 ((Ints.at3 (by simp)).alloc _) (Ints.at2 (by simp)) pol601 pol61 (by simp) (by simp)).mono ?_
  rintro _ w2 ⟨vl, L, rfl, l1, l2, _, l3, x2⟩
  obtain ⟨l4, l5, G', c, l6, l7⟩ := l3 (by simp) (by simp)
  obtain rfl : G' = [6, 1] := l6.unique (by decide) gcd61
  obtain rfl : L = [6, 0, 1] := lcm_unique fld7 (by decide) l2 pol601 pol61 l4 (by simp) (by simp) l5 (by decide) l7 (c2 := 1) (by rw [Ser.C_one, Ser.one_mul])
  have L1 := hid l1
  clear l1 l2 l3 l4 l5 l6 l7
  go_wp2_with fail
  refine (pMul_yes 7 _ _ [1, 1] [6, 1] _ r7.out ((Ints.at2 (by simp)).alloc _) (Ints.at2 (by simp)) pol11 pol61 (by simp) hm.out).mono ?_
  rintro _ w3 ⟨vm, M, rfl, m1, m2, m3, x3⟩
  obtain rfl : M = [6, 0, 1] := m2.inj pol601 (m3.trans mul61)
  have M1 := hid m1
  clear m1 m2 m3
  go_wp2_with fail
  refine (pEval_yes 7 3 _ [6, 0, 1] _ r7.out (Ints.at3 (by simp)) pol601 (by simp) (by decide) (by decide)).mono ?_
  rw [he.out]
  rintro _ w4 ⟨rfl, x4⟩
  have hx23 : Ext w2 w3 := (by repeat (first | exact Ext.refl _ | assumption | refine Ext.drew ?_ | refine Ext.drewN ?_ _ | refine Ext.alloc ?_ _ | refine Ext.trans ?_ (by assumption)))
  have hx34 : Ext w3 w4 := (by repeat (first | exact Ext.refl _ | assumption | refine Ext.drew ?_ | refine Ext.drewN ?_ _ | refine Ext.alloc ?_ _ | refine Ext.trans ?_ (by assumption)))
  have hx12 : Ext w1 w2 := (by repeat (first | exact Ext.refl _ | assumption | refine Ext.drew ?_ | refine Ext.drewN ?_ _ | refine Ext.alloc ?_ _ | refine Ext.trans ?_ (by assumption)))
  go_wp2_with fail
  refine (same_yes _ _ [6, 1] _ (G1.out.ext (Ext.alloc (hx12.trans (hx23.trans hx34)) _)) (Ints.at2 (by simp))).mono ?_
  rintro _ w5 ⟨rfl, x5⟩
  have hx45 : Ext w4 w5 := (by repeat (first | exact Ext.refl _ | assumption | refine Ext.drew ?_ | refine Ext.drewN ?_ _ | refine Ext.alloc ?_ _ | refine Ext.trans ?_ (by assumption)))
  go_wp2_with fail
  refine (same_yes _ _ [6, 0, 1] _ (L1.out.ext (hx23.trans (hx34.trans hx45))) (M1.out.ext (hx34.trans hx45))).mono ?_
  rintro _ w6 ⟨rfl, x6⟩
  go_wp2_with fail
  refine (polRight_yes 7 _ [6, 0, 1] _ r7.out (M1.out.ext (hx34.trans (hx45.trans x6))) pol601 (by simp)).mono ?_
  rintro _ _ ⟨rfl, rfl⟩
  go_wp2_with fail
  go_ret
  have hx01 : Ext w w1 := (by repeat (first | exact Ext.refl _ | assumption | refine Ext.drew ?_ | refine Ext.drewN ?_ _ | refine Ext.alloc ?_ _ | refine Ext.trans ?_ (by assumption)))
  exact ⟨rfl, hx01.trans (hx12.trans (hx23.trans (hx34.trans (hx45.trans x6))))⟩
end Go.Proofs.Ytgeinhlhhlmciaa
