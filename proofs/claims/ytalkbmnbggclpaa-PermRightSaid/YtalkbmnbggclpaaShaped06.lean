/- A law's own question of layer 6: is a matrix of as many cells as it should be? -/
import Derived.Test.YtalkbmnbggclpaaPmC
namespace Go.Proofs.Ytalkbmnbggclpaa
open Go.RowKit

set_option maxHeartbeats 800000 in
theorem shaped06 (r c : Int) (v : Value) (xs : List Int) (w : World) (hv : Ints .u64 w v xs) : Calls Try.prog 24 #[matV r c v] w (Ret (.bool (shB r c xs)) w) := by
  obtain ⟨B, hB⟩ : ∃ B, shB r c xs = B := ⟨_, rfl⟩
  rw [hB]
  obtain ⟨a, cap, rfl, k1, k2, k3⟩ := hv
  clear k3
  have hx := hid (box3 w 25 (.int .i64 r) (.int .i64 c) (.slice a xs.length cap))
  have hE := hid ((Ext.refl w).alloc (.cells #[.int .i64 r, .int .i64 c, .slice a xs.length cap] 25))
  obtain ⟨b0, b1, b2⟩ := hx.out _ (Ext.refl _)
  unfold matV
  unfold shB at hB
  by_cases h1 : 1 ≤ r
  · by_cases h2 : r ≤ 64
    · by_cases h3 : 1 ≤ c
      · by_cases h4 : c ≤ 64
        · have hq1 : 0 ≤ r * c := Int.mul_nonneg (by omega) (by omega)
          have hq2 : r * c ≤ 64 * 64 := Int.mul_le_mul h2 h4 (by omega) (by omega)
          rw [decide_eq_true (show 1 ≤ r ∧ r ≤ 64 from ⟨h1, h2⟩), decide_eq_true (show 1 ≤ c ∧ c ≤ 64 from ⟨h3, h4⟩), Bool.true_and, Bool.true_and] at hB
          obtain ⟨q, hq⟩ : ∃ q, r * c = q := ⟨_, rfl⟩
          rw [hq] at hq1 hq2 hB
          have hb : ((xs.length : Int) == q) = B := by rw [← hB, Bool.eq_iff_iff]; simp
          clear hB
          go_enter Try.func24, Try.ntmps24
          go_wp2_with fail
          go_ret
          exact ⟨rfl, hE.out⟩
        · rw [decide_eq_false (show ¬ (1 ≤ c ∧ c ≤ 64) from fun h => h4 h.2), Bool.false_and, Bool.and_false] at hB
          subst hB
          go_enter Try.func24, Try.ntmps24
          go_wp2_with fail
          go_ret
          exact ⟨rfl, hE.out⟩
      · rw [decide_eq_false (show ¬ (1 ≤ c ∧ c ≤ 64) from fun h => h3 h.1), Bool.false_and, Bool.and_false] at hB
        subst hB
        go_enter Try.func24, Try.ntmps24
        go_wp2_with fail
        go_ret
        exact ⟨rfl, hE.out⟩
    · rw [decide_eq_false (show ¬ (1 ≤ r ∧ r ≤ 64) from fun h => h2 h.2), Bool.false_and] at hB
      subst hB
      go_enter Try.func24, Try.ntmps24
      go_wp2_with fail
      go_ret
      exact ⟨rfl, hE.out⟩
  · rw [decide_eq_false (show ¬ (1 ≤ r ∧ r ≤ 64) from fun h => h1 h.1), Bool.false_and] at hB
    subst hB
    go_enter Try.func24, Try.ntmps24
    go_wp2_with fail
    go_ret
    exact ⟨rfl, hE.out⟩
end Go.Proofs.Ytalkbmnbggclpaa
