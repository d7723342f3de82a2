/- What the document's own answers for layer 1 are. -/
import Derived.Test.YtcganfmlfoebpaaField
namespace Go.Proofs.Ytcganfmlfoebpaa
open Go.RowKit

set_option maxHeartbeats 400000 in
theorem rRight (p : Int) (w : World) (h0 : 0 ≤ p) (h1 : p ≤ 18446744073709551615) :
    Calls Try.prog 16 #[.int .u64 p] w fun e w' => e = .returned (.bool (rightB p)) ∧ w = w' := by
  by_cases h : 1 < p
  · by_cases h' : p ≤ 9223372036854775807
    all_goals
      go_enter Try.func16, Try.ntmps16
      go_wp2
      go_ret
      exact ⟨ret_bool (by simp [rightB]; omega), rfl⟩
  · go_enter Try.func16, Try.ntmps16
    go_wp2
    go_ret
    exact ⟨ret_bool (by simp [rightB]; omega), rfl⟩



theorem half_even {p a b h : Int} (hh : a * (b / 2) % p = h) (hb : b % 2 = 0) : (h + h) % p = a * b % p := by
  rw [← hh, ma_l, ma_r]
  congr 1
  have : b = b / 2 * 2 := by omega
  generalize b / 2 = c at *
  subst this; grind
theorem half_odd {p a b h g : Int} (hh : a * (b / 2) % p = h) (hg : (h + h) % p = g) (hb : b % 2 = 1) : (g + a) % p = a * b % p := by
  rw [← hg, ← hh, ma_l]
  have : b = b / 2 * 2 + 1 := by omega
  generalize b / 2 = c at *
  rw [mod_eq_iff]
  have e := Int.emod_def (a * c) p
  refine ⟨-2 * (a * c / p), ?_⟩
  rw [e, this]; grind



theorem sub_mul_le (l n : Int) (hn : 0 < n) (hl : 0 ≤ l) : 0 ≤ l / n * n ∧ l / n * n ≤ l ∧ l - l / n * n = l % n := by
  have h1 := Int.ediv_mul_add_emod l n
  have h2 := Int.emod_nonneg l (show n ≠ 0 by omega)
  have h3 := Int.mul_nonneg (Int.ediv_nonneg hl (by omega) : 0 ≤ l / n) (show 0 ≤ n by omega)
  omega
theorem unitB_gcd {p a : Int} (h : unitB p a = true) : ((Int.gcd p a : Nat) : Int) = 1 := by
  have : Int.gcd p a = 1 := by simpa [unitB] using h
  omega
theorem unitB_gcd' {p a : Int} (h : unitB p a = false) : (((Int.gcd p a : Nat) : Int) == 1) = false := by
  have : ¬ Int.gcd p a = 1 := by simpa [unitB] using h
  simp; omega

end Go.Proofs.Ytcganfmlfoebpaa
