/- The law's own test of a prime. -/
import Derived.Test.YtfpmcajndgkgeaaBun05
namespace Go.Proofs.Ytfpmcajndgkgeaa
open Go.RowKit

set_option maxHeartbeats 400000 in
theorem prime_any08 (p : Int) (w : World) (h0 : 0 ≤ p) :
    Calls Try.prog 10 #[.int .u64 p] w fun e w' => e = .returned (.bool (takenB p)) ∧ w = w' := by
  obtain ⟨T, hT⟩ : ∃ T, takenB p = T := ⟨_, rfl⟩
  rw [hT]
  unfold takenB at hT
  by_cases h1 : p = 2147483647
  · rw [decide_eq_true h1, Bool.true_or, Bool.true_or] at hT
    subst hT
    subst h1
    go_enter Try.func10, Try.ntmps10
    go_wp2_with fail
    go_ret
    exact ⟨rfl, rfl⟩
  · rw [decide_eq_false h1, Bool.false_or] at hT
    by_cases h2 : p = 2305843009213693951
    · rw [decide_eq_true h2, Bool.true_or] at hT
      subst hT
      subst h2
      clear h1
      go_enter Try.func10, Try.ntmps10
      go_wp2_with fail
      go_ret
      exact ⟨rfl, rfl⟩
    · rw [decide_eq_false h2, Bool.false_or] at hT
      have b1 : (p == 2147483647) = false := by rw [beq_eq_false_iff_ne]; exact h1
      have b2 : (p == 2305843009213693951) = false := by rw [beq_eq_false_iff_ne]; exact h2
      clear h1 h2
      by_cases h3 : p < 1048576
      · rw [decide_eq_true h3, Bool.true_and] at hT
        have c1 := hid (Is_as p T w h0 (by omega) hT)
        clear hT
        go_enter Try.func10, Try.ntmps10
        go_wp2_with (go_at_call 54; refine c1.out.mono ?_; rintro _ _ ⟨rfl, rfl⟩)
        go_ret
        exact ⟨rfl, rfl⟩
      · rw [decide_eq_false h3, Bool.false_and] at hT
        subst hT
        go_enter Try.func10, Try.ntmps10
        go_wp2_with fail
        go_ret
        exact ⟨rfl, rfl⟩

end Go.Proofs.Ytfpmcajndgkgeaa
