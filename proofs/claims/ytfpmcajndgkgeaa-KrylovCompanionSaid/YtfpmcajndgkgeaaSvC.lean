/- What the functions of package solve answer: Sv1 to SvN show it of the program. -/
import Derived.Test.YtfpmcajndgkgeaaSvN
import Derived.Test.YtfpmcajndgkgeaaBun15
import Derived.Test.YtfpmcajndgkgeaaBun19
import Derived.Test.YtfpmcajndgkgeaaBun18
namespace Go.Proofs.Ytfpmcajndgkgeaa
open Go.RowKit

/-- what is against is the first of those that are -/
theorem AgOf.of {p : Int} {m n : Nat} {xs b : List Int} (ok : MatOk p m n xs) (hf : Fld p) (hb : b.length = m) (hr : Rng p b) (h : ¬ ∃ x, IsX p m n xs b x) : ∃ y, AgOf p m n xs b y := by
  have hex : ∃ i, ∃ y, i < m ∧ i ∉ (takeL p m n xs).rows ∧ IsY p m n xs i y ∧ dotF m (atV y) (atV b) % p ≠ 0 := by
    refine Classical.byContradiction fun hn => h (IsX.or ok hf hb hr fun i y hi hc hy => Classical.byContradiction fun hne => hn ⟨i, y, hi, hc, hy, hne⟩)
  obtain ⟨i, ⟨y, h1, h2, h3, h4⟩, h5⟩ : ∃ i, (∃ y, i < m ∧ i ∉ (takeL p m n xs).rows ∧ IsY p m n xs i y ∧ dotF m (atV y) (atV b) % p ≠ 0) ∧ ∀ k, k < i → ¬ ∃ y, k < m ∧ k ∉ (takeL p m n xs).rows ∧ IsY p m n xs k y ∧ dotF m (atV y) (atV b) % p ≠ 0 := by
    obtain ⟨i, hi⟩ := hex
    induction i using Nat.strongRecOn with
    | ind i ih =>
      by_cases hk : ∃ k, k < i ∧ ∃ y, k < m ∧ k ∉ (takeL p m n xs).rows ∧ IsY p m n xs k y ∧ dotF m (atV y) (atV b) % p ≠ 0
      · obtain ⟨k, hki, hk⟩ := hk
        exact ih k hki hk
      · exact ⟨i, hi, fun k hki hk' => hk ⟨k, hki, hk'⟩⟩
  exact ⟨y, i, h1, h2, h3, h4, fun k z hk hc hz => Classical.byContradiction fun hne => h5 k hk ⟨z, by omega, hc, hz, hne⟩⟩
theorem AgOf.none {p : Int} {m n : Nat} {xs b : List Int} {x : List Int} (h : IsX p m n xs b x) : ¬ ∃ y, AgOf p m n xs b y := fun ⟨_, _, _, _, hy, hne, _⟩ => hne (h.none hy)
end Go.Proofs.Ytfpmcajndgkgeaa
