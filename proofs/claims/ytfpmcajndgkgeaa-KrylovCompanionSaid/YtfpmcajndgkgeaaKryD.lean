/- A companion's list: it is right, its own polynomial, its determinant. -/
import Derived.Test.YtfpmcajndgkgeaaKryC
import Derived.Test.YtfpmcajndgkgeaaBun33
namespace Go.Proofs.Ytfpmcajndgkgeaa
variable {p : Int} {n : Nat}

theorem comp_at {m : Nat} {f : List Int} {i k : Nat} (hi : i < m + 1) (hk : k < m + 1) : atF (m + 1) (compL p (m + 1) f) i k = cmpF m (fun k => (0 - f.getD k 0) % p) i k := by
  show (compL p (m + 1) f).getD (i * (m + 1) + k) 0 = _
  rw [compL, grid_get _ hi hk, Nat.add_sub_cancel]; rfl
theorem comp_ok {f : List Int} (hp : rightB p = true) (hn : 1 ≤ n ∧ n ≤ 64) : MatOk p n n (compL p n f) := by
  have h2 := (rightB_true hp).1
  refine ⟨hp, grid_rng fun i k _ _ => ?_, hn, hn, compL_len _ _ _⟩
  split
  · exact mod_range _ h2
  · split <;> omega
theorem comp_min {f : List Int} (hp : 2 ≤ p) (hf : Pol p f) (hl : f.length = n + 1) (hn : 1 ≤ n) (h1 : f.getD n 0 = 1) : MinL p n (compL p n f) f := by
  obtain ⟨m, rfl⟩ : ∃ m, n = m + 1 := ⟨n - 1, by omega⟩
  exact min_congr (fun i k hi hk => (comp_at hi hk).symm) (cmp_min hp hf hl h1 (c := fun k => (0 - f.getD k 0) % p) fun k _ => by rw [Int.emod_emod, Int.zero_sub])
theorem comp_det {f : List Int} (hp : 2 ≤ p) (hf : Pol p f) (hn : 1 ≤ n) : detF n (atF n (compL p n f)) % p = if n % 2 = 1 then (0 - f.getD 0 0) % p else f.getD 0 0 := by
  obtain ⟨m, rfl⟩ : ∃ m, n = m + 1 := ⟨n - 1, by omega⟩
  rw [detF_congr (m + 1) fun i k hi hk => comp_at hi hk, cmp_det]
  have hr := hf.rng.getD hp 0
  unfold sg
  by_cases e : m % 2 = 0
  · rw [if_pos e, if_pos (by omega), Int.one_mul, Int.emod_emod]
  · rw [if_neg e, if_neg (by omega), Int.neg_mul, Int.one_mul]
    have h : -((0 - f.getD 0 0) % p) % p = f.getD 0 0 % p := by
      rw [← Int.zero_sub ((0 - f.getD 0 0) % p), ms_r]
      exact congrArg (· % p) (by omega)
    rw [h, mod_small hr.1 hr.2]
end Go.Proofs.Ytfpmcajndgkgeaa
