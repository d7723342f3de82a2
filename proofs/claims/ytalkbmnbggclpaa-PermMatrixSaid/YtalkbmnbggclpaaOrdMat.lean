/- What an order's matrix does to a vector (in plain Lean; nothing of a program). -/
import Derived.Test.YtalkbmnbggclpaaPmY
import Derived.Test.YtalkbmnbggclpaaMx4
namespace Go.Proofs.Ytalkbmnbggclpaa
open Go.RowKit
variable {n : Nat} {p x : List Int} {q : Int}

theorem rowsL_get (hp : p.length = n) {c i k : Nat} {xs : List Int} (hi : i < n) (hk : k < c) : (rowsL p c xs).getD (i * c + k) 0 = xs.getD ((p.getD i 0).toNat * c + k) 0 := grid_get _ (by rw [hp]; exact hi) hk
theorem rowsOne_get (hp : Ord n p) {i k : Nat} (hi : i < n) (hk : k < n) : (rowsL p n (oneL n)).getD (i * n + k) 0 = if k = (p.getD i 0).toNat then 1 else 0 := by
  have := hp.get hi
  rw [rowsL_get hp.len hi hk, oneL, grid_get _ (by omega) hk]
  by_cases e : (p.getD i 0).toNat = k
  · rw [if_pos e, if_pos e.symm]
  · rw [if_neg e, if_neg fun h => e h.symm]
theorem rowsOne_times (hp : Ord n p) (hx : Rng q x) (h2 : 2 ≤ q) : timesL q n n (rowsL p n (oneL n)) x = doL p x := by
  symm
  refine tab_of (by rw [doL_len, hp.len]) fun i hi => ?_
  have := hp.get hi
  rw [doL_get hp.len hi, dv_congr (b := fun k => if k = (p.getD i 0).toNat then 1 else 0) (fun k hk => rowsOne_get hp hi hk) (fun _ _ => rfl), dv_one _ (by omega)]
  exact (mod_small (hx.getD h2 _).1 (hx.getD h2 _).2).symm
theorem rowsOne_left (hp : Ord n p) (hx : Rng q x) (h2 : 2 ≤ q) : leftL q n n (rowsL p n (oneL n)) x = doL (backL p) x := by
  symm
  refine tab_of (by rw [doL_len, backL_len, hp.len]) fun k hk => ?_
  obtain ⟨h3, h4⟩ := hp.at_lt hk
  rw [doL_get (n := n) (by rw [backL_len, hp.len]) hk, hp.back_get hk, Int.toNat_natCast, dv_congr (b := fun i => if i = atL p k then 1 else 0) (fun i hi => ?_) (fun _ _ => rfl), dv_one _ h3]
  · exact (mod_small (hx.getD h2 _).1 (hx.getD h2 _).2).symm
  · rw [rowsOne_get hp hi hk]
    have h5 := hp.get hi
    by_cases e : i = atL p k
    · rw [if_pos e, if_pos]; rw [e, h4]; rfl
    · rw [if_neg e, if_neg]
      intro h
      exact e (hp.inj hi h3 (by rw [h4]; omega))
theorem rowsOne_ok (hp : Ord n p) (h0 : 1 ≤ n) (h1 : n ≤ 64) : MatOk 101 n n (rowsL p n (oneL n)) :=
  ⟨by decide, grid_rng fun i k _ _ => (oneL_rng (p := 101) (by decide) n).getD (by decide) _, ⟨h0, h1⟩, ⟨h0, h1⟩, by rw [rowsL_len, hp.len]⟩
end Go.Proofs.Ytalkbmnbggclpaa
