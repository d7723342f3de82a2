/- Products of matrices and vectors as lists: the laws of layer 5 in plain Lean; nothing of a program. -/
import Derived.Test.YtalkbmnbggclpaaMatM
namespace Go.Proofs.Ytalkbmnbggclpaa
variable {p : Int}

def timesL (p : Int) (m n : Nat) (xs ys : List Int) : List Int := tab m fun i => dv p n (fun k => xs.getD (i * n + k) 0) fun k => ys.getD k 0
def leftL (p : Int) (m n : Nat) (xs ys : List Int) : List Int := tab n fun k => dv p m (fun i => xs.getD (i * n + k) 0) fun i => ys.getD i 0
def mulL (p : Int) (m n q : Nat) (xs ys : List Int) : List Int := grid m q fun i k => dv p n (fun j => xs.getD (i * n + j) 0) fun j => ys.getD (j * q + k) 0
def turnL (m n : Nat) (xs : List Int) : List Int := grid n m fun k i => xs.getD (i * n + k) 0
def oneL (n : Nat) : List Int := grid n n fun i k => if i = k then 1 else 0
def pickL (n : Nat) (xs : List Int) (rows cols : List Nat) : List Int := grid rows.length cols.length fun i k => xs.getD (rows.getD i 0 * n + cols.getD k 0) 0
theorem timesL_len (m n : Nat) (xs ys : List Int) : (timesL p m n xs ys).length = m := tab_len _ _
theorem leftL_len (m n : Nat) (xs ys : List Int) : (leftL p m n xs ys).length = n := tab_len _ _
theorem mulL_len (m n q : Nat) (xs ys : List Int) : (mulL p m n q xs ys).length = m * q := grid_len _ _ _
theorem turnL_len (m n : Nat) (xs : List Int) : (turnL m n xs).length = n * m := grid_len _ _ _
theorem oneL_len (n : Nat) : (oneL n).length = n * n := grid_len _ _ _
theorem timesL_rng (hp : 2 ≤ p) (m n : Nat) (xs ys : List Int) : Rng p (timesL p m n xs ys) := tab_rng fun _ _ => dv_range hp _ _ _
theorem leftL_rng (hp : 2 ≤ p) (m n : Nat) (xs ys : List Int) : Rng p (leftL p m n xs ys) := tab_rng fun _ _ => dv_range hp _ _ _
theorem mulL_rng (hp : 2 ≤ p) (m n q : Nat) (xs ys : List Int) : Rng p (mulL p m n q xs ys) := grid_rng fun _ _ _ _ => dv_range hp _ _ _
theorem turnL_rng (hp : 2 ≤ p) {xs : List Int} (h : Rng p xs) (m n : Nat) : Rng p (turnL m n xs) := grid_rng fun _ _ _ _ => h.getD hp _
theorem oneL_rng (hp : 2 ≤ p) (n : Nat) : Rng p (oneL n) := grid_rng fun _ _ _ _ => by split <;> omega

/-- a product times a vector -/
theorem times_mul (m n q : Nat) (xs ys zs : List Int) : timesL p m n xs (timesL p n q ys zs) = timesL p m q (mulL p m n q xs ys) zs := by
  unfold timesL
  refine tab_congr fun i hi => ?_
  rw [dv_congr (fun _ _ => rfl) fun k hk => tab_get _ hk, dv_assoc]
  exact dv_congr (fun j hj => by rw [mulL, grid_get _ hi hj]) fun _ _ => rfl
/-- a vector times a product -/
theorem left_mul (m n q : Nat) (xs ys zs : List Int) : leftL p n q ys (leftL p m n xs zs) = leftL p m q (mulL p m n q xs ys) zs := by
  unfold leftL
  refine tab_congr fun k hk => ?_
  rw [dv_congr (fun _ _ => rfl) fun j hj => tab_get _ hj, dv_assoc]
  refine dv_congr (fun i hi => ?_) fun _ _ => rfl
  rw [mulL, grid_get _ hi hk, dv_comm]
/-- turned, a product is the turned ones', the other way round -/
theorem turn_mul (m n q : Nat) (xs ys : List Int) : turnL m q (mulL p m n q xs ys) = mulL p q n m (turnL n q ys) (turnL m n xs) := by
  unfold turnL
  rw [mulL, mulL]
  refine grid_congr fun k i hk hi => ?_
  rw [grid_get _ hi hk, dv_comm]
  exact dv_congr (fun j hj => by rw [grid_get _ hk hj]) fun j hj => by rw [grid_get _ hj hi]
theorem turn_turn {m n : Nat} {xs : List Int} (h : xs.length = m * n) : turnL n m (turnL m n xs) = xs := by
  unfold turnL
  rw [grid_congr (N := fun i k => xs.getD (i * n + k) 0) fun i k hi hk => grid_get _ hk hi, grid_self h]
theorem one_mul {m n : Nat} {xs : List Int} (h : xs.length = m * n) (hr : Rng p xs) : mulL p m m n (oneL m) xs = xs := by
  unfold mulL
  refine Eq.trans (grid_congr fun i k hi hk => ?_) (grid_self h)
  rw [dv_congr (b := fun j => if j = i then 1 else 0) (fun j hj => by
    rw [oneL, grid_get _ hi hj]
    by_cases e : j = i
    · rw [if_pos e, if_pos e.symm]
    · rw [if_neg e, if_neg fun h => e h.symm]) (fun _ _ => rfl), dv_one _ hi]
  exact mod_small (hr.get (by rw [h]; exact at_lt hi hk)).1 (hr.get (by rw [h]; exact at_lt hi hk)).2
theorem mul_one {m n : Nat} {xs : List Int} (h : xs.length = m * n) (hr : Rng p xs) : mulL p m n n xs (oneL n) = xs := by
  unfold mulL
  refine Eq.trans (grid_congr fun i k hi hk => ?_) (grid_self h)
  rw [dv_comm, dv_congr (b := fun j => if j = k then 1 else 0) (fun j hj => by rw [oneL, grid_get _ hj hk]) (fun _ _ => rfl), dv_one _ hk]
  exact mod_small (hr.get (by rw [h]; exact at_lt hi hk)).1 (hr.get (by rw [h]; exact at_lt hi hk)).2
/-- y (M x) is (y M) x -/
theorem dot_mul (m n : Nat) (xs ys zs : List Int) : dv p m (fun i => ys.getD i 0) (fun i => (timesL p m n xs zs).getD i 0) = dv p n (fun k => (leftL p m n xs ys).getD k 0) fun k => zs.getD k 0 := by
  unfold timesL
  rw [dv_congr (fun _ _ => rfl) fun i hi => tab_get _ hi, dv_assoc]
  refine dv_congr (fun k hk => ?_) fun _ _ => rfl
  rw [leftL, tab_get _ hk, dv_comm]
/-- picked rows and columns of a product -/
theorem pick_mul {m n q : Nat} {xs ys : List Int} {rows cols : List Nat} (hr : ∀ i, i < rows.length → rows.getD i 0 < m) (hc : ∀ k, k < cols.length → cols.getD k 0 < q) :
    mulL p rows.length n cols.length (pickL n xs rows (List.range n)) (pickL q ys (List.range n) cols) = pickL q (mulL p m n q xs ys) rows cols := by
  have hl : (List.range n).length = n := List.length_range
  have hg : ∀ j, j < n → (List.range n).getD j 0 = j := fun j hj => by simp [List.getD, hj]
  unfold pickL
  rw [mulL, hl]
  refine grid_congr fun i k hi hk => ?_
  rw [mulL, grid_get _ (hr i hi) (hc k hk)]
  exact dv_congr (fun j hj => by rw [grid_get _ hi hj, hg j hj]) fun j hj => by rw [grid_get _ hj hk, hg j hj]
/-- a vector that is 1 at one place takes out a row .. -/
theorem left_unit {m n i : Nat} {xs us : List Int} (hr : Rng p xs) (hp : 2 ≤ p) (hi : i < m) (hu : ∀ j, j < m → us.getD j 0 = if j = i then 1 else 0) : leftL p m n xs us = tab n fun k => xs.getD (i * n + k) 0 := by
  unfold leftL
  refine tab_congr fun k hk => ?_
  rw [dv_comm, dv_congr (b := fun j => if j = i then 1 else 0) (fun j hj => hu j hj) (fun _ _ => rfl), dv_one _ hi]
  exact mod_small (hr.getD hp _).1 (hr.getD hp _).2
/-- .. or a column -/
theorem times_unit {m n k : Nat} {xs us : List Int} (hr : Rng p xs) (hp : 2 ≤ p) (hk : k < n) (hu : ∀ j, j < n → us.getD j 0 = if j = k then 1 else 0) : timesL p m n xs us = tab m fun i => xs.getD (i * n + k) 0 := by
  unfold timesL
  refine tab_congr fun i hi => ?_
  rw [dv_comm, dv_congr (b := fun j => if j = k then 1 else 0) (fun j hj => hu j hj) (fun _ _ => rfl), dv_one _ hk]
  exact mod_small (hr.getD hp _).1 (hr.getD hp _).2
end Go.Proofs.Ytalkbmnbggclpaa
