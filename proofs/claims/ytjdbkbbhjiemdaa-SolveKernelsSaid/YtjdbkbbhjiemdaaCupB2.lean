/- What the texts CupQ, CupR show, in one text. -/
import Derived.Test.YtjdbkbbhjiemdaaRef07
import Derived.Test.YtjdbkbbhjiemdaaCupB5
import Derived.Test.YtjdbkbbhjiemdaaCupB1
/- A right matrix taken apart over a field: its rank, its profile, its determinant, as the laws of layer 7 ask for them (in plain Lean; nothing of a program). -/
namespace Go.Proofs.Ytjdbkbbhjiemdaa
variable {p : Int} {m n : Nat} {xs : List Int}

/-- a matrix's row -/
def rowOf (n : Nat) (xs : List Int) (i : Nat) : List Int := tab n fun j => xs.getD (i * n + j) 0
/-- a matrix taken apart -/
noncomputable def takeL (p : Int) (m n : Nat) (xs : List Int) : ElE := (takeE p n (rowOf n xs) m).getD .nil
theorem rowOf_rng (hp : 2 ≤ p) (hx : Rng p xs) (i : Nat) : (rowOf n xs i).length = n ∧ Rng p (rowOf n xs i) := ⟨tab_len _ _, tab_rng fun _ _ => hx.getD hp _⟩
theorem takeL_some (hp : 2 ≤ p) (hf : Fld p) (hx : Rng p xs) : takeE p n (rowOf n xs) m = some (takeL p m n xs) := by
  obtain ⟨st, h⟩ := takeE_some hp hf m fun i _ => rowOf_rng (n := n) hp hx i
  unfold takeL
  rw [h]; rfl
theorem takeL_ok (hp : 2 ≤ p) (hf : Fld p) (hx : Rng p xs) : ElOk p n (rowOf n xs) m (takeL p m n xs) := takeE_ok hp m (fun i _ => rowOf_rng hp hx i) (takeL_some hp hf hx)
theorem lf_row {i j : Nat} (hj : j < n) : lf (rowOf n xs i) j = atF n xs i j := tab_get _ hj
/-- the rank of the turned one -/
theorem rank_turn (hp : 2 ≤ p) (hf : Fld p) (hx : Rng p xs) : (takeL p n m (turnL m n xs)).U.length = (takeL p m n xs).U.length := by
  have hi := hf.has hp
  have B := (takeL_ok (m := m) (n := n) hp hf hx).bas hi
  have B' := (takeL_ok (m := n) (n := m) hp hf (turnL_rng hp hx m n)).bas hi
  have e1 : ∀ i j, i < m → j < n → lf (rowOf m (turnL m n xs) j) i = lf (rowOf n xs i) j := fun i j hi hj => by
    rw [lf_row hi, lf_row hj]
    show (turnL m n xs).getD (j * m + i) 0 = xs.getD (i * n + j) 0
    rw [turnL, grid_get _ hj hi]
  refine Nat.le_antisymm (Bas.turn_le hi B (u' := fun k => lf ((takeL p n m (turnL m n xs)).U.getD k [])) ⟨B'.ind, fun j hj => (B'.gen j hj).congr fun i hi => by rw [e1 i j hi hj], fun k hk => ?_⟩) (Bas.turn_le hi B' (u' := fun k => lf ((takeL p m n xs).U.getD k [])) ⟨B.ind, fun i hi => (B.gen i hi).congr fun j hj => by rw [e1 i j hi hj], fun k hk => ?_⟩)
  · exact (B'.own k hk).trans fun j hj => (Comb.one (fun j i => lf (rowOf n xs i) j) hj).congr fun i hi => by rw [e1 i j hi hj]
  · exact (B.own k hk).trans fun i hi => (Comb.one (fun i j => lf (rowOf m (turnL m n xs) j) i) hi).congr fun j hj => by rw [e1 i j hi hj]
theorem rowsF_det (n : Nat) (xs : List Int) : detN n (rowsF n (rowOf n xs)) = detF n (atF n xs) :=
  detF_congr n (A := fun i => lf (rowOf n xs i)) fun _ _ _ hj => lf_row hj
/-- the turned one's determinant -/
theorem det_turned (hp : 2 ≤ p) (hf : Fld p) (hx : Rng p xs) : detF n (atF n (turnL n n xs)) % p = detF n (atF n xs) % p := by
  have ok := takeL_ok (m := n) (n := n) hp hf hx
  have h1 := ok.det (hf.has hp)
  have h2 := ok.det_turn (hf.has hp)
  rw [rowsF_det] at h1
  rw [h1, ← h2]
  refine congrArg (· % p) (detF_congr n fun j i hj hi => ?_)
  rw [rowsF_get hi, lf_row hj]
  show (turnL n n xs).getD (j * n + i) 0 = xs.getD (i * n + j) 0
  rw [turnL, grid_get _ hj hi]
theorem mz_prod (hp : HasInv p) {a b : Int} (ha : a % p ≠ 0) (hb : b % p ≠ 0) : a * b % p ≠ 0 := fun h => ha (mz_cancel hp hb h)
theorem prN_ne (hp : HasInv p) {d : Nat → Int} : ∀ n, (∀ k, k < n → d k % p ≠ 0) → prN n d % p ≠ 0
  | 0, _ => by show (1 : Int) % p ≠ 0; rw [hp.one]; omega
  | n + 1, h => mz_prod hp (prN_ne hp n fun k hk => h k (by omega)) (h n (by omega))
/-- the determinant isn't 0 just if all rows count -/
theorem det_rank (hp : 2 ≤ p) (hf : Fld p) (hx : Rng p xs) : detF n (atF n xs) % p = 0 ↔ (takeL p n n xs).U.length ≠ n := by
  have ok := takeL_ok (m := n) (n := n) hp hf hx
  have hi := hf.has hp
  have h1 := ok.det hi
  rw [rowsF_det] at h1
  rw [h1]
  unfold detE
  have hle := ok.le
  by_cases h : (takeL p n n xs).U.length < n
  · rw [if_pos h]
    exact ⟨fun _ => by omega, fun _ => by simp⟩
  · rw [if_neg h]
    refine ⟨fun h0 => absurd h0 (mz_prod hi (prN_ne hi n fun k hk => ?_) ?_), fun h0 => absurd (show _ = n by omega) h0⟩
    · exact ok.ech.piv k (by omega)
    · rcases sgn_or (colsZ (takeL p n n xs)) with e | e
      · rw [e, hi.one]; omega
      · rw [e]
        intro h2
        have h3 := mz_neg h2
        rw [show -(-1 : Int) = 1 by rfl, hi.one] at h3
        omega
/-- the first rows' profile -/
theorem profile_prefix (hp : 2 ≤ p) (hf : Fld p) (hx : Rng p xs) {k : Nat} (hk : k ≤ m) : ∃ t, (takeL p m n xs).rows = (takeL p k n (xs.take (k * n))).rows ++ t ∧ ∀ x ∈ t, k ≤ x := by
  have h1 := takeL_some (m := k) (n := n) hp hf (hx.take (k * n))
  have h2 := takeL_some (m := m) (n := n) hp hf hx
  have e : takeE p n (rowOf n (xs.take (k * n))) k = takeE p n (rowOf n xs) k := takeE_congr k fun i hi => tab_congr fun j hj => by
    have := at_lt hi hj
    simp only [List.getD, List.getElem?_take, if_pos this]
  rw [e] at h1
  rw [show m = k + (m - k) by omega] at h2 ⊢
  exact takeE_prefix h1 (m - k) h2
end Go.Proofs.Ytjdbkbbhjiemdaa
/- A right matrix taken apart makes itself again; the minor of the rows and columns that count (in plain Lean; nothing of a program). -/
namespace Go.Proofs.Ytjdbkbbhjiemdaa
variable {p : Int} {m n : Nat} {xs : List Int}

/-- a row of so many numbers, 0 behind -/
def padL (r : Nat) (l : List Int) : List Int := l ++ List.replicate (r - l.length) 0
theorem padL_len {r : Nat} {l : List Int} (h : l.length ≤ r) : (padL r l).length = r := by simp [padL]; omega
theorem padL_get (r : Nat) (l : List Int) (k : Nat) : (padL r l).getD k 0 = l.getD k 0 := pad_get _ _ _
/-- what parts make -/
def makeL (p : Int) (C U : List (List Int)) (m n : Nat) : List Int := grid m n fun i j => (sm U.length fun t => (C.getD i []).getD t 0 * (U.getD t []).getD j 0) % p
theorem makeL_len (C U : List (List Int)) : (makeL p C U m n).length = m * n := grid_len _ _ _
theorem map_getD {C : List (List Int)} {f : List Int → List Int} {i : Nat} (h : i < C.length) : (C.map f).getD i [] = f (C.getD i []) := by
  simp [List.getD, List.getElem?_map, List.getElem?_eq_getElem h]
theorem make_take (hp : 2 ≤ p) (hf : Fld p) (hx : Rng p xs) (hl : xs.length = m * n) (hn : 1 ≤ n) (r : Nat) : makeL p ((takeL p m n xs).C.map (padL r)) (takeL p m n xs).U m n = xs := by
  have h := takeL_ok (m := m) (n := n) hp hf hx
  symm
  refine tab_of hl fun t ht => ?_
  have hi : t / n < m := (Nat.div_lt_iff_lt_mul (by omega)).2 ht
  have hj : t % n < n := Nat.mod_lt _ (by omega)
  have e : t / n * n + t % n = t := by rw [Nat.mul_comm]; exact Nat.div_add_mod t n
  have h1 := h.full hi hj
  have h2 : (rowOf n xs (t / n)).getD (t % n) 0 = xs.getD t 0 := by rw [← e]; simp only [e]; exact (tab_get _ hj).trans (by rw [e])
  rw [h2, mod_small (hx.getD hp t).1 (hx.getD hp t).2] at h1
  rw [h1]
  congr 2
  funext k
  rw [map_getD (by rw [h.lc]; exact hi), padL_get]

/-- the columns that count, rising -/
def risL (n : Nat) (cols : List Nat) : List Nat := (List.range n).filter fun l => decide (l ∈ cols)
theorem risL_mem {cols : List Nat} {l : Nat} : l ∈ risL n cols ↔ l < n ∧ l ∈ cols := by simp [risL]
theorem risL_len {cols : List Nat} (hn : cols.Nodup) (hb : ∀ c ∈ cols, c < n) : (risL n cols).length = cols.length := by
  have h1 := offE_len hn hb
  have h2 : (risL n cols).length + (offE n cols).length = n := by
    unfold risL offE
    rw [← List.countP_eq_length_filter, ← List.countP_eq_length_filter]
    have := List.length_eq_countP_add_countP (fun l => decide (l ∈ cols)) (l := List.range n)
    rw [List.length_range] at this
    simp only [decide_not] at this ⊢
    simpa using this.symm
  omega
/-- the minor of the rows and columns that count -/
noncomputable def minorL (p : Int) (m n : Nat) (xs : List Int) : List Int :=
  grid (takeL p m n xs).U.length (takeL p m n xs).U.length fun i l => xs.getD ((takeL p m n xs).rows.getD i 0 * n + (risL n (takeL p m n xs).cols).getD l 0) 0
theorem minorL_len : (minorL p m n xs).length = (takeL p m n xs).U.length * (takeL p m n xs).U.length := grid_len _ _ _
theorem minorL_rng (hp : 2 ≤ p) (hx : Rng p xs) : Rng p (minorL p m n xs) := tab_rng fun _ _ => hx.getD hp _
theorem minor_det (hp : 2 ≤ p) (hf : Fld p) (hx : Rng p xs) : detF (takeL p m n xs).U.length (atF (takeL p m n xs).U.length (minorL p m n xs)) % p ≠ 0 := by
  have h := takeL_ok (m := m) (n := n) hp hf hx
  obtain ⟨r, hr⟩ : ∃ r, (takeL p m n xs).U.length = r := ⟨_, rfl⟩
  have hy := minorL_rng (m := m) (n := n) hp hx
  have ho := takeL_ok (m := r) (n := r) hp hf hy
  have hi := hf.has hp
  have hcols : (risL n (takeL p m n xs).cols).length = r := by
    rw [risL_len h.cols_nodup fun c hc => h.cols_lt hc, h.lk, hr]
  rw [hr]
  intro h0
  apply (det_rank hp hf hy).1 h0
  apply Nat.le_antisymm ho.le
  have hm := h.minor hi (fun l => (risL n (takeL p m n xs).cols).getD l 0) (q := r) fun k hk => by
    have hk2 : k < (takeL p m n xs).cols.length := by rw [h.lk]; exact hk
    have hmem : (takeL p m n xs).cols.getD k 0 ∈ risL n (takeL p m n xs).cols := risL_mem.2 ⟨(h.row k hk).2.2.1, by simp [List.getD, List.getElem?_eq_getElem hk2]⟩
    obtain ⟨l, hl, e⟩ := List.getElem_of_mem hmem
    exact ⟨l, by rw [← hcols]; exact hl, by simp only [List.getD, List.getElem?_eq_getElem hl, Option.getD_some]; exact e⟩
  rw [hr] at hm
  refine hm.le hi fun k hk => ((ho.bas hi).gen k hk).congr fun j hj => ?_
  congr 1
  have e1 : lf (rowOf r (minorL p m n xs) k) j = (minorL p m n xs).getD (k * r + j) 0 := tab_get _ hj
  have e2 : (minorL p m n xs).getD (k * r + j) 0 = xs.getD ((takeL p m n xs).rows.getD k 0 * n + (risL n (takeL p m n xs).cols).getD j 0) 0 := by
    unfold minorL
    rw [hr]
    exact grid_get _ hk hj
  have hc : (risL n (takeL p m n xs).cols).getD j 0 < n := by
    have hj2 : j < (risL n (takeL p m n xs).cols).length := by rw [hcols]; exact hj
    have : (risL n (takeL p m n xs).cols).getD j 0 ∈ risL n (takeL p m n xs).cols := by simp [List.getD, List.getElem?_eq_getElem hj2]
    exact (risL_mem.1 this).1
  rw [e1, e2]
  exact tab_get _ hc
end Go.Proofs.Ytjdbkbbhjiemdaa
