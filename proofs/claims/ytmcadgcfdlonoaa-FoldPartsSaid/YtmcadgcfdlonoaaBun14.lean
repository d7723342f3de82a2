/- What the texts Ref07, CupQ, CupR, UsL, Mx4, Mx5, Cm1, Pm1 show, in one text. -/
import Derived.Test.YtmcadgcfdlonoaaBun13
import Derived.Test.YtmcadgcfdlonoaaBun11
import Derived.Deep.RegionHeld3
import Derived.Test.YtmcadgcfdlonoaaBun12
import Derived.Test.YtmcadgcfdlonoaaBun04
import Derived.Test.YtmcadgcfdlonoaaBun08
import Derived.Maps.AppendAt
import Derived.Test.YtmcadgcfdlonoaaBun10
/- The document's own answer of layer 7 that later layers ask for: a determinant, by the first row. -/
namespace Go.Proofs.Ytmcadgcfdlonoaa
open Go.RowKit Go.Maps

/-- a matrix's numbers, by row and column -/
def atF (n : Nat) (xs : List Int) : Nat → Nat → Int := fun i j => xs.getD (i * n + j) 0
/-- the minor without the first row and a column, as it is built -/
def minG (N : Nat) (xs : List Int) (k : Nat) : Nat → Int := fun t => atF (N + 1) xs (t / N + 1) (skp k (t % N))
theorem minG_atF (N : Nat) (xs : List Int) (k i j : Nat) (hi : i < N) (hj : j < N) : atF N (tab (N * N) (minG N xs k)) i j = atF (N + 1) xs (i + 1) (skp k j) := by
  unfold atF
  rw [tab_get _ (at_lt hi hj)]
  show atF (N + 1) xs ((i * N + j) / N + 1) (skp k ((i * N + j) % N)) = _
  rw [at_div hj, at_mod hj]
  rfl
/-- the sum over the first row, so far -/
def detTo (N : Nat) (xs : List Int) (p : Int) (k : Nat) : Int := (sm k fun t => sg t * atF (N + 1) xs 0 t * detF N (fun i j => atF (N + 1) xs (i + 1) (skp t j))) % p
theorem detTo_all (N : Nat) (xs : List Int) (p : Int) : detTo N xs p (N + 1) = detF (N + 1) (atF (N + 1) xs) % p := by rw [detF_succ]; rfl
theorem detTo_succ (N : Nat) (xs : List Int) (p : Int) (k : Nat) : detTo N xs p (k + 1) = (if k % 2 = 0 then (detTo N xs p k + (atF (N + 1) xs 0 k * (detF N (fun i j => atF (N + 1) xs (i + 1) (skp k j)) % p)) % p) % p else (detTo N xs p k - (atF (N + 1) xs 0 k * (detF N (fun i j => atF (N + 1) xs (i + 1) (skp k j)) % p)) % p) % p) := by
  obtain ⟨D, hD⟩ : ∃ D, detF N (fun i j => atF (N + 1) xs (i + 1) (skp k j)) = D := ⟨_, rfl⟩
  have e : (sm (k + 1) fun t => sg t * atF (N + 1) xs 0 t * detF N (fun i j => atF (N + 1) xs (i + 1) (skp t j))) = (sm k fun t => sg t * atF (N + 1) xs 0 t * detF N (fun i j => atF (N + 1) xs (i + 1) (skp t j))) + sg k * atF (N + 1) xs 0 k * D := by rw [← hD]; rfl
  unfold detTo
  rw [e, hD, mm_r, ma_l, ms_l]
  by_cases h : k % 2 = 0
  · rw [if_pos h, ma_r, show sg k = 1 by unfold sg; rw [if_pos h]]
    congr 1; grind
  · rw [if_neg h, ms_r, show sg k = -1 by unfold sg; rw [if_neg h]]
    congr 1; grind
end Go.Proofs.Ytmcadgcfdlonoaa
/- A right matrix taken apart over a field: its rank, its profile, its determinant, as the laws of layer 7 ask for them (in plain Lean; nothing of a program). -/
namespace Go.Proofs.Ytmcadgcfdlonoaa
variable {p : Int} {m n : Nat} {xs : List Int}

/-- a matrix's row -/
def rowOf (n : Nat) (xs : List Int) (i : Nat) : List Int := tab n fun j => xs.getD (i * n + j) 0
/-- a matrix taken apart -/
noncomputable def takeL (p : Int) (m n : Nat) (xs : List Int) : ElE := (takeE p n (rowOf n xs) m).getD .nil
theorem rowOf_rng (hp : 2 ≤ p) (hx : Rng p xs) (i : Nat) : (rowOf n xs i).length = n ∧ Rng p (rowOf n xs i) := ⟨tab_len _ _, tab_rng fun _ _ => hx.getD hp _⟩
theorem takeL_some (hp : 2 ≤ p) (hf : Fld p) (hx : Rng p xs) : takeE p n (rowOf n xs) m = some (takeL p m n xs) := by
  obtain ⟨st, h⟩ := takeE_some hp hf m fun i _ => rowOf_rng (n := n) hp hx i
  unfold takeL
  rw [h]; rfl
theorem takeL_ok (hp : 2 ≤ p) (hf : Fld p) (hx : Rng p xs) : ElOk p n (rowOf n xs) m (takeL p m n xs) := takeE_ok hp m (fun i _ => rowOf_rng hp hx i) (takeL_some hp hf hx)
theorem lf_row {i j : Nat} (hj : j < n) : lf (rowOf n xs i) j = atF n xs i j := tab_get _ hj
/-- the rank of the turned one -/
theorem rank_turn (hp : 2 ≤ p) (hf : Fld p) (hx : Rng p xs) : (takeL p n m (turnL m n xs)).U.length = (takeL p m n xs).U.length := by
  have hi := hf.has hp
  have B := (takeL_ok (m := m) (n := n) hp hf hx).bas hi
  have B' := (takeL_ok (m := n) (n := m) hp hf (turnL_rng hp hx m n)).bas hi
  have e1 : ∀ i j, i < m → j < n → lf (rowOf m (turnL m n xs) j) i = lf (rowOf n xs i) j := fun i j hi hj => by
    rw [lf_row hi, lf_row hj]
    show (turnL m n xs).getD (j * m + i) 0 = xs.getD (i * n + j) 0
    rw [turnL, grid_get _ hj hi]
  refine Nat.le_antisymm (Bas.turn_le hi B (u' := fun k => lf ((takeL p n m (turnL m n xs)).U.getD k [])) ⟨B'.ind, fun j hj => (B'.gen j hj).congr fun i hi => by rw [e1 i j hi hj], fun k hk => ?_⟩) (Bas.turn_le hi B' (u' := fun k => lf ((takeL p m n xs).U.getD k [])) ⟨B.ind, fun i hi => (B.gen i hi).congr fun j hj => by rw [e1 i j hi hj], fun k hk => ?_⟩)
  · exact (B'.own k hk).trans fun j hj => (Comb.one (fun j i => lf (rowOf n xs i) j) hj).congr fun i hi => by rw [e1 i j hi hj]
  · exact (B.own k hk).trans fun i hi => (Comb.one (fun i j => lf (rowOf m (turnL m n xs) j) i) hi).congr fun j hj => by rw [e1 i j hi hj]
theorem rowsF_det (n : Nat) (xs : List Int) : detN n (rowsF n (rowOf n xs)) = detF n (atF n xs) :=
  detF_congr n (A := fun i => lf (rowOf n xs i)) fun _ _ _ hj => lf_row hj
/-- the turned one's determinant -/
theorem det_turned (hp : 2 ≤ p) (hf : Fld p) (hx : Rng p xs) : detF n (atF n (turnL n n xs)) % p = detF n (atF n xs) % p := by
  have ok := takeL_ok (m := n) (n := n) hp hf hx
  have h1 := ok.det (hf.has hp)
  have h2 := ok.det_turn (hf.has hp)
  rw [rowsF_det] at h1
  rw [h1, ← h2]
  refine congrArg (· % p) (detF_congr n fun j i hj hi => ?_)
  rw [rowsF_get hi, lf_row hj]
  show (turnL n n xs).getD (j * n + i) 0 = xs.getD (i * n + j) 0
  rw [turnL, grid_get _ hj hi]
theorem mz_prod (hp : HasInv p) {a b : Int} (ha : a % p ≠ 0) (hb : b % p ≠ 0) : a * b % p ≠ 0 := fun h => ha (mz_cancel hp hb h)
theorem prN_ne (hp : HasInv p) {d : Nat → Int} : ∀ n, (∀ k, k < n → d k % p ≠ 0) → prN n d % p ≠ 0
  | 0, _ => by show (1 : Int) % p ≠ 0; rw [hp.one]; omega
  | n + 1, h => mz_prod hp (prN_ne hp n fun k hk => h k (by omega)) (h n (by omega))
/-- the determinant isn't 0 just if all rows count -/
theorem det_rank (hp : 2 ≤ p) (hf : Fld p) (hx : Rng p xs) : detF n (atF n xs) % p = 0 ↔ (takeL p n n xs).U.length ≠ n := by
  have ok := takeL_ok (m := n) (n := n) hp hf hx
  have hi := hf.has hp
  have h1 := ok.det hi
  rw [rowsF_det] at h1
  rw [h1]
  unfold detE
  have hle := ok.le
  by_cases h : (takeL p n n xs).U.length < n
  · rw [if_pos h]
    exact ⟨fun _ => by omega, fun _ => by simp⟩
  · rw [if_neg h]
    refine ⟨fun h0 => absurd h0 (mz_prod hi (prN_ne hi n fun k hk => ?_) ?_), fun h0 => absurd (show _ = n by omega) h0⟩
    · exact ok.ech.piv k (by omega)
    · rcases sgn_or (colsZ (takeL p n n xs)) with e | e
      · rw [e, hi.one]; omega
      · rw [e]
        intro h2
        have h3 := mz_neg h2
        rw [show -(-1 : Int) = 1 by rfl, hi.one] at h3
        omega
/-- the first rows' profile -/
theorem profile_prefix (hp : 2 ≤ p) (hf : Fld p) (hx : Rng p xs) {k : Nat} (hk : k ≤ m) : ∃ t, (takeL p m n xs).rows = (takeL p k n (xs.take (k * n))).rows ++ t ∧ ∀ x ∈ t, k ≤ x := by
  have h1 := takeL_some (m := k) (n := n) hp hf (hx.take (k * n))
  have h2 := takeL_some (m := m) (n := n) hp hf hx
  have e : takeE p n (rowOf n (xs.take (k * n))) k = takeE p n (rowOf n xs) k := takeE_congr k fun i hi => tab_congr fun j hj => by
    have := at_lt hi hj
    simp only [List.getD, List.getElem?_take, if_pos this]
  rw [e] at h1
  rw [show m = k + (m - k) by omega] at h2 ⊢
  exact takeE_prefix h1 (m - k) h2
end Go.Proofs.Ytmcadgcfdlonoaa
/- A right matrix taken apart makes itself again; the minor of the rows and columns that count (in plain Lean; nothing of a program). -/
namespace Go.Proofs.Ytmcadgcfdlonoaa
variable {p : Int} {m n : Nat} {xs : List Int}

/-- a row of so many numbers, 0 behind -/
def padL (r : Nat) (l : List Int) : List Int := l ++ List.replicate (r - l.length) 0
theorem padL_len {r : Nat} {l : List Int} (h : l.length ≤ r) : (padL r l).length = r := by simp [padL]; omega
theorem padL_get (r : Nat) (l : List Int) (k : Nat) : (padL r l).getD k 0 = l.getD k 0 := pad_get _ _ _
/-- what parts make -/
def makeL (p : Int) (C U : List (List Int)) (m n : Nat) : List Int := grid m n fun i j => (sm U.length fun t => (C.getD i []).getD t 0 * (U.getD t []).getD j 0) % p
theorem makeL_len (C U : List (List Int)) : (makeL p C U m n).length = m * n := grid_len _ _ _
theorem map_getD {C : List (List Int)} {f : List Int → List Int} {i : Nat} (h : i < C.length) : (C.map f).getD i [] = f (C.getD i []) := by
  simp [List.getD, List.getElem?_map, List.getElem?_eq_getElem h]
theorem make_take (hp : 2 ≤ p) (hf : Fld p) (hx : Rng p xs) (hl : xs.length = m * n) (hn : 1 ≤ n) (r : Nat) : makeL p ((takeL p m n xs).C.map (padL r)) (takeL p m n xs).U m n = xs := by
  have h := takeL_ok (m := m) (n := n) hp hf hx
  symm
  refine tab_of hl fun t ht => ?_
  have hi : t / n < m := (Nat.div_lt_iff_lt_mul (by omega)).2 ht
  have hj : t % n < n := Nat.mod_lt _ (by omega)
  have e : t / n * n + t % n = t := by rw [Nat.mul_comm]; exact Nat.div_add_mod t n
  have h1 := h.full hi hj
  have h2 : (rowOf n xs (t / n)).getD (t % n) 0 = xs.getD t 0 := by rw [← e]; simp only [e]; exact (tab_get _ hj).trans (by rw [e])
  rw [h2, mod_small (hx.getD hp t).1 (hx.getD hp t).2] at h1
  rw [h1]
  congr 2
  funext k
  rw [map_getD (by rw [h.lc]; exact hi), padL_get]

/-- the columns that count, rising -/
def risL (n : Nat) (cols : List Nat) : List Nat := (List.range n).filter fun l => decide (l ∈ cols)
theorem risL_mem {cols : List Nat} {l : Nat} : l ∈ risL n cols ↔ l < n ∧ l ∈ cols := by simp [risL]
theorem risL_len {cols : List Nat} (hn : cols.Nodup) (hb : ∀ c ∈ cols, c < n) : (risL n cols).length = cols.length := by
  have h1 := offE_len hn hb
  have h2 : (risL n cols).length + (offE n cols).length = n := by
    unfold risL offE
    rw [← List.countP_eq_length_filter, ← List.countP_eq_length_filter]
    have := List.length_eq_countP_add_countP (fun l => decide (l ∈ cols)) (l := List.range n)
    rw [List.length_range] at this
    simp only [decide_not] at this ⊢
    simpa using this.symm
  omega
/-- the minor of the rows and columns that count -/
noncomputable def minorL (p : Int) (m n : Nat) (xs : List Int) : List Int :=
  grid (takeL p m n xs).U.length (takeL p m n xs).U.length fun i l => xs.getD ((takeL p m n xs).rows.getD i 0 * n + (risL n (takeL p m n xs).cols).getD l 0) 0
theorem minorL_len : (minorL p m n xs).length = (takeL p m n xs).U.length * (takeL p m n xs).U.length := grid_len _ _ _
theorem minorL_rng (hp : 2 ≤ p) (hx : Rng p xs) : Rng p (minorL p m n xs) := tab_rng fun _ _ => hx.getD hp _
theorem minor_det (hp : 2 ≤ p) (hf : Fld p) (hx : Rng p xs) : detF (takeL p m n xs).U.length (atF (takeL p m n xs).U.length (minorL p m n xs)) % p ≠ 0 := by
  have h := takeL_ok (m := m) (n := n) hp hf hx
  obtain ⟨r, hr⟩ : ∃ r, (takeL p m n xs).U.length = r := ⟨_, rfl⟩
  have hy := minorL_rng (m := m) (n := n) hp hx
  have ho := takeL_ok (m := r) (n := r) hp hf hy
  have hi := hf.has hp
  have hcols : (risL n (takeL p m n xs).cols).length = r := by
    rw [risL_len h.cols_nodup fun c hc => h.cols_lt hc, h.lk, hr]
  rw [hr]
  intro h0
  apply (det_rank hp hf hy).1 h0
  apply Nat.le_antisymm ho.le
  have hm := h.minor hi (fun l => (risL n (takeL p m n xs).cols).getD l 0) (q := r) fun k hk => by
    have hk2 : k < (takeL p m n xs).cols.length := by rw [h.lk]; exact hk
    have hmem : (takeL p m n xs).cols.getD k 0 ∈ risL n (takeL p m n xs).cols := risL_mem.2 ⟨(h.row k hk).2.2.1, by simp [List.getD, List.getElem?_eq_getElem hk2]⟩
    obtain ⟨l, hl, e⟩ := List.getElem_of_mem hmem
    exact ⟨l, by rw [← hcols]; exact hl, by simp only [List.getD, List.getElem?_eq_getElem hl, Option.getD_some]; exact e⟩
  rw [hr] at hm
  refine hm.le hi fun k hk => ((ho.bas hi).gen k hk).congr fun j hj => ?_
  congr 1
  have e1 : lf (rowOf r (minorL p m n xs) k) j = (minorL p m n xs).getD (k * r + j) 0 := tab_get _ hj
  have e2 : (minorL p m n xs).getD (k * r + j) 0 = xs.getD ((takeL p m n xs).rows.getD k 0 * n + (risL n (takeL p m n xs).cols).getD j 0) 0 := by
    unfold minorL
    rw [hr]
    exact grid_get _ hk hj
  have hc : (risL n (takeL p m n xs).cols).getD j 0 < n := by
    have hj2 : j < (risL n (takeL p m n xs).cols).length := by rw [hcols]; exact hj
    have : (risL n (takeL p m n xs).cols).getD j 0 ∈ risL n (takeL p m n xs).cols := by simp [List.getD, List.getElem?_eq_getElem hj2]
    exact (risL_mem.1 this).1
  rw [e1, e2]
  exact tab_get _ hc
end Go.Proofs.Ytmcadgcfdlonoaa
/- Rows of rows of numbers; a matrix's parts in memory. -/
namespace Go.Proofs.Ytmcadgcfdlonoaa
open Go.RowKit Go.Maps

/-- in the world w the slice v reads as rows of numbers -/
def UsL (w : World) (v : Value) (ls : List (List Int)) : Prop :=
  ∃ (a : Option Addr) (cap : Nat), v = .slice a ls.length cap ∧ ls.length ≤ cap ∧ cap ≤ 9223372036854775807 ∧
    (0 < ls.length → ∃ b off, a = some ⟨b, off, none⟩ ∧ b < w.heap.size ∧ ∀ j, j < ls.length → ∃ u, w.cell? ⟨b, off + j, none⟩ = some u ∧ Ints .u64 w u (ls.getD j []))
theorem UsL.ext {w w' : World} {v : Value} {ls : List (List Int)} (h : UsL w v ls) (he : Ext w w') : UsL w' v ls := by
  obtain ⟨a, cap, h1, h2, h3, h4⟩ := h
  refine ⟨a, cap, h1, h2, h3, fun hp => ?_⟩
  obtain ⟨b, off, ha, hb, hc⟩ := h4 hp
  refine ⟨b, off, ha, Nat.lt_of_lt_of_le hb he.size, fun j hj => ?_⟩
  obtain ⟨u, c1, c2⟩ := hc j hj
  exact ⟨u, (he.cells _ _ hb).trans c1, c2.ext he⟩
theorem UsL.nil {w : World} : UsL w (.slice none 0 0) [] := ⟨none, 0, rfl, by simp, by omega, by simp⟩
/-- a matrix's parts, and no error -/
def RetCup (rows cols : List Int) (C U : List (List Int)) (w : World) (e : Ending) (w' : World) : Prop :=
  ∃ rv cv Cv Uv, e = .returned (.tuple #[.agg #[rv, cv, Cv, Uv], .int .i64 0]) ∧ Ints .i64 w' rv rows ∧ Ints .i64 w' cv cols ∧ UsL w' Cv C ∧ UsL w' Uv U ∧ Ext w w'
/-- parts that may make a matrix of m rows and n columns -/
structure CupOk (p : Int) (m n : Nat) (C U : List (List Int)) : Prop where
  hp : rightB p = true
  hm : 1 ≤ m ∧ m ≤ 64
  hn : 1 ≤ n ∧ n ≤ 64
  lc : C.length = m
  c : ∀ l ∈ C, l.length = U.length ∧ Rng p l
  u : ∀ l ∈ U, l.length = n ∧ Rng p l
  hu : U.length ≤ 64
/-- a matrix's profile, as whole numbers -/
noncomputable def profZ (p : Int) (m n : Nat) (xs : List Int) : List Int := (takeL p m n xs).rows.map fun k : Nat => (k : Int)
theorem profZ_len {p : Int} {m n : Nat} {xs : List Int} (ok : MatOk p m n xs) (hf : Fld p) : (profZ p m n xs).length = (takeL p m n xs).U.length := by
  have := (takeL_ok (m := m) (n := n) (rightB_true ok.hp).1 hf ok.hx).lr
  simp [profZ, this]
theorem colsZ_len {p : Int} {m n : Nat} {xs : List Int} (ok : MatOk p m n xs) (hf : Fld p) : (colsZ (takeL p m n xs)).length = (takeL p m n xs).U.length := by
  have := (takeL_ok (m := m) (n := n) (rightB_true ok.hp).1 hf ok.hx).lk
  simp [colsZ, this]
theorem Rng.pad {p : Int} {l : List Int} (h : Rng p l) (hp : 2 ≤ p) (r : Nat) : Rng p (padL r l) := rng_app h fun x hx => by
  rw [List.eq_of_mem_replicate hx]; omega
theorem take_parts {p : Int} {m n : Nat} {xs : List Int} (ok : MatOk p m n xs) (hf : Fld p) : CupOk p m n ((takeL p m n xs).C.map (padL (takeL p m n xs).U.length)) (takeL p m n xs).U := by
  have hp := (rightB_true ok.hp).1
  have h := takeL_ok (m := m) (n := n) hp hf ok.hx
  refine ⟨ok.hp, ok.hm, ok.hn, by rw [List.length_map, h.lc], fun l hl => ?_, fun l hl => ?_, Nat.le_trans h.le ok.hm.2⟩
  · obtain ⟨k, hk, rfl⟩ := List.mem_map.1 hl
    obtain ⟨i, hi, rfl⟩ := List.getElem_of_mem hk
    have := h.cl i (by rw [← h.lc]; exact hi)
    rw [List.getD, List.getElem?_eq_getElem hi] at this
    exact ⟨padL_len this.1, this.2.pad hp _⟩
  · obtain ⟨i, hi, rfl⟩ := List.getElem_of_mem hl
    have := h.row i hi
    rw [List.getD, List.getElem?_eq_getElem hi] at this
    exact ⟨this.1, this.2.1⟩
end Go.Proofs.Ytmcadgcfdlonoaa
/- Package matrix: Left, Mul, One. -/
namespace Go.Proofs.Ytmcadgcfdlonoaa
open Go.RowKit Go.Maps

theorem MatOk.turn {p : Int} {m n : Nat} {xs : List Int} (h : MatOk p m n xs) : MatOk p n m (turnL m n xs) :=
  ⟨h.hp, turnL_rng (rightB_true h.hp).1 h.hx m n, h.hn, h.hm, turnL_len m n xs⟩
theorem times_turn (p : Int) (m n : Nat) (xs ys : List Int) : timesL p n m (turnL m n xs) ys = leftL p m n xs ys := by
  unfold timesL leftL
  refine tab_congr fun k hk => dv_congr (fun i hi => ?_) fun _ _ => rfl
  rw [turnL, grid_get _ hk hi]
set_option maxHeartbeats 1000000 in
theorem mxLeft_no (p r c : Int) (v u : Value) (xs ys : List Int) (w : World) (h0 : 0 ≤ p) (h1 : p ≤ 18446744073709551615) (hv : Ints .u64 w v xs) (hx : U64s xs) (hu : Ints .u64 w u ys) (hy : U64s ys) (h : (matB p r c xs && vecB p r ys) = false) :
    Calls Try.prog 32 #[.int .u64 p, u, matV r c v] w (Ret (.tuple #[.slice none 0 0, .int .i64 1]) w) := by
  cases g1 : matB p r c xs
  · have C1 := hid fun (W : World) (hW : Ext w W) => mxTurn_no p r c v xs W h0 h1 (hv.ext hW) hx g1
    obtain ⟨a, cap, rfl, k1, k2, k3⟩ := hv
    clear k3 hu hx hy h g1
    unfold matV noMat at C1
    unfold matV
    go_enter Try.func32, Try.ntmps32
    go_wp2_with (go_at_call 14; refine (C1.out _ (by repeat (first | exact Ext.refl _ | assumption | refine Ext.drew ?_ | refine Ext.drewN ?_ _ | refine Ext.alloc ?_ _ | refine Ext.trans ?_ (by assumption)))).mono ?_; rintro _ w1 ⟨rfl, x1⟩)
    go_ret2
    exact ⟨rfl, Ext.alloc (Ext.trans (by repeat (first | exact Ext.refl _ | assumption | refine Ext.drew ?_ | refine Ext.drewN ?_ _ | refine Ext.alloc ?_ _ | refine Ext.trans ?_ (by assumption))) x1) _⟩
  · rw [g1, Bool.true_and] at h
    obtain ⟨m, n, rfl, rfl, ok⟩ := MatOk.of hx g1
    have C1 := hid fun (W : World) (hW : Ext w W) => mxTurn_yes p m n v xs W ok (hv.ext hW)
    have C2 := hid fun (W : World) (hW : Ext w W) (z : Value) (hz : Ints .u64 W z (turnL m n xs)) => mxTimes_no p n m z u _ ys W h0 h1 hz ok.turn.u64 (hu.ext hW) hy (by rw [h, Bool.and_false])
    obtain ⟨a, cap, rfl, k1, k2, k3⟩ := hv
    clear k3 hu hx hy h g1 ok
    unfold matV at C1 C2
    unfold matV
    go_enter Try.func32, Try.ntmps32
    go_wp2_with (first
      | (go_at_call 14; refine (C1.out _ (by repeat (first | exact Ext.refl _ | assumption | refine Ext.drew ?_ | refine Ext.drewN ?_ _ | refine Ext.alloc ?_ _ | refine Ext.trans ?_ (by assumption)))).mono ?_; rintro _ w1 ⟨u1, rfl, hI, x1⟩; have HI := hid hI; obtain ⟨a1, cap1, rfl, l1, l2, l3⟩ := hI; clear l3; try unfold matV)
      | (go_at_call 23; refine (C2.out _ (Ext.alloc (Ext.trans (by repeat (first | exact Ext.refl _ | assumption | refine Ext.drew ?_ | refine Ext.drewN ?_ _ | refine Ext.alloc ?_ _ | refine Ext.trans ?_ (by assumption))) x1) _) _ (HI.out.alloc _)).mono ?_; rintro _ w2 ⟨rfl, x2⟩))
    go_ret2
    exact ⟨rfl, Ext.trans (Ext.alloc (Ext.trans (by repeat (first | exact Ext.refl _ | assumption | refine Ext.drew ?_ | refine Ext.drewN ?_ _ | refine Ext.alloc ?_ _ | refine Ext.trans ?_ (by assumption))) x1) _) x2⟩
set_option maxHeartbeats 1000000 in
theorem mxLeft_yes (p : Int) (m n : Nat) (v u : Value) (xs ys : List Int) (w : World) (ok : MatOk p m n xs) (hv : Ints .u64 w v xs) (hu : Ints .u64 w u ys) (hy : Rng p ys) (hyl : ys.length = m) :
    Calls Try.prog 32 #[.int .u64 p, u, matV m n v] w (RetV (leftL p m n xs ys) w) := by
  have C1 := hid fun (W : World) (hW : Ext w W) => mxTurn_yes p m n v xs W ok (hv.ext hW)
  have C2 := hid fun (W : World) (hW : Ext w W) (z : Value) (hz : Ints .u64 W z (turnL m n xs)) => times_turn p m n xs ys ▸ mxTimes_yes p n m z u _ ys W ok.turn hz (hu.ext hW) hy hyl
  obtain ⟨a, cap, rfl, k1, k2, k3⟩ := hv
  clear k3 hu hy hyl ok
  unfold matV at C1 C2
  unfold matV
  go_enter Try.func32, Try.ntmps32
  go_wp2_with (first
    | (go_at_call 14; refine (C1.out _ (by repeat (first | exact Ext.refl _ | assumption | refine Ext.drew ?_ | refine Ext.drewN ?_ _ | refine Ext.alloc ?_ _ | refine Ext.trans ?_ (by assumption)))).mono ?_; rintro _ w1 ⟨u1, rfl, hI, x1⟩; have HI := hid hI; obtain ⟨a1, cap1, rfl, l1, l2, l3⟩ := hI; clear l3; try unfold matV)
    | (go_at_call 23; refine (C2.out _ (Ext.alloc (Ext.trans (by repeat (first | exact Ext.refl _ | assumption | refine Ext.drew ?_ | refine Ext.drewN ?_ _ | refine Ext.alloc ?_ _ | refine Ext.trans ?_ (by assumption))) x1) _) _ (HI.out.alloc _)).mono ?_; rintro _ w2 ⟨u2, rfl, hI2, x2⟩; have HI2 := hid hI2; obtain ⟨a2, cap2, rfl, i1, i2, i3⟩ := hI2; clear i3))
  go_ret2
  exact ⟨_, rfl, HI2.out, Ext.trans (Ext.alloc (Ext.trans (by repeat (first | exact Ext.refl _ | assumption | refine Ext.drew ?_ | refine Ext.drewN ?_ _ | refine Ext.alloc ?_ _ | refine Ext.trans ?_ (by assumption))) x1) _) x2⟩

theorem boxesM3 (w : World) (t : TypeId) (A B C : Array Value) :
    Blk (((w.alloc (.cells A t)).alloc (.cells B t)).alloc (.cells C t)) w.heap.size t A ∧ Blk (((w.alloc (.cells A t)).alloc (.cells B t)).alloc (.cells C t)) (w.heap.size + 1) t B ∧
    Blk (((w.alloc (.cells A t)).alloc (.cells B t)).alloc (.cells C t)) (w.heap.size + 1 + 1) t C ∧ Ext w (((w.alloc (.cells A t)).alloc (.cells B t)).alloc (.cells C t)) :=
  ⟨(Blk.new w t A).ext (((Ext.refl _).alloc _).alloc _), (Blk.at_ (by rw [alloc_size])).ext ((Ext.refl _).alloc _), Blk.at_ (by rw [alloc_size, alloc_size]), (((Ext.refl w).alloc _).alloc _).alloc _⟩

set_option maxRecDepth 100000 in
set_option maxHeartbeats 1000000 in
theorem mxMul_no (p r c r' c' : Int) (v u : Value) (xs ys : List Int) (w : World) (h0 : 0 ≤ p) (h1 : p ≤ 18446744073709551615) (hv : Ints .u64 w v xs) (hx : U64s xs) (hu : Ints .u64 w u ys) (hy : U64s ys)
    (h : (matB p r c xs && matB p r' c' ys && decide (c = r')) = false) :
    Calls Try.prog 27 #[.int .u64 p, matV r c v, matV r' c' u] w (Ret noMat w) := by
  have hb3 := hid (boxesM3 w 25 #[.int .i64 r, .int .i64 c, v] #[.int .i64 r', .int .i64 c', u] #[.int .i64 0, .int .i64 0, .slice none 0 0])
  have C2 := hid fun (W : World) (hW : Ext w W) => mxRight p r c v xs W h0 h1 (hv.ext hW) hx
  cases g1 : matB p r' c' ys
  · have C1 := hid fun (W : World) (hW : Ext w W) => mxTurn_no p r' c' u ys W h0 h1 (hu.ext hW) hy g1
    obtain ⟨a, cap, rfl, k1, k2, k3⟩ := hv
    obtain ⟨a', cap', rfl, m1, m2, m3⟩ := hu
    clear k3 m3 hx hy h g1 C2
    unfold matV noMat at C1
    unfold matV noMat
    go_enter Try.func27, Try.ntmps27
    go_wp2_with (go_at_call 14; refine (C1.out _ (by repeat (first | exact Ext.refl _ | assumption | refine Ext.drew ?_ | refine Ext.drewN ?_ _ | refine Ext.alloc ?_ _ | refine Ext.trans ?_ (by assumption)))).mono ?_; rintro _ w1 ⟨rfl, x1⟩
                 have HR := hid (hb3.out.2.2.1.ext (x1.alloc (.cells #[.int .i64 0, .int .i64 0, .slice none 0 0] 25)))
                 have HE := hid (hb3.out.2.2.2.trans (x1.alloc (.cells #[.int .i64 0, .int .i64 0, .slice none 0 0] 25)))
                 obtain ⟨b0, b1, b2⟩ := HR.out.at3; have f0 := HR.out.frozen 0; have f1 := HR.out.frozen 1; have f2 := HR.out.frozen 2)
    have F := fin0 HR.out HE.out (by omega) (.int .i64 0) (.int .i64 0) (.slice none 0 0)
    refine bodyPost_ret (results_cell_row_tmp rfl _ _ (w.heap.size + 1 + 1) 25 _ (0, 0) _ rfl F.1 Try.underlying25 rfl (by kernel_rfl)) rfl ?_
    exact ⟨rfl, F.2⟩
  · obtain ⟨n, q, rfl, rfl, oky⟩ := MatOk.of hy g1
    have C1 := hid fun (W : World) (hW : Ext w W) => mxTurn_yes p n q u ys W oky (hu.ext hW)
    rw [g1, Bool.and_true] at h
    obtain ⟨a, cap, rfl, k1, k2, k3⟩ := hv
    obtain ⟨a', cap', rfl, m1, m2, m3⟩ := hu
    clear k3 m3 hy g1 oky
    cases g2 : matB p r c xs
    · rw [g2] at C2
      clear h g2 hx
      unfold matV at C1 C2
      unfold matV noMat
      go_enter Try.func27, Try.ntmps27
      go_wp2_with (first
        | (go_at_call 14; refine (C1.out _ (by repeat (first | exact Ext.refl _ | assumption | refine Ext.drew ?_ | refine Ext.drewN ?_ _ | refine Ext.alloc ?_ _ | refine Ext.trans ?_ (by assumption)))).mono ?_; rintro _ w1 ⟨u1, rfl, hI, x1⟩; obtain ⟨a1, cap1, rfl, l1, l2, l3⟩ := hI; clear l3; try unfold matV
           have z1 := x1.alloc (.cells #[.int .i64 (q : Int), .int .i64 (n : Int), .slice a1 (turnL n q ys).length cap1] 25)
           have HA := hid (hb3.out.1.ext z1); have HR := hid (hb3.out.2.2.1.ext z1); have HE := hid (hb3.out.2.2.2.trans z1)
           obtain ⟨b0, b1, b2⟩ := HA.out.at3)
        | (go_at_call 29; refine (C2.out _ HE.out).mono ?_; rintro _ w2 ⟨rfl, x2⟩
           have HR2 := hid (HR.out.ext x2)
           obtain ⟨b0, b1, b2⟩ := HR2.out.at3; have f0 := HR2.out.frozen 0; have f1 := HR2.out.frozen 1; have f2 := HR2.out.frozen 2))
      have F := fin0 HR2.out (HE.out.trans x2) (by omega) (.int .i64 0) (.int .i64 0) (.slice none 0 0)
      refine bodyPost_ret (results_cell_row_tmp rfl _ _ (w.heap.size + 1 + 1) 25 _ (0, 0) _ rfl F.1 Try.underlying25 rfl (by kernel_rfl)) rfl ?_
      exact ⟨rfl, F.2⟩
    · rw [g2] at C2
      rw [g2, Bool.true_and] at h
      have hne : (c != (n : Int)) = true := by simpa using of_decide_eq_false h
      clear h g2 hx
      unfold matV at C1 C2
      unfold matV noMat
      go_enter Try.func27, Try.ntmps27
      go_wp2_with (first
        | (go_at_call 14; refine (C1.out _ (by repeat (first | exact Ext.refl _ | assumption | refine Ext.drew ?_ | refine Ext.drewN ?_ _ | refine Ext.alloc ?_ _ | refine Ext.trans ?_ (by assumption)))).mono ?_; rintro _ w1 ⟨u1, rfl, hI, x1⟩; obtain ⟨a1, cap1, rfl, l1, l2, l3⟩ := hI; clear l3; try unfold matV
           have z1 := x1.alloc (.cells #[.int .i64 (q : Int), .int .i64 (n : Int), .slice a1 (turnL n q ys).length cap1] 25)
           have HA := hid (hb3.out.1.ext z1); have HB := hid (hb3.out.2.1.ext z1); have HR := hid (hb3.out.2.2.1.ext z1); have HE := hid (hb3.out.2.2.2.trans z1)
           obtain ⟨b0, b1, b2⟩ := HA.out.at3)
        | (go_at_call 29; refine (C2.out _ HE.out).mono ?_; rintro _ w2 ⟨rfl, x2⟩
           have HR2 := hid (HR.out.ext x2)
           obtain ⟨a0, a1, a2⟩ := (HA.out.ext x2).at3
           obtain ⟨c0, c1, c2⟩ := (HB.out.ext x2).at3
           obtain ⟨b0, b1, b2⟩ := HR2.out.at3; have f0 := HR2.out.frozen 0; have f1 := HR2.out.frozen 1; have f2 := HR2.out.frozen 2))
      have F := fin0 HR2.out (HE.out.trans x2) (by omega) (.int .i64 0) (.int .i64 0) (.slice none 0 0)
      refine bodyPost_ret (results_cell_row_tmp rfl _ _ (w.heap.size + 1 + 1) 25 _ (0, 0) _ rfl F.1 Try.underlying25 rfl (by kernel_rfl)) rfl ?_
      exact ⟨rfl, F.2⟩
end Go.Proofs.Ytmcadgcfdlonoaa
/- Package matrix: Mul of what is right, One. -/
namespace Go.Proofs.Ytmcadgcfdlonoaa
open Go.RowKit Go.Maps

/-- answers a matrix whose cells are the call's own, and may be written -/
def RetMW (r c : Int) (l : List Int) (w : World) (e : Ending) (w' : World) : Prop := ∃ g, e = .returned (.tuple #[matV r c (.slice (some ⟨g, 0, none⟩) l.length l.length), .int .i64 0]) ∧ w.heap.size ≤ g ∧ WRow w' g 0 l ∧ Ext w w'
theorem RetMW.plain {r c : Int} {l : List Int} {w w' : World} {e : Ending} (hl : l.length ≤ 9223372036854775807) (h : RetMW r c l w e w') : RetN r c l w e w' := by
  obtain ⟨g, rfl, _, h2, h3⟩ := h
  exact ⟨_, rfl, h2.ints' rfl (Nat.le_refl _) hl, h3⟩
set_option maxRecDepth 100000 in
set_option maxHeartbeats 2000000 in
theorem mxMulW (p : Int) (m n q : Nat) (v u : Value) (xs ys : List Int) (w : World) (ok : MatOk p m n xs) (oky : MatOk p n q ys) (hv : Ints .u64 w v xs) (hu : Ints .u64 w u ys) :
    Calls Try.prog 27 #[.int .u64 p, matV m n v, matV n q u] w (RetMW m q (mulL p m n q xs ys) w) := by
  have hp2 := rightB_true ok.hp
  have hb3 := hid (boxesM3 w 25 #[.int .i64 (m : Int), .int .i64 (n : Int), v] #[.int .i64 (n : Int), .int .i64 (q : Int), u] #[.int .i64 0, .int .i64 0, .slice none 0 0])
  have C1 := hid fun (W : World) (hW : Ext w W) => mxTurn_yes p n q u ys W oky (hu.ext hW)
  have C2 := hid fun (W : World) (hW : Ext w W) => mxRight p m n v xs W (by omega) (by omega) (hv.ext hW) ok.u64
  rw [ok.b] at C2
  have Ok := hid ok; have Oky := hid oky; have Hv := hid hv
  have Okt := hid oky.turn
  have hm := ok.hm; have hn := ok.hn; have hq := oky.hn
  obtain ⟨a, cap, rfl, k1, k2, k3⟩ := hv
  obtain ⟨b, off, rfl, hb, k4⟩ := k3 ok.pos
  obtain ⟨a', cap', rfl, m1, m2, m3⟩ := hu
  have hcap := hid fun (i : Nat) (h : i < m) => Nat.le_trans (ok.at_ h) k1
  clear k3 k4 m3 ok oky
  obtain ⟨Q, hQ⟩ : ∃ Q, m * q = Q := ⟨_, rfl⟩
  have hQb : Q ≤ 4096 := by rw [← hQ]; exact Nat.mul_le_mul hm.2 hq.2
  have HN := hid fun W : World => mxNoughts m q W hm.2 hq.2
  rw [hQ] at HN
  have HQ := hid hQ
  clear hQ
  obtain ⟨F, hF⟩ : ∃ F : Nat → Nat → Int, (fun i k => dv p n (fun j => xs.getD (i * n + j) 0) fun j => ys.getD (j * q + k) 0) = F := ⟨_, rfl⟩
  have HF := hid (fun i k => (congrFun (congrFun hF i) k : dv p n (fun j => xs.getD (i * n + j) 0) (fun j => ys.getD (j * q + k) 0) = F i k))
  unfold mulL
  rw [hF]
  clear hF
  unfold matV at C1 C2
  unfold matV
  go_enter Try.func27, Try.ntmps27
  go_wp2_with (first
    | (go_at_call 14; refine (C1.out _ (by repeat (first | exact Ext.refl _ | assumption | refine Ext.drew ?_ | refine Ext.drewN ?_ _ | refine Ext.alloc ?_ _ | refine Ext.trans ?_ (by assumption)))).mono ?_; rintro _ w1 ⟨u1, rfl, hI, x1⟩; have HI := hid hI; obtain ⟨a1, cap1, rfl, l1, l2, l3⟩ := hI; obtain ⟨b1, off1, rfl, hb1, l4⟩ := l3 Okt.out.pos; clear l3 l4; try unfold matV
       have y1 := (Ext.refl w1).alloc (.cells #[.int .i64 (q : Int), .int .i64 (n : Int), .slice (some ⟨b1, off1, none⟩) (turnL n q ys).length cap1] 25)
       have z1 := x1.trans y1
       have HA := hid (hb3.out.1.ext z1); have HB := hid (hb3.out.2.1.ext z1); have HR := hid (hb3.out.2.2.1.ext z1); have HE := hid (hb3.out.2.2.2.trans z1)
       have HT := hid (Blk.new w1 25 #[.int .i64 (q : Int), .int .i64 (n : Int), .slice (some ⟨b1, off1, none⟩) (turnL n q ys).length cap1])
       obtain ⟨b0, b1', b2⟩ := HA.out.at3)
    | (go_at_call 29; refine (C2.out _ HE.out).mono ?_; rintro _ w2 ⟨rfl, x2⟩
       obtain ⟨a0, a1, a2⟩ := (HA.out.ext x2).at3
       obtain ⟨c0, c1, c2⟩ := (HB.out.ext x2).at3)
    | fail)
  refine (HN.out _).mono ?_
  rintro _ w3 ⟨g, rfl, hg, hrow, x3⟩
  have HU := hid (Und.start (Q := Q) (r := (m : Int)) (c := (q : Int)) hg hrow List.length_replicate x3)
  unfold matV
  have y3 := x3.alloc (.cells #[.int .i64 (m : Int), .int .i64 (q : Int), .slice (some ⟨g, 0, none⟩) Q Q] 25)
  have b3 := (HA.out.ext (x2.trans y3)).at3
  clear b0 b1' b2 a0 a1 a2 c0 c1 c2
  obtain ⟨b0, b1', b2⟩ := b3
  go_wp2_with fail
  -- the worlds behind: w2 holds A, T, R; the product stands in g, its box in h
  obtain ⟨h, hh⟩ : ∃ h, w3.heap.size = h := ⟨_, rfl⟩
  obtain ⟨w4, hw4⟩ : ∃ w4, w3.alloc (.cells #[.int .i64 (m : Int), .int .i64 (q : Int), .slice (some ⟨g, 0, none⟩) Q Q] 25) = w4 := ⟨_, rfl⟩
  rw [hw4, hh] at HU
  rw [hw4, hh]
  replace HA := hid (HA.out.ext x2); replace HR := hid (HR.out.ext x2); replace HT := hid (HT.out.ext x2); replace HE := hid (HE.out.trans x2)
  have HI2 := hid (HI.out.ext (y1.trans x2))
  have hb1' : b1 < w2.heap.size := Nat.lt_of_lt_of_le hb1 (y1.trans x2).size
  have hR1 := HR.out.lt
  have hA1 := HA.out.lt
  have hT1 := HT.out.lt
  obtain ⟨hT, hhT⟩ : ∃ hT, w1.heap.size = hT := ⟨_, rfl⟩
  rw [hhT] at HT hT1
  rw [hhT]
  clear hh hw4 b0 b1' b2 hrow x3 y3 hg y1 z1 x1 hb1 hhT HB HI
  obtain ⟨gR, hgR⟩ : ∃ gR, w.heap.size + 1 + 1 = gR := ⟨_, rfl⟩
  have hgw : w.heap.size ≤ gR := by omega
  rw [hgR] at HR hR1
  rw [hgR]
  obtain ⟨gB, hgB⟩ : ∃ gB, w.heap.size + 1 = gB := ⟨_, rfl⟩
  rw [hgB]
  obtain ⟨gA, hgA⟩ : ∃ gA, w.heap.size = gA := ⟨_, rfl⟩
  rw [hgA] at HA hA1
  rw [hgA]
  clear hgR hgB hgA hb3
  have HLT := hid l1
  have hcapT := hid fun (j : Nat) (h : j < q) => Nat.le_trans (Okt.out.at_ h) l1
  go_loopw [43] (fun iv wr => ∃ (i : Nat) (l : List Int), iv = .int .i64 i ∧ i ≤ m ∧ Hid (Und w2 wr h g Q m q l) ∧ Hid (∀ a b, b < q → a < i → l.getD (a * q + b) 0 = F a b)) (fun iv _ => m - (intOf iv).toNat)
  case atStart => exact ⟨0, _, rfl, Nat.zero_le _, HU, hid (by omega)⟩
  case round =>
    clear HU
    obtain ⟨i, l, rfl, hi, HU, hl⟩ := hrel
    obtain ⟨b0, b1', b2⟩ := (HA.out.ext HU.out.ext).at3
    obtain ⟨o0, o1, o2⟩ := HU.out.box.at3
    by_cases hlt : i < m
    · have hck := hcap.out i hlt
      go_wp2_with fail
      refine (mxRow (m : Int) (q : Int) q i g 0 Q Q wr rfl hq (by omega) (by rw [← HQ.out, ← Nat.succ_mul]; exact Nat.mul_le_mul_right _ hlt) (by omega)).mono ?_
      rintro _ w5 ⟨rfl, x5⟩
      rw [Nat.zero_add]
      have hoQ : i * q + q ≤ Q := by rw [← HQ.out, ← Nat.succ_mul]; exact Nat.mul_le_mul_right _ hlt
      obtain ⟨o, ho⟩ : ∃ o, i * q = o := ⟨_, rfl⟩
      obtain ⟨cp, hcp⟩ : ∃ cp, Q - o = cp := ⟨_, rfl⟩
      rw [ho] at hoQ
      rw [ho, hcp]
      have hcpn : q ≤ cp := by omega
      have hcpb : cp ≤ 9223372036854775807 := by omega
      have Ho := hid ho
      clear ho hcp b0 b1' b2 o0 o1 o2
      go_wp2_with fail
      go_loopw [51] (fun jv wr => ∃ (j : Nat) (l : List Int), jv = .int .i64 j ∧ j ≤ q ∧ Hid (Und w2 wr h g Q m q l) ∧ Hid (∀ a b, b < q → (a < i ∨ a = i ∧ b < j) → l.getD (a * q + b) 0 = F a b)) (fun jv _ => q - (intOf jv).toNat)
      case atStart => exact ⟨0, l, rfl, Nat.zero_le _, hid (HU.out.ext' x5), hid fun a b hb ha => hl.out a b hb (by omega)⟩
      case round =>
        clear HU hl
        obtain ⟨j, l, rfl, hj, HU, hl⟩ := hrel
        rename World => wi
        by_cases hlj : j < q
        · obtain ⟨z, hz⟩ : ∃ z, F i j = z := ⟨_, rfl⟩
          have hdot : dotZ (piece xs i n) (piece (turnL n q ys) j n) % p = z := by
            rw [dot_piece (Ok.out.at_ hlt) (piece_len (Okt.out.at_ hlj)), ← hz, ← HF.out i j]
            exact dv_congr (fun _ _ => rfl) fun k hk => by rw [piece_get _ _ _ _ hk, turnL, grid_get _ hlj hk]
          have Hdot := hid hdot
          have Hz := hid hz
          clear hz hdot
          have hcT := hcapT.out j hlj
          obtain ⟨t, ht⟩ : ∃ t, o + j = t := ⟨_, rfl⟩
          have htQ : t < Q := by omega
          have Ht := hid (show i * q + j = t by rw [Ho.out]; exact ht)
          have fs := hid (fun (W : World) (hW : Ext wi W) => And.intro ((HA.out.ext (HU.out.ext.trans hW)).at3) ((HT.out.ext (HU.out.ext.trans hW)).at3))
          have fs2 := hid (fun (W : World) (hW : Ext wi W) (x : Value) => And.intro (((HA.out.ext (HU.out.ext.trans hW)).grown (setCell_grown W ⟨g, t, none⟩ x) (fun e => absurd (show g = gA by injection e) (by have := HU.out.hg; omega))).at3) (((HT.out.ext (HU.out.ext.trans hW)).grown (setCell_grown W ⟨g, t, none⟩ x) (fun e => absurd (show g = hT by injection e) (by have := HU.out.hg; omega))).at3))
          have hjQ : (j : Int) < (q : Int) := by omega
          have hj0 : (0 : Int) ≤ (j : Int) := by omega
          go_wp2_with fail
          go_region_held3 (fun w' => (w'.cell? ⟨gA, 0, none⟩ = some (.int .i64 (m : Int)) ∧ w'.cell? ⟨gA, 1, none⟩ = some (.int .i64 (n : Int)) ∧ w'.cell? ⟨gA, 2, none⟩ = some (.slice (some ⟨b, off, none⟩) xs.length cap)) ∧ w'.cell? ⟨hT, 0, none⟩ = some (.int .i64 (q : Int)) ∧ w'.cell? ⟨hT, 1, none⟩ = some (.int .i64 (n : Int)) ∧ w'.cell? ⟨hT, 2, none⟩ = some (.slice (some ⟨b1, off1, none⟩) (turnL n q ys).length cap1)) (first | assumption | exact fs.out _ ((Ext.refl wi).drew) | exact fs.out _ (by assumption) | exact fs2.out _ (by assumption) _)
            ((first
              | (go_at_call_of 31 b; refine (mxRow (m : Int) (n : Int) n i b off xs.length cap _ rfl hn (by omega) hck k2).mono ?_; rintro _ w6 ⟨rfl, x6⟩; have y6 : Ext wi w6 := Ext.trans (by first | exact (Ext.refl wi).drew | assumption) x6)
              | (go_at_call_of 31 b1; refine (mxRow (q : Int) (n : Int) n j b1 off1 (turnL n q ys).length cap1 _ rfl hn (by omega) hcT l2).mono ?_; rintro _ w7 ⟨rfl, x7⟩; have y7 : Ext wi w7 := Ext.trans (by first | exact (Ext.refl wi).drew | assumption) x7)
              | (go_at_call 37
                 refine (dot_as p z _ _ (piece xs i n) (piece (turnL n q ys) j n) _ ((Hv.out.ext (HE.out.trans (HU.out.ext.trans y7))).sub (i * n) n (Ok.out.at_ hlt) hn.1) ((HI2.out.ext (HU.out.ext.trans y7)).sub (j * n) n (Okt.out.at_ hlj) hn.1) ((piece_rng Ok.out.hx i n).u64 hp2.2) ((piece_rng Okt.out.hx j n).u64 hp2.2) (by rw [piece_len (Ok.out.at_ hlt), piece_len (Okt.out.at_ hlj)]) ((piece_rng Ok.out.hx i n).has Ok.out.hp) ((piece_rng Okt.out.hx j n).has Ok.out.hp) Hdot.out).mono ?_
                 rintro _ w8 ⟨rfl, x8⟩
                 have y8 : Ext wi w8 := y7.trans x8
                 have HU8 := hid (HU.out.ext' y8)
                 obtain ⟨gt, ft⟩ := HU8.out.at_ htQ)))
          go_wp2_with fail
          go_roundw
          case rel =>
            refine ⟨j + 1, l.set t z, by go_num, by omega, hid (HU8.out.put htQ z), hid fun a b hb ha => ?_⟩
            rw [← Ht.out, put_at z hlj hb (by rw [Ht.out, HU.out.len]; exact htQ)]
            by_cases e : a = i ∧ b = j
            · rw [if_pos e, e.1, e.2]; exact Hz.out.symm
            · rw [if_neg e]; exact hl.out a b hb (by omega)
          case measure => simp [intOf]; omega
        · obtain rfl : q = j := by omega
          go_wp2_with fail
          go_roundw
          case rel => exact ⟨i + 1, l, by go_num, by omega, HU, hid fun a b hb ha => hl.out a b hb (by omega)⟩
          case measure => simp [intOf]; omega
    · obtain rfl : m = i := by omega
      have hRr := HR.out.ext HU.out.ext
      obtain ⟨r0, r1, r2⟩ := hRr.at3
      have f0 := hRr.frozen 0
      have f1 := hRr.frozen 1
      have f2 := hRr.frozen 2
      have FF := hid (HU.out.fin hRr hR1 (HE.out.trans HU.out.ext) hgw (by omega))
      clear hRr
      go_wp2_with fail
      refine bodyPost_ret (results_cell_row_tmp rfl _ _ gR 25 _ (0, 0) _ rfl FF.out.1 Try.underlying25 rfl (by kernel_rfl)) rfl ?_
      have e : l = grid m q _ := grid_of (by rw [HU.out.len, HQ.out]) fun a b ha hb => hl.out a b hb ha
      have hne : g ≠ gR := by have := HU.out.hg; omega
      have hwg : w.heap.size ≤ g := Nat.le_trans HE.out.size HU.out.hg
      rw [← e]
      exact ⟨g, by rw [HU.out.len]; rfl, hwg, ((HU.out.row.set_other hne).set_other hne).set_other hne, FF.out.2.2⟩
theorem mxMul_yes (p : Int) (m n q : Nat) (v u : Value) (xs ys : List Int) (w : World) (ok : MatOk p m n xs) (oky : MatOk p n q ys) (hv : Ints .u64 w v xs) (hu : Ints .u64 w u ys) :
    Calls Try.prog 27 #[.int .u64 p, matV m n v, matV n q u] w (RetN m q (mulL p m n q xs ys) w) :=
  (mxMulW p m n q v u xs ys w ok oky hv hu).mono fun _ _ h => h.plain (by
    have : (mulL p m n q xs ys).length = m * q := tab_len _ _
    have := Nat.mul_le_mul ok.hm.2 oky.hn.2
    omega)
end Go.Proofs.Ytmcadgcfdlonoaa
/- Package cup: what a row is lessened by; the first number that isn't 0; rows of the call's own, apart from one another. -/
namespace Go.Proofs.Ytmcadgcfdlonoaa
open Go.RowKit Go.Maps

theorem Ext.grownBy {w w' : World} (h : Ext w w') (row : Option Nat) : w.grownBy w' row := ⟨h.os, h.tape, h.output, h.size, fun k hk _ => h.block k hk⟩
theorem Ints.grown {k : IntKind} {w w' : World} {v : Value} {xs : List Int} {row : Option Nat} (h : Ints k w v xs) (hg : w.grownBy w' row) (hne : ∀ b, v.ownBlock = some b → row ≠ some b) : Ints k w' v xs := by
  obtain ⟨a, cap, rfl, h1, h2, h3⟩ := h
  refine ⟨a, cap, rfl, h1, h2, fun hp => ?_⟩
  obtain ⟨b, off, rfl, hb, hc⟩ := h3 hp
  refine ⟨b, off, rfl, Nat.lt_of_lt_of_le hb hg.size, fun j hj => ?_⟩
  rw [World.cell?_of_block (hg.block b hb fun e => hne b rfl e.symm)]
  exact hc j hj
/-- two slices that don't lie in one block -/
def Ap (v u : Value) : Prop := v.ownBlock = none ∨ v.ownBlock ≠ u.ownBlock
theorem Ap.symm {v u : Value} (h : Ap v u) : Ap u v := by
  rcases h with h | h
  · rcases hu : u.ownBlock with _ | k
    · exact .inl hu
    · exact .inr (by rw [h, hu]; simp)
  · exact .inr fun e => h e.symm
/-- an elder row and a younger one lie apart -/
theorem Ap.old {w w' : World} {b b' : Nat} {e e' : TypeId} {s s' n n' : Nat} {v u : Value} {xs ys : List Value} (h : w.ownsRow b e s v n xs) (h' : w'.ownsRow b' e' s' u n' ys) (hb : w.heap.size ≤ b') : Ap v u := by
  rcases hv : v.ownBlock with _ | k
  · exact .inl hv
  · refine .inr fun e => ?_
    rw [hv] at e
    have h1 := (h.lt k hv).2
    have h2 := (h'.lt k e.symm).1
    omega
/-- a row that has grown lies apart from what it lay apart from -/
theorem Ap.grown {w : World} {b : Nat} {e : TypeId} {s n : Nat} {v v' u : Value} {ys : List Value} (h : Ap u v) (hu : w.ownsRow b e s u n ys) (hat : v'.ownBlock = v.ownBlock ∨ v'.ownBlock = some w.heap.size) : Ap u v' := by
  rcases h with h | h
  · exact .inl h
  · rcases hv : u.ownBlock with _ | k
    · exact .inl hv
    · refine .inr fun e => ?_
      rw [hv] at e h
      rcases hat with hat | hat
      · rw [hat] at e; exact h e
      · rw [hat] at e
        have := (hu.lt k hv).2
        injection e with e
        omega
theorem own_put {w : World} {base : Nat} {e ty : TypeId} {g n : Nat} {v : Value} {xs : List Value} {cs : Array Value} (h : w.ownsRow base e 1 v n xs) (hB : Blk w g ty cs) (hty : e ≠ ty) (i : Nat) (u : Value) : (w.setCell ⟨g, i, none⟩ u).ownsRow base e 1 v n xs :=
  h.kept (setCell_grown _ _ _) (ownsRow_blk h hB hty)
theorem map_set_int (l : List Int) (j : Nat) (x : Int) : (l.map (Value.int .u64)).set j (.int .u64 x) = (l.set j x).map (Value.int .u64) := by rw [List.map_set]

set_option maxRecDepth 100000 in
set_option maxHeartbeats 1000000 in
theorem cmLessen (p x : Int) (n base g cap : Nat) (xs us : List Int) (u : Value) (w : World) (hp : rightB p = true) (hx : 0 ≤ x ∧ x < p) (hn : 1 ≤ n) (hn2 : n ≤ 64)
    (hown : w.ownsRow base 22 1 (.slice (some ⟨g, 0, none⟩) n cap) n (xs.map (Value.int .u64))) (hxs : Rng p xs) (hu : Ints .u64 w u us) (hul : us.length = n) (hus : Rng p us) (hne : ∀ k, u.ownBlock = some k → g ≠ k) :
    Calls Try.prog 56 #[.int .u64 p, .slice (some ⟨g, 0, none⟩) n cap, .int .u64 x, u] w fun e w' => e = .returned (.tuple #[]) ∧
      w'.ownsRow base 22 1 (.slice (some ⟨g, 0, none⟩) n cap) n ((tab n fun j => (xs.getD j 0 - x * us.getD j 0 % p) % p).map (Value.int .u64)) ∧ w.grownBy w' (some g) := by
  have hp2 := rightB_true hp
  have HP := hid hp
  have Hxs := hid hxs; have Hus := hid hus
  have hxl : xs.length = n := by have := hown.1; simpa using this
  obtain ⟨F, hF⟩ : ∃ F : Nat → Int, (fun j => (xs.getD j 0 - x * us.getD j 0 % p) % p) = F := ⟨_, rfl⟩
  have HF := hid (fun j => (congrFun hF j : (xs.getD j 0 - x * us.getD j 0 % p) % p = F j))
  rw [hF]
  have Hown := hid hown; have Hxl := hid hxl
  obtain ⟨a, cu, rfl, k1, k2, k3⟩ := hu
  rw [hul] at k1 k3 ⊢
  obtain ⟨b, off, rfl, hb, hc⟩ := k3 (by omega)
  have Hc := hid hc
  have hgb : g ≠ b := hne b rfl
  clear hF k3 hc hown hxl hne hul hxs hus hp
  go_enter Try.func56, Try.ntmps56
  go_wp2_with fail
  go_loopw [14] (fun iv wr => ∃ (j : Nat) (l : List Int), iv = .int .i64 j ∧ j ≤ n ∧ Hid (l.length = n) ∧ Hid (wr.ownsRow base 22 1 (.slice (some ⟨g, 0, none⟩) n cap) n (l.map (Value.int .u64))) ∧ Hid (∀ t, t < n → l.getD t 0 = if t < j then F t else xs.getD t 0) ∧ Hid (w.grownBy wr (some g))) (fun iv _ => n - (intOf iv).toNat)
  case atStart => exact ⟨0, xs, rfl, Nat.zero_le _, Hxl, Hown, hid (fun t ht => by rw [if_neg (by omega)]), hid ((Ext.refl w).grownBy _)⟩
  case round =>
    obtain ⟨j, l, rfl, hj, hl, ho, hget, hgr⟩ := hrel
    by_cases hlt : j < n
    · have gu := (World.cell?_of_block (a := ⟨b, off + j, none⟩) (hgr.out.block b hb (fun e => hgb (by injection e with e; exact e.symm)))).trans (Hc.out j hlt)
      have hlj := hget.out j hlt
      rw [if_neg (by omega)] at hlj
      have rx := Hxs.out.getD hp2.1 j
      have ru := Hus.out.getD hp2.1 j
      have hFj := HF.out j
      obtain ⟨y, ey⟩ : ∃ y, us.getD j 0 = y := ⟨_, rfl⟩
      obtain ⟨z, ez⟩ : ∃ z, xs.getD j 0 = z := ⟨_, rfl⟩
      rw [ey] at gu ru hFj; rw [ez] at hlj rx hFj
      obtain ⟨q, eq, q0, q1⟩ := name_mod (p := p) (x * y) hp2.1
      rw [eq] at hFj
      have hFr := mod_range (z - q) hp2.1
      rw [hFj] at hFr
      obtain ⟨t, et⟩ : ∃ t, F j = t := ⟨_, rfl⟩
      rw [et] at hFj hFr
      have Eq := hid eq; have Et := hid et; have HFj := hid hFj
      have gv := hid fun (W : World) (hW : Ext wr W) => (show W.cell? ⟨g, j, none⟩ = some (.int .u64 z) by
        rw [(ownsRow_ext ho.out hW).cellAt j (by omega), List.getElem?_map, List.getElem?_eq_getElem (show j < l.length by rw [hl.out]; exact hlt)]
        simp only [List.getD, List.getElem?_eq_getElem (show j < l.length by rw [hl.out]; exact hlt), Option.getD_some] at hlj
        rw [hlj]; rfl)
      have fv := hid fun (W : World) (hW : Ext wr W) => (ownsRow_ext ho.out hW).frozenAt j
      have hst := hid fun (W : World) (hW : Ext wr W) => (ownsRow_ext ho.out hW).stored j (.int .u64 t)
      clear ey ez eq et hFj hlj
      go_wp2_with (first
        | (go_at_call 55; refine (mul_as p x y q _ HP.out hx.1 hx.2 ru.1 ru.2 Eq.out).mono ?_; rintro _ w1 ⟨rfl, x1⟩; have g1 := gv.out w1 x1)
        | (go_at_call 28; refine (sub_as p z q t _ HP.out rx.1 rx.2 q0 q1 HFj.out).mono ?_; rintro _ w2 ⟨rfl, x2⟩; have x3 := x1.trans x2; have f2 := fv.out w2 x3; have g2 := gv.out w2 x3))
      have hs := hid (hst.out w2 x3)
      go_roundw
      case rel =>
        refine ⟨j + 1, l.set j t, by go_num, by omega, hid (by rw [List.length_set]; exact hl.out), hid (by rw [← map_set_int]; exact hs.out.1), hid (fun i hi => ?_), hid ((hgr.out.trans (x3.grownBy _)).trans hs.out.2)⟩
        rw [set_get l j i t (by rw [hl.out]; exact hlt)]
        by_cases e : j = i
        · subst e
          rw [if_pos rfl, if_pos (by omega), Et.out]
        · rw [if_neg e, hget.out i hi]
          by_cases e2 : i < j
          · rw [if_pos e2, if_pos (by omega)]
          · rw [if_neg e2, if_neg (by omega)]
      case measure => simp [intOf]; omega
    · obtain rfl : n = j := by omega
      have e : l = tab n F := tab_of hl.out fun t ht => by rw [hget.out t ht, if_pos ht]
      go_wp2_with fail
      go_end0
      exact ⟨rfl, by rw [← e]; exact ho.out, hgr.out⟩

set_option maxHeartbeats 400000 in
theorem cmNot0 (y : Int) (w : World) : Calls Try.prog 58 #[.int .u64 y] w fun e w' => e = .returned (.bool (y != 0)) ∧ w = w' := by
  go_enter Try.func58, Try.ntmps58
  go_wp2_with fail
  go_ret
  exact ⟨rfl, rfl⟩
/-- where the first number that isn't 0 stands -/
def leadV (l : List Int) : Int := if leadE l < l.length then (leadE l : Int) else -1
set_option maxRecDepth 100000 in
set_option maxHeartbeats 1000000 in
theorem cmIndex (v : Value) (xs : List Int) (w : World) (hv : Ints .u64 w v xs) (hx : U64s xs) (hl : xs.length ≤ 1000000) :
    Calls Try.prog 57 #[v, .func (.func 58) #[] #[]] w (Ret (.int .i64 (leadV xs)) w) := by
  have C1 := hid fun y W => cmNot0 y W
  obtain ⟨L, hL⟩ : ∃ L, leadV xs = L := ⟨_, rfl⟩
  rw [hL]
  have HL := hid hL
  have Hx := hid hx
  obtain ⟨a, cap, rfl, k1, k2, k3⟩ := hv
  have K3 := hid k3
  obtain ⟨n, en⟩ : ∃ n, xs.length = n := ⟨_, rfl⟩
  have En := hid en
  rw [en] at k1 K3 hl ⊢
  clear k3 hL en hx
  go_enter Try.func57, Try.ntmps57
  go_wp2_with fail
  go_loopw [8] (fun iv wr => ∃ (j : Nat), iv = .int .i64 j ∧ j ≤ n ∧ Hid (∀ t, t < j → xs.getD t 0 = 0) ∧ Ext w wr) (fun iv _ => n - (intOf iv).toNat)
  case atStart => exact ⟨0, rfl, Nat.zero_le _, hid (fun t ht => absurd ht (Nat.not_lt_zero _)), Ext.refl _⟩
  case round =>
    obtain ⟨j, rfl, hj, hz, hw⟩ := hrel
    by_cases hlt : j < n
    · obtain ⟨b, off, rfl, hb, hc⟩ := K3.out (by omega)
      have g1 := (hw.cells _ _ hb).trans (hc j hlt)
      have ry := Hx.out.get (k := j) (by rw [En.out]; exact hlt)
      obtain ⟨y, ey⟩ : ∃ y, xs.getD j 0 = y := ⟨_, rfl⟩
      rw [ey] at g1 ry
      have Ey := hid ey
      clear ey hc
      by_cases c : y = 0
      · have e0 : ((0 : Int) != 0) = false := by decide
        have C2 := hid (C1.out 0)
        rw [e0] at C2
        subst c
        go_wp2_with (go_at_call 58; refine (C2.out _).mono ?_; rintro _ _ ⟨rfl, rfl⟩)
        go_roundw
        case rel =>
          refine ⟨j + 1, by go_num, by omega, hid (fun t ht => ?_), hw⟩
          by_cases e : t = j
          · rw [e, Ey.out]
          · exact hz.out t (by omega)
        case measure => simp [intOf]; omega
      · have e0 : (y != 0) = true := by simp [c]
        have C2 := hid (C1.out y)
        rw [e0] at C2
        have hLj := hid (show L = (j : Int) by
          have hjl : j < xs.length := by rw [En.out]; exact hlt
          have e1 : leadE xs = j := leadE_eq hjl (by rw [Ey.out]; exact c) hz.out
          rw [← HL.out]; unfold leadV
          rw [e1, if_pos hjl])
        go_wp2_with (go_at_call 58; refine (C2.out _).mono ?_; rintro _ _ ⟨rfl, rfl⟩)
        go_ret
        exact ⟨ret_int hLj.out.symm, hw⟩
    · obtain rfl : n = j := by omega
      have hLj := hid (show L = -1 by
        have e1 : leadE xs = xs.length := leadE_all fun t ht => hz.out t (by rw [← En.out]; exact ht)
        rw [← HL.out]; unfold leadV
        rw [e1, if_neg (Nat.lt_irrefl _)])
      go_wp2_with fail
      go_ret
      exact ⟨ret_int hLj.out.symm, hw⟩
end Go.Proofs.Ytmcadgcfdlonoaa
/- Package perm: sides, orders that are right, One. -/
namespace Go.Proofs.Ytmcadgcfdlonoaa
open Go.RowKit Go.Maps

/-- rows without repetition, of numbers that are all below their number: an order -/
theorem Ord.of_nodup {n : Nat} {p : List Int} (hl : p.length = n) (hr : ∀ j, j < n → 0 ≤ p.getD j 0 ∧ p.getD j 0 < n) (hn : p.Nodup) : Ord n p := by
  have hp := nodup_sub (r := upL n) hn (fun x hx => by
    obtain ⟨j, hj, rfl⟩ := List.getElem_of_mem hx
    have := hr j (by omega)
    rw [List.getD, List.getElem?_eq_getElem hj] at this
    exact upL_mem.2 this) (by rw [upL_len]; omega)
  exact Ord.of_perm hp.symm
theorem mem_take_getD {p : List Int} {k j : Nat} (hj : j < k) (hk : k ≤ p.length) : p.getD j 0 ∈ p.take k := by
  have h : j < (p.take k).length := by rw [List.length_take]; omega
  have e : p.getD j 0 = (p.take k)[j] := by simp [List.getD, show j < p.length by omega]
  rw [e]; exact List.getElem_mem h
theorem nodup_take_succ {p : List Int} {k : Nat} (h : k < p.length) (hn : (p.take k).Nodup) (hx : p.getD k 0 ∉ p.take k) : (p.take (k + 1)).Nodup := by
  rw [take_snoc_getD h, List.nodup_append]
  exact ⟨hn, by simp, fun a ha b hb e => by
    have : b = p.getD k 0 := by simpa using hb
    subst e; subst this; exact hx ha⟩

/-- a block whose first so many cells are numbers -/
theorem Blk.ints {w : World} {g n : Nat} {t : TypeId} {cs : Array Value} {k : IntKind} {xs : List Int} (h : Blk w g t cs) (hl : xs.length = n) (hn : n ≤ 9223372036854775807) (hc : ∀ j, j < n → cs[j]? = some (.int k (xs.getD j 0))) : Ints k w (.slice (some ⟨g, 0, none⟩) n n) xs := by
  subst hl
  exact Ints.mk (Nat.le_refl _) hn h.lt fun j hj => by rw [Nat.zero_add, h.cell j]; exact hc j hj

end Go.Proofs.Ytmcadgcfdlonoaa
