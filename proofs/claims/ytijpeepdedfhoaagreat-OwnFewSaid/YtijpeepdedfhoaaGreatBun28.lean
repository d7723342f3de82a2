/- What the texts KerM, FoM show, in one text. -/
import Derived.Test.YtijpeepdedfhoaaGreatBun01
import Derived.Test.YtijpeepdedfhoaaGreatBun18
import Derived.Test.YtijpeepdedfhoaaGreatBun23
import Derived.Test.YtijpeepdedfhoaaGreatBun20
/- How many vectors a matrix takes to 0: p so many times multiplied by itself as its columns less its rank (in plain Lean; nothing of a program). -/
namespace Go.Proofs.YtijpeepdedfhoaaGreat

theorem mov_get {p n : Nat} {x t : List Int} (hx : x.length = n) (ht : t.length = n) {j : Nat} (hj : j < n) : atV (movV p x t) j = (atV x j + atV t j) % (p : Int) := by
  unfold atV movV
  simp [List.getD, List.getElem?_zipWith, show j < x.length by omega, show j < t.length by omega]
theorem app_smul (n : Nat) (R : Nat → List Int) (c : Int) (x : Nat → Int) (i : Nat) : appF n R (fun j => c * x j) i = c * appF n R x i := by
  unfold appF
  rw [← sm_mul]
  exact sm_congr fun j _ => by rw [← Int.mul_assoc, ← Int.mul_assoc, Int.mul_comm ((R i).getD j 0)]
theorem app_null (n : Nat) (R : Nat → List Int) (i : Nat) : appF n R (fun _ => 0) i = 0 := sm_zero fun j _ => by simp
theorem app_mov {p n : Nat} {R : Nat → List Int} {x t : List Int} (hx : x.length = n) (ht : t.length = n) (i : Nat) : appF n R (atV (movV p x t)) i % (p : Int) = (appF n R (atV x) i + appF n R (atV t) i) % (p : Int) := by
  rw [← app_add]
  exact app_mod (fun j hj => by rw [mov_get hx ht hj, Int.emod_emod_of_dvd _ (Int.dvd_refl _)]) i
/-- are these rows' numbers 0? -/
def rowsZero (p n : Nat) (R : Nat → List Int) (rows : List Nat) (i : Nat) (x : List Int) : Bool := decide (∀ k, k < i → appF n R (atV x) (rows.getD k 0) % (p : Int) = 0)
theorem ker_step {p n m : Nat} {R : Nat → List Int} {st : ElE} (hp : HasInv (p : Int)) (h : ElOk p n R m st) {i : Nat} (hi : i < st.U.length) : cntV p n (rowsZero p n R st.rows i) = p * cntV p n (rowsZero p n R st.rows (i + 1)) := by
  have hp2 : 2 ≤ p := by have := hp.1; omega
  obtain ⟨x0, -, hx0⟩ := h.own_sol hp fun q => if q = st.rows.getD i 0 then 1 else 0
  have h1 : appF n R x0 (st.rows.getD i 0) % (p : Int) = 1 := by rw [hx0 i hi, if_pos rfl]; exact hp.one
  have h0 : ∀ k, k < i → appF n R x0 (st.rows.getD k 0) % (p : Int) = 0 := fun k hk => by
    have hne := h.inc k i hk (by rw [h.lr]; exact hi)
    rw [hx0 k (by omega), if_neg (by omega)]; rfl
  rw [cntV_split (rowsZero p n R st.rows i) (fun x => appF n R (atV x) (st.rows.getD i 0) % (p : Int)) fun x _ _ => ⟨Int.emod_nonneg _ (by omega), Int.emod_lt_of_pos _ (by omega)⟩]
  rw [← sumN_const]
  refine sumN_congr fun c hc => ?_
  obtain ⟨t, et⟩ : ∃ t, ofF (p : Int) n (fun j => (c : Int) * x0 j) = t := ⟨_, rfl⟩
  have lt : t.length = n := by rw [← et]; exact ofF_len _
  have ht : ∀ k, appF n R (atV t) k % (p : Int) = (c * appF n R x0 k) % (p : Int) := fun k => by
    rw [← app_smul]
    refine app_mod (fun j hj => ?_) k
    unfold atV
    rw [← et, ofF_get hj, Int.emod_emod_of_dvd _ (Int.dvd_refl _)]
  rw [← cntV_move (by omega) n (fun x => rowsZero p n R st.rows i x && (appF n R (atV x) (st.rows.getD i 0) % (p : Int) == (c : Int))) t lt]
  refine cntV_congr fun x hl _ => ?_
  have hm : ∀ k, appF n R (atV (movV p x t)) k % (p : Int) = (appF n R (atV x) k + c * appF n R x0 k) % (p : Int) := fun k => by
    rw [app_mov hl lt, Int.add_emod, ht k, ← Int.add_emod]
  have hz : ∀ k, k < i → appF n R (atV (movV p x t)) (st.rows.getD k 0) % (p : Int) = appF n R (atV x) (st.rows.getD k 0) % (p : Int) := fun k hk => by
    rw [hm, Int.add_emod, Int.mul_emod, h0 k hk]; simp
  have hi1 : appF n R (atV (movV p x t)) (st.rows.getD i 0) % (p : Int) = (appF n R (atV x) (st.rows.getD i 0) % (p : Int) + c) % (p : Int) := by
    rw [hm, Int.add_emod, Int.mul_emod, h1, Int.mul_one, Int.emod_emod_of_dvd _ (Int.dvd_refl _), ← Int.add_emod, Int.emod_add_emod]
  have hg0 := Int.emod_nonneg (appF n R (atV x) (st.rows.getD i 0)) (show (p : Int) ≠ 0 by omega)
  have hg1 := Int.emod_lt_of_pos (appF n R (atV x) (st.rows.getD i 0)) (show (0 : Int) < p by omega)
  unfold rowsZero
  rw [Bool.eq_iff_iff]
  simp only [Bool.and_eq_true, decide_eq_true_eq, beq_iff_eq]
  rw [hi1]
  generalize he : appF n R (atV x) (st.rows.getD i 0) % (p : Int) = e at *
  constructor
  · rintro ⟨a, b⟩ k hk
    rcases Nat.lt_or_ge k i with h | h
    · rw [← hz k h]; exact a k h
    · obtain rfl : k = i := by omega
      rw [he]
      rcases Int.lt_or_le (e + c) p with g | g
      · rw [Int.emod_eq_of_lt (by omega) g] at b; omega
      · have : (e + c) % (p : Int) = e + c - p := by
          rw [← Int.sub_emod_right, Int.emod_eq_of_lt (by omega) (by omega)]
        omega
  · intro a
    refine ⟨fun k hk => by rw [hz k hk]; exact a k (by omega), ?_⟩
    have := a i (by omega)
    rw [he] at this
    rw [this, Int.zero_add]
    exact Int.emod_eq_of_lt (by omega) (by omega)
theorem ker_all {p n m : Nat} {R : Nat → List Int} {st : ElE} (hp : HasInv (p : Int)) (h : ElOk p n R m st) : ∀ i, i ≤ st.U.length → p ^ i * cntV p n (rowsZero p n R st.rows i) = p ^ n
  | 0, _ => by
    rw [Nat.pow_zero, Nat.one_mul, ← cntV_all p n]
    exact cntV_congr fun x _ _ => by simp [rowsZero]
  | i + 1, hi => by
    have h1 := ker_all hp h i (by omega)
    rw [ker_step hp h (show i < st.U.length by omega)] at h1
    rw [← h1, Nat.pow_succ, Nat.mul_assoc]
/-- does the matrix take it to 0? -/
def kerB (p n m : Nat) (R : Nat → List Int) (x : List Int) : Bool := decide (∀ i, i < m → appF n R (atV x) i % (p : Int) = 0)
theorem ElOk.rank_le {p : Int} {n m : Nat} {R : Nat → List Int} {st : ElE} (h : ElOk p n R m st) : st.U.length ≤ n := by
  have := offE_len h.cols_nodup fun c hc => h.cols_lt hc
  have := h.lk
  omega
theorem ker_count {p n m : Nat} {R : Nat → List Int} {st : ElE} (hp : HasInv (p : Int)) (h : ElOk p n R m st) : cntV p n (kerB p n m R) = p ^ (n - st.U.length) := by
  have hp2 : 2 ≤ p := by have := hp.1; omega
  have hr := h.rank_le
  have e : cntV p n (kerB p n m R) = cntV p n (rowsZero p n R st.rows st.U.length) := cntV_congr fun x _ _ => by
    unfold kerB rowsZero
    rw [Bool.eq_iff_iff]
    simp only [decide_eq_true_eq]
    constructor
    · exact fun a k hk => a _ (h.low k (by rw [h.lr]; exact hk))
    · intro a i hi
      have := h.all_rows hp (x := atV x) (x0 := fun _ => 0) (fun k hk => by rw [a k hk, app_null]; rfl) hi
      rw [this, app_null]; rfl
  have := ker_all hp h st.U.length (Nat.le_refl _)
  rw [← e, show n = st.U.length + (n - st.U.length) by omega, Nat.pow_add, show st.U.length + (n - st.U.length) = n by omega] at this
  exact Nat.eq_of_mul_eq_mul_left (Nat.pow_pos (by omega)) this
/-- where the matrix isn't 0, at most one part in p -/
theorem ker_part {p n m : Nat} {R : Nat → List Int} {st : ElE} (hp : HasInv (p : Int)) (h : ElOk p n R m st) (hne : ∃ i j, i < m ∧ j < n ∧ (R i).getD j 0 % (p : Int) ≠ 0) : cntV p n (kerB p n m R) ≤ p ^ n / p := by
  have hp2 : 2 ≤ p := by have := hp.1; omega
  obtain ⟨i, j, hi, hj, hz⟩ := hne
  have hr : 1 ≤ st.U.length := by
    rcases Nat.eq_zero_or_pos st.U.length with h0 | h0
    · exfalso
      apply hz
      rw [h.full hi hj, h0]
      rfl
    · exact h0
  have hn := h.rank_le
  rw [ker_count hp h, show p ^ n = p ^ (n - 1) * p by rw [← Nat.pow_succ]; congr 1; omega, Nat.mul_div_cancel _ (by omega)]
  exact Nat.pow_le_pow_right (by omega) (by omega)
/-- where it is, all of them -/
theorem ker_zero {p n m : Nat} {R : Nat → List Int} (hz : ∀ i j, i < m → j < n → (R i).getD j 0 % (p : Int) = 0) : cntV p n (kerB p n m R) = p ^ n := by
  rw [← cntV_all p n]
  refine cntV_congr fun x _ _ => ?_
  unfold kerB
  rw [decide_eq_true]
  intro i hi
  exact sm_mz fun j hj => mz_mul' (hz i j hi hj) _
end Go.Proofs.YtijpeepdedfhoaaGreat
/- What is wrong of a claimed product, and how many vectors don't tell it (in plain Lean; nothing of a program). -/
namespace Go.Proofs.YtijpeepdedfhoaaGreat
open Go.RowKit Go.Maps

/-- what is wrong -/
def wrongL (p : Int) (m k n : Nat) (xs ys zs : List Int) : List Int := tab (m * n) fun t => ((mulL p m k n xs ys).getD t 0 - zs.getD t 0) % p
/-- does a vector find nothing? -/
def looksB (p : Int) (m k n : Nat) (xs ys zs x : List Int) : Bool := decide (timesL p m k xs (timesL p k n ys x) = timesL p m n zs x)
def leftB (p : Int) (m k n : Nat) (xs ys zs y : List Int) : Bool := decide (leftL p k n ys (leftL p m k xs y) = leftL p m n zs y)
theorem wrongL_len (p : Int) (m k n : Nat) (xs ys zs : List Int) : (wrongL p m k n xs ys zs).length = m * n := tab_len _ _
theorem wrong_get {p : Int} {m k n i j : Nat} {xs ys zs : List Int} (hi : i < m) (hj : j < n) : (wrongL p m k n xs ys zs).getD (i * n + j) 0 = ((mulL p m k n xs ys).getD (i * n + j) 0 - zs.getD (i * n + j) 0) % p := tab_get _ (at_lt hi hj)
theorem wrongL_rng {p : Int} (hp : 2 ≤ p) (m k n : Nat) (xs ys zs : List Int) : Rng p (wrongL p m k n xs ys zs) := tab_rng fun _ _ => mod_range _ hp
theorem MatOk.wrong {p : Int} {m n k : Nat} {xs ys zs : List Int} (h : MatOk p m n zs) : MatOk p m n (wrongL p m k n xs ys zs) :=
  ⟨h.hp, wrongL_rng (rightB_true h.hp).1 m k n xs ys zs, h.hm, h.hn, wrongL_len p m k n xs ys zs⟩
/-- from the left it is the turned ones, looked at from the right -/
theorem left_looks (p : Int) (m k n : Nat) (xs ys zs y : List Int) : leftB p m k n xs ys zs y = looksB p n k m (turnL k n ys) (turnL m k xs) (turnL m n zs) y := by
  unfold leftB looksB
  rw [times_turn, times_turn, times_turn]
theorem sm_less (f g : Nat → Int) (n : Nat) : sm n f - sm n g = sm n fun i => f i - g i := by
  rw [Int.sub_eq_add_neg, ← sm_neg, ← sm_add]
  exact sm_congr fun i _ => (Int.sub_eq_add_neg).symm
/-- a vector finds nothing just if what is wrong makes 0 of it -/
theorem looks_ker {p m k n : Nat} {xs ys zs x : List Int} : looksB (p : Int) m k n xs ys zs x = kerB p n m (rowOf n (wrongL p m k n xs ys zs)) x := by
  have key : ∀ i, i < m → ((timesL (p : Int) m n (mulL (p : Int) m k n xs ys) x).getD i 0 = (timesL (p : Int) m n zs x).getD i 0 ↔ appF n (rowOf n (wrongL p m k n xs ys zs)) (atV x) i % (p : Int) = 0) := by
    intro i hi
    rw [times_get hi, times_get hi, mz_sub]
    have e : appF n (rowOf n (wrongL p m k n xs ys zs)) (atV x) i % (p : Int) = (appF n (rowOf n (mulL (p : Int) m k n xs ys)) (atV x) i - appF n (rowOf n zs) (atV x) i) % (p : Int) := by
      unfold appF
      rw [sm_less]
      refine sm_mod fun j hj => ?_
      have r : ∀ l : List Int, (rowOf n l i).getD j 0 = l.getD (i * n + j) 0 := fun l => tab_get _ hj
      rw [r, r, r, wrong_get hi hj, ← Int.sub_mul, Int.mul_emod, Int.emod_emod_of_dvd _ (Int.dvd_refl _), ← Int.mul_emod]
    rw [e]
  unfold looksB kerB
  rw [times_mul, decide_eq_decide]
  constructor
  · intro h i hi
    exact (key i hi).1 (by rw [h])
  · intro h
    refine list_ext (by rw [timesL_len, timesL_len]) fun i hi => ?_
    rw [timesL_len] at hi
    exact (key i hi).2 (h i hi)
/-- how many find nothing -/
theorem silent_count {p m k n : Nat} {xs ys zs : List Int} (hp : 2 ≤ (p : Int)) (hf : Fld (p : Int)) : cntV p n (looksB (p : Int) m k n xs ys zs) = p ^ (n - (takeL (p : Int) m n (wrongL p m k n xs ys zs)).U.length) := by
  rw [cntV_congr fun x _ _ => looks_ker]
  exact ker_count (hf.has hp) (takeL_ok hp hf (wrongL_rng hp m k n xs ys zs))
theorem silent_zero {p m k n : Nat} {xs ys zs : List Int} (hz : zeroB (wrongL p m k n xs ys zs) = true) : cntV p n (looksB (p : Int) m k n xs ys zs) = p ^ n := by
  rw [cntV_congr fun x _ _ => looks_ker]
  refine ker_zero fun i j hi hj => ?_
  rw [zeroB_iff, wrongL_len] at hz
  rw [show (rowOf n (wrongL p m k n xs ys zs) i).getD j 0 = _ from tab_get _ hj, hz _ (at_lt hi hj)]
  rfl
theorem silent_part {p m k n : Nat} {xs ys zs : List Int} (hp : 2 ≤ (p : Int)) (hf : Fld (p : Int)) (hz : zeroB (wrongL p m k n xs ys zs) = false) : cntV p n (looksB (p : Int) m k n xs ys zs) ≤ p ^ n / p := by
  rw [cntV_congr fun x _ _ => looks_ker]
  refine ker_part (hf.has hp) (takeL_ok hp hf (wrongL_rng hp m k n xs ys zs)) ?_
  apply Classical.byContradiction
  intro hn
  have : zeroB (wrongL p m k n xs ys zs) = true := by
    rw [zeroB_iff, wrongL_len]
    intro t ht
    apply Classical.byContradiction
    intro h0
    have hi := lt_div ht
    have hj := lt_mod ht
    refine hn ⟨t / n, t % n, hi, hj, ?_⟩
    rw [show (rowOf n (wrongL p m k n xs ys zs) (t / n)).getD (t % n) 0 = _ from tab_get _ hj, Nat.mul_comm, Nat.div_add_mod]
    have h1 := (wrongL_rng (p := (p : Int)) hp m k n xs ys zs).getD hp t
    rwa [Int.emod_eq_of_lt h1.1 h1.2]
  rw [this] at hz
  exact absurd hz (by simp)
/-- what is wrong of the turned ones is what is wrong, turned -/
theorem wrong_turn (p : Int) (m k n : Nat) (xs ys zs : List Int) : wrongL p n k m (turnL k n ys) (turnL m k xs) (turnL m n zs) = turnL m n (wrongL p m k n xs ys zs) :=
  grid_of (wrongL_len ..) fun j i hj hi => by rw [wrong_get hj hi, ← turn_mul, turnL, grid_get _ hj hi, turnL, grid_get _ hj hi, wrong_get hi hj]
theorem zeroB_turn {m n : Nat} {l : List Int} (hl : l.length = m * n) : zeroB (turnL m n l) = zeroB l := by
  rw [Bool.eq_iff_iff, zeroB_iff, zeroB_iff, turnL_len, hl]
  constructor
  · intro h t ht
    have hi := lt_div ht
    have hj := lt_mod ht
    have := h (t % n * m + t / n) (at_lt hj hi)
    rwa [turnL, grid_get _ hj hi, Nat.mul_comm, Nat.div_add_mod] at this
  · intro h t ht
    have hi := lt_div ht
    have hj := lt_mod ht
    have := h (t % m * n + t / m) (at_lt hj hi)
    have e : t / m * m + t % m = t := by rw [Nat.mul_comm, Nat.div_add_mod]
    rwa [← e, turnL, grid_get _ hi hj]
end Go.Proofs.YtijpeepdedfhoaaGreat
