/- What the texts LinM, MatL, ElimM, CupM, ShpM show, in one text. -/
import Derived.Test.YtnfnommiabalfaaBun06
/- Rows modulo a prime: what is made of others, what isn't; how many that can be (in plain Lean; nothing of a program). -/
namespace Go.Proofs.Ytnfnommiabalfaa
variable {p : Int}

/-- each number but 0 has an inverse -/
def HasInv (p : Int) : Prop := 2 ≤ p ∧ ∀ a : Int, a % p ≠ 0 → ∃ b, a * b % p = 1
theorem HasInv.one (h : HasInv p) : (1 : Int) % p = 1 := Int.emod_eq_of_lt (by omega) (by have := h.1; omega)
theorem mz_mul {a : Int} (h : a % p = 0) (b : Int) : b * a % p = 0 := by rw [Int.mul_emod, h]; simp
theorem mz_mul' {a : Int} (h : a % p = 0) (b : Int) : a * b % p = 0 := by rw [Int.mul_comm]; exact mz_mul h b
theorem mz_add {a b : Int} (h : a % p = 0) (k : b % p = 0) : (a + b) % p = 0 := by rw [Int.add_emod, h, k]; simp
theorem mz_neg {a : Int} (h : a % p = 0) : -a % p = 0 := by
  have := mz_mul h (-1)
  rwa [show -1 * a = -a by omega] at this
theorem sm_mz {f : Nat → Int} {n : Nat} (h : ∀ k, k < n → f k % p = 0) : sm n f % p = 0 := by
  rw [sm_mod (g := fun _ => 0) fun k hk => by rw [h k hk]; simp, sm_zero fun _ _ => rfl]; simp
theorem mz_sub {a b : Int} : a % p = b % p ↔ (a - b) % p = 0 := by
  constructor
  · intro h; rw [Int.sub_emod, h]; simp
  · intro h
    have h3 := Int.mul_ediv_add_emod (a - b) p
    rw [h] at h3
    rw [show a = b + p * ((a - b) / p) by omega, Int.add_mul_emod_self_left]
theorem mz_cancel (hp : HasInv p) {a b : Int} (ha : a % p ≠ 0) (h : b * a % p = 0) : b % p = 0 := by
  obtain ⟨c, hc⟩ := hp.2 a ha
  have h1 : b * a * c % p = 0 := mz_mul' h c
  have h2 : (b * (a * c) - b) % p = 0 := by
    have h3 : (a * c - 1) % p = 0 := mz_sub.1 (by rw [hc, hp.one])
    rw [show b * (a * c) - b = b * (a * c - 1) by grind]
    exact mz_mul h3 b
  rw [show b * a * c = b * (a * c) by grind] at h1
  rw [← mz_sub.2 h2, h1]
/-- a sum over all, and the one that is left out -/
theorem sm_out (G : Nat → Int) {n k : Nat} (h : k < n + 1) : sm (n + 1) G = sm n (fun l => G (skp k l)) + G k := by
  rw [sm_skp G n k h, ← sm_single (n := n + 1) (i := k) G h, ← sm_add]
  refine sm_congr fun b _ => ?_
  by_cases e : b = k
  · rw [if_pos e, if_pos e]; simp
  · rw [if_neg e, if_neg e]; simp
/-- more unknowns than equations -/
theorem nontriv (hp : HasInv p) : ∀ (s r : Nat), s < r → ∀ a : Nat → Nat → Int, ∃ x : Nat → Int, (∃ k, k < r ∧ x k % p ≠ 0) ∧ ∀ l, l < s → (sm r fun k => x k * a k l) % p = 0
  | 0, r, h, a => ⟨fun _ => 1, ⟨0, h, by show (1 : Int) % p ≠ 0; rw [hp.one]; omega⟩, fun l hl => absurd hl (Nat.not_lt_zero _)⟩
  | s + 1, r, h, a => by
    by_cases h0 : ∀ k, k < r → a k s % p = 0
    · obtain ⟨x, hx, hl⟩ := nontriv hp s r (by omega) a
      refine ⟨x, hx, fun l hl' => ?_⟩
      by_cases e : l = s
      · subst e; exact sm_mz fun k hk => mz_mul (h0 k hk) _
      · exact hl l (by omega)
    · simp only [Classical.not_forall] at h0
      obtain ⟨k0, hk0, hne⟩ := h0
      obtain ⟨b, hb⟩ := hp.2 _ hne
      obtain ⟨r', rfl⟩ : ∃ r', r = r' + 1 := ⟨r - 1, by omega⟩
      obtain ⟨y, ⟨k1, hk1, hy1⟩, hy⟩ := nontriv hp s r' (by omega) fun k l => a (skp k0 k) l - a (skp k0 k) s * b * a k0 l
      have hback : ∀ k, (if skp k0 k < k0 then skp k0 k else skp k0 k - 1) = k := fun k => by unfold skp; (repeat' split) <;> omega
      have hne0 : ∀ k, skp k0 k ≠ k0 := fun k => by unfold skp; split <;> omega
      let S : Int := sm r' fun k => y k * a (skp k0 k) s
      let x : Nat → Int := fun j => if j = k0 then - S * b else y (if j < k0 then j else j - 1)
      have hx : ∀ l, (sm (r' + 1) fun k => x k * a k l) = (sm r' fun k => y k * (a (skp k0 k) l - a (skp k0 k) s * b * a k0 l)) := by
        intro l
        rw [sm_out (fun k => x k * a k l) hk0]
        have e1 : (sm r' fun k => x (skp k0 k) * a (skp k0 k) l) = sm r' fun k => y k * a (skp k0 k) l := sm_congr fun k _ => by
          show (if skp k0 k = k0 then _ else y (if skp k0 k < k0 then skp k0 k else skp k0 k - 1)) * _ = _
          rw [if_neg (hne0 k), hback]
        have e2 : (sm r' fun k => y k * (a (skp k0 k) l - a (skp k0 k) s * b * a k0 l)) = (sm r' fun k => y k * a (skp k0 k) l) + (sm r' fun k => y k * a (skp k0 k) s) * (- b * a k0 l) := by
          rw [← sm_mul_r, ← sm_add]
          exact sm_congr fun k _ => by grind
        have e3 : x k0 = - S * b := by show (if k0 = k0 then _ else _) = _; rw [if_pos rfl]
        rw [e1, e2, e3]
        show _ + - S * b * a k0 l = _ + S * _
        grind
      refine ⟨x, ⟨skp k0 k1, skp_lt hk1, ?_⟩, fun l hl => ?_⟩
      · show (if skp k0 k1 = k0 then _ else y (if skp k0 k1 < k0 then skp k0 k1 else skp k0 k1 - 1)) % p ≠ 0
        rw [if_neg (hne0 k1), hback]; exact hy1
      · rw [hx l]
        by_cases e : l = s
        · subst e
          refine sm_mz fun k _ => mz_mul ?_ _
          have h3 : (1 - a k0 l * b) % p = 0 := by
            rw [show (1 - a k0 l * b) = -(a k0 l * b - 1) by omega]
            have h4 : (a k0 l * b - 1) % p = 0 := mz_sub.1 (by rw [hb, hp.one])
            exact mz_neg h4
          rw [show a (skp k0 k) l - a (skp k0 k) l * b * a k0 l = a (skp k0 k) l * (1 - a k0 l * b) by grind]
          exact mz_mul h3 _
        · exact hy l (by omega)

/-- made of r rows, on the first n places -/
def Comb (p : Int) (n r : Nat) (u : Nat → RowF) (v : RowF) : Prop := ∃ c : Nat → Int, ∀ j, j < n → v j % p = (sm r fun k => c k * u k j) % p
/-- none of them is made of the others -/
def Ind (p : Int) (n r : Nat) (u : Nat → RowF) : Prop := ∀ x : Nat → Int, (∀ j, j < n → (sm r fun k => x k * u k j) % p = 0) → ∀ k, k < r → x k % p = 0
theorem Comb.one {n r k : Nat} (u : Nat → RowF) (hk : k < r) : Comb p n r u (u k) :=
  ⟨fun i => if i = k then 1 else 0, fun j _ => by
    rw [sm_congr (g := fun i => if i = k then u i j else 0) fun i _ => by by_cases e : i = k <;> simp [e], sm_single _ hk]⟩
theorem Comb.congr {n r : Nat} {u : Nat → RowF} {v v' : RowF} (h : Comb p n r u v) (e : ∀ j, j < n → v' j % p = v j % p) : Comb p n r u v' := by
  obtain ⟨c, hc⟩ := h
  exact ⟨c, fun j hj => (e j hj).trans (hc j hj)⟩
theorem Comb.sum {n r m : Nat} {u : Nat → RowF} {w : Nat → RowF} (h : ∀ i, i < m → Comb p n r u (w i)) (d : Nat → Int) : Comb p n r u fun j => sm m fun i => d i * w i j := by
  have : ∃ c : Nat → Nat → Int, ∀ i, i < m → ∀ j, j < n → w i j % p = (sm r fun k => c i k * u k j) % p := by
    refine ⟨fun i => if h' : i < m then Classical.choose (h i h') else fun _ => 0, fun i hi j hj => ?_⟩
    simp only [dif_pos hi]
    exact Classical.choose_spec (h i hi) j hj
  obtain ⟨c, hc⟩ := this
  refine ⟨fun k => sm m fun i => d i * c i k, fun j hj => ?_⟩
  have e : (sm r fun k => (sm m fun i => d i * c i k) * u k j) = sm m fun i => d i * sm r fun k => c i k * u k j := by
    rw [sm_congr (g := fun k => sm m fun i => d i * (c i k * u k j)) fun k _ => by rw [← sm_mul_r]; exact sm_congr fun i _ => by grind, sm_comm]
    exact sm_congr fun i _ => by rw [sm_mul]
  rw [e]
  exact sm_mod fun i hi => by rw [Int.mul_emod, hc i hi j hj, ← Int.mul_emod]
theorem Comb.trans {n r s : Nat} {u w : Nat → RowF} {v : RowF} (h : Comb p n r u v) (k : ∀ i, i < r → Comb p n s w (u i)) : Comb p n s w v := by
  obtain ⟨c, hc⟩ := h
  exact (Comb.sum k c).congr hc
/-- so many that aren't made of one another are not made of fewer -/
theorem Ind.le (hp : HasInv p) {n r s : Nat} {u w : Nat → RowF} (hu : Ind p n r u) (h : ∀ k, k < r → Comb p n s w (u k)) : r ≤ s := by
  rcases Nat.lt_or_ge s r with hlt | hge
  · exfalso
    have : ∃ c : Nat → Nat → Int, ∀ i, i < r → ∀ j, j < n → u i j % p = (sm s fun k => c i k * w k j) % p := by
      refine ⟨fun i => if h' : i < r then Classical.choose (h i h') else fun _ => 0, fun i hi j hj => ?_⟩
      simp only [dif_pos hi]
      exact Classical.choose_spec (h i hi) j hj
    obtain ⟨c, hc⟩ := this
    obtain ⟨x, ⟨k, hk, hx⟩, hl⟩ := nontriv hp s r hlt c
    refine hx (hu x (fun j hj => ?_) k hk)
    rw [sm_mod (g := fun k => x k * sm s fun l => c k l * w l j) fun k hk => by rw [Int.mul_emod, hc k hk j hj, ← Int.mul_emod]]
    have e : (sm r fun k => x k * sm s fun l => c k l * w l j) = sm s fun l => (sm r fun k => x k * c k l) * w l j := by
      rw [sm_congr (g := fun k => sm s fun l => x k * c k l * w l j) fun k _ => by rw [← sm_mul]; exact sm_congr fun l _ => by grind, sm_comm]
      exact sm_congr fun l _ => by rw [sm_mul_r]
    rw [e]
    exact sm_mz fun l hl' => mz_mul' (hl l hl') _
  · exact hge
/-- rows that each have a column of their own -/
structure Ech (p : Int) (n r : Nat) (u : Nat → RowF) (s : Nat → Nat) : Prop where
  col : ∀ i, i < r → s i < n
  piv : ∀ i, i < r → u i (s i) % p ≠ 0
  zero : ∀ i k, k < i → i < r → u i (s k) % p = 0
theorem Ech.coef (hp : HasInv p) {n r : Nat} {u : Nat → RowF} {s : Nat → Nat} (h : Ech p n r u s) {x : Nat → Int} (hx : ∀ k, k < r → (sm r fun i => x i * u i (s k)) % p = 0) : ∀ k, k < r → x k % p = 0 := by
  intro k
  induction k using Nat.strongRecOn with
  | ind k ih =>
    intro hk
    have h1 := hx k hk
    rw [sm_mod (g := fun i => if i = k then x k * u k (s k) else 0) fun i hi => ?_, sm_single (fun _ => x k * u k (s k)) hk] at h1
    · exact mz_cancel hp (h.piv k hk) h1
    · rcases Nat.lt_trichotomy i k with c | c | c
      · rw [if_neg (by omega), mz_mul' (ih i c hi)]; simp
      · subst c; rw [if_pos rfl]
      · rw [if_neg (by omega), mz_mul (h.zero i k c hi)]; simp
theorem Ech.ind (hp : HasInv p) {n r : Nat} {u : Nat → RowF} {s : Nat → Nat} (h : Ech p n r u s) : Ind p n r u :=
  fun _ hx => h.coef hp fun k hk => hx _ (h.col k hk)
/-- what is made of them and 0 in their columns, is 0 -/
theorem Ech.none (hp : HasInv p) {n r : Nat} {u : Nat → RowF} {s : Nat → Nat} (h : Ech p n r u s) {v : RowF} (hv : Comb p n r u v) (hz : ∀ k, k < r → v (s k) % p = 0) : ∀ j, j < n → v j % p = 0 := by
  obtain ⟨c, hc⟩ := hv
  have h0 := h.coef hp (x := c) fun k hk => by rw [← hc _ (h.col k hk)]; exact hz k hk
  intro j hj
  rw [hc j hj]
  exact sm_mz fun k hk => mz_mul' (h0 k hk) _
theorem Ech.inj {n r : Nat} {u : Nat → RowF} {s : Nat → Nat} (h : Ech p n r u s) {i k : Nat} (hi : i < r) (hk : k < r) (e : s i = s k) : i = k := by
  rcases Nat.lt_trichotomy i k with c | c | c
  · exact absurd (e ▸ h.zero k i c hk) (h.piv k hk)
  · exact c
  · exact absurd (e.symm ▸ h.zero i k c hi) (h.piv i hi)
/-- rows, and those they are made of -/
structure Bas (p : Int) (n m r : Nat) (M u : Nat → RowF) : Prop where
  ind : Ind p n r u
  gen : ∀ i, i < m → Comb p n r u (M i)
  own : ∀ k, k < r → Comb p n m M (u k)
theorem Bas.le (hp : HasInv p) {n m m' r r' : Nat} {M M' u u' : Nat → RowF} (B : Bas p n m r M u) (B' : Bas p n m' r' M' u') (h : ∀ i, i < m → Comb p n m' M' (M i)) : r ≤ r' :=
  B.ind.le hp fun k hk => ((B.own k hk).trans h).trans B'.gen
theorem Bas.le_of (hp : HasInv p) {n m r s : Nat} {M u w : Nat → RowF} (B : Bas p n m r M u) (h : ∀ i, i < m → Comb p n s w (M i)) : r ≤ s :=
  B.ind.le hp fun k hk => (B.own k hk).trans h
/-- turned rows are no more -/
theorem Bas.turn_le (hp : HasInv p) {m n r r' : Nat} {M u u' : Nat → RowF} (B : Bas p n m r M u) (B' : Bas p m n r' (fun j i => M i j) u') : r' ≤ r := by
  have : ∃ c : Nat → Nat → Int, ∀ i, i < m → ∀ j, j < n → M i j % p = (sm r fun k => c i k * u k j) % p := by
    refine ⟨fun i => if h' : i < m then Classical.choose (B.gen i h') else fun _ => 0, fun i hi j hj => ?_⟩
    simp only [dif_pos hi]
    exact Classical.choose_spec (B.gen i hi) j hj
  obtain ⟨c, hc⟩ := this
  exact B'.le_of hp (w := fun k i => c i k) fun j hj => ⟨fun k => u k j, fun i hi => by
    show M i j % p = _
    rw [hc i hi j hj]
    exact congrArg (· % p) (sm_congr fun k _ => Int.mul_comm _ _)⟩
/-- a product's rank: no more than either's -/
def mulF (k : Nat) (A B : Nat → RowF) : Nat → RowF := fun i j => sm k fun l => A i l * B l j
theorem Bas.mul_right (hp : HasInv p) {m k n r s : Nat} {A B u w : Nat → RowF} (D : Bas p n m r (mulF k A B) u) (E : Bas p n k s B w) : r ≤ s :=
  D.le hp E fun i _ => ⟨fun l => A i l, fun _ _ => rfl⟩
theorem Bas.mul_left (hp : HasInv p) {m k n r s : Nat} {A B u w : Nat → RowF} (D : Bas p n m r (mulF k A B) u) (E : Bas p k m s A w) : r ≤ s :=
  D.le_of hp (w := mulF k w B) fun i hi => by
    obtain ⟨c, hc⟩ := E.gen i hi
    refine ⟨c, fun j _ => ?_⟩
    have e : (sm s fun t => c t * mulF k w B t j) = sm k fun l => (sm s fun t => c t * w t l) * B l j := by
      unfold mulF
      rw [sm_congr (g := fun t => sm k fun l => c t * w t l * B l j) fun t _ => by rw [← sm_mul]; exact sm_congr fun l _ => by grind, sm_comm]
      exact sm_congr fun l _ => by rw [sm_mul_r]
    rw [e]
    exact sm_mod fun l hl => by rw [Int.mul_emod, hc l hl, ← Int.mul_emod]
end Go.Proofs.Ytnfnommiabalfaa
/- Products of matrices and vectors as lists: the laws of layer 5 in plain Lean; nothing of a program. -/
namespace Go.Proofs.Ytnfnommiabalfaa
variable {p : Int}

def timesL (p : Int) (m n : Nat) (xs ys : List Int) : List Int := tab m fun i => dv p n (fun k => xs.getD (i * n + k) 0) fun k => ys.getD k 0
def leftL (p : Int) (m n : Nat) (xs ys : List Int) : List Int := tab n fun k => dv p m (fun i => xs.getD (i * n + k) 0) fun i => ys.getD i 0
def mulL (p : Int) (m n q : Nat) (xs ys : List Int) : List Int := grid m q fun i k => dv p n (fun j => xs.getD (i * n + j) 0) fun j => ys.getD (j * q + k) 0
def turnL (m n : Nat) (xs : List Int) : List Int := grid n m fun k i => xs.getD (i * n + k) 0
def oneL (n : Nat) : List Int := grid n n fun i k => if i = k then 1 else 0
def pickL (n : Nat) (xs : List Int) (rows cols : List Nat) : List Int := grid rows.length cols.length fun i k => xs.getD (rows.getD i 0 * n + cols.getD k 0) 0
theorem timesL_len (m n : Nat) (xs ys : List Int) : (timesL p m n xs ys).length = m := tab_len _ _
theorem leftL_len (m n : Nat) (xs ys : List Int) : (leftL p m n xs ys).length = n := tab_len _ _
theorem mulL_len (m n q : Nat) (xs ys : List Int) : (mulL p m n q xs ys).length = m * q := grid_len _ _ _
theorem turnL_len (m n : Nat) (xs : List Int) : (turnL m n xs).length = n * m := grid_len _ _ _
theorem oneL_len (n : Nat) : (oneL n).length = n * n := grid_len _ _ _
theorem timesL_rng (hp : 2 ≤ p) (m n : Nat) (xs ys : List Int) : Rng p (timesL p m n xs ys) := tab_rng fun _ _ => dv_range hp _ _ _
theorem leftL_rng (hp : 2 ≤ p) (m n : Nat) (xs ys : List Int) : Rng p (leftL p m n xs ys) := tab_rng fun _ _ => dv_range hp _ _ _
theorem mulL_rng (hp : 2 ≤ p) (m n q : Nat) (xs ys : List Int) : Rng p (mulL p m n q xs ys) := grid_rng fun _ _ _ _ => dv_range hp _ _ _
theorem turnL_rng (hp : 2 ≤ p) {xs : List Int} (h : Rng p xs) (m n : Nat) : Rng p (turnL m n xs) := grid_rng fun _ _ _ _ => h.getD hp _
theorem oneL_rng (hp : 2 ≤ p) (n : Nat) : Rng p (oneL n) := grid_rng fun _ _ _ _ => by split <;> omega

/-- a product times a vector -/
theorem times_mul (m n q : Nat) (xs ys zs : List Int) : timesL p m n xs (timesL p n q ys zs) = timesL p m q (mulL p m n q xs ys) zs := by
  unfold timesL
  refine tab_congr fun i hi => ?_
  rw [dv_congr (fun _ _ => rfl) fun k hk => tab_get _ hk, dv_assoc]
  exact dv_congr (fun j hj => by rw [mulL, grid_get _ hi hj]) fun _ _ => rfl
/-- a vector times a product -/
theorem left_mul (m n q : Nat) (xs ys zs : List Int) : leftL p n q ys (leftL p m n xs zs) = leftL p m q (mulL p m n q xs ys) zs := by
  unfold leftL
  refine tab_congr fun k hk => ?_
  rw [dv_congr (fun _ _ => rfl) fun j hj => tab_get _ hj, dv_assoc]
  refine dv_congr (fun i hi => ?_) fun _ _ => rfl
  rw [mulL, grid_get _ hi hk, dv_comm]
/-- turned, a product is the turned ones', the other way round -/
theorem turn_mul (m n q : Nat) (xs ys : List Int) : turnL m q (mulL p m n q xs ys) = mulL p q n m (turnL n q ys) (turnL m n xs) := by
  unfold turnL
  rw [mulL, mulL]
  refine grid_congr fun k i hk hi => ?_
  rw [grid_get _ hi hk, dv_comm]
  exact dv_congr (fun j hj => by rw [grid_get _ hk hj]) fun j hj => by rw [grid_get _ hj hi]
theorem turn_turn {m n : Nat} {xs : List Int} (h : xs.length = m * n) : turnL n m (turnL m n xs) = xs := by
  unfold turnL
  rw [grid_congr (N := fun i k => xs.getD (i * n + k) 0) fun i k hi hk => grid_get _ hk hi, grid_self h]
theorem one_mul {m n : Nat} {xs : List Int} (h : xs.length = m * n) (hr : Rng p xs) : mulL p m m n (oneL m) xs = xs := by
  unfold mulL
  refine Eq.trans (grid_congr fun i k hi hk => ?_) (grid_self h)
  rw [dv_congr (b := fun j => if j = i then 1 else 0) (fun j hj => by
    rw [oneL, grid_get _ hi hj]
    by_cases e : j = i
    · rw [if_pos e, if_pos e.symm]
    · rw [if_neg e, if_neg fun h => e h.symm]) (fun _ _ => rfl), dv_one _ hi]
  exact mod_small (hr.get (by rw [h]; exact at_lt hi hk)).1 (hr.get (by rw [h]; exact at_lt hi hk)).2
theorem mul_one {m n : Nat} {xs : List Int} (h : xs.length = m * n) (hr : Rng p xs) : mulL p m n n xs (oneL n) = xs := by
  unfold mulL
  refine Eq.trans (grid_congr fun i k hi hk => ?_) (grid_self h)
  rw [dv_comm, dv_congr (b := fun j => if j = k then 1 else 0) (fun j hj => by rw [oneL, grid_get _ hj hk]) (fun _ _ => rfl), dv_one _ hk]
  exact mod_small (hr.get (by rw [h]; exact at_lt hi hk)).1 (hr.get (by rw [h]; exact at_lt hi hk)).2
/-- y (M x) is (y M) x -/
theorem dot_mul (m n : Nat) (xs ys zs : List Int) : dv p m (fun i => ys.getD i 0) (fun i => (timesL p m n xs zs).getD i 0) = dv p n (fun k => (leftL p m n xs ys).getD k 0) fun k => zs.getD k 0 := by
  unfold timesL
  rw [dv_congr (fun _ _ => rfl) fun i hi => tab_get _ hi, dv_assoc]
  refine dv_congr (fun k hk => ?_) fun _ _ => rfl
  rw [leftL, tab_get _ hk, dv_comm]
/-- picked rows and columns of a product -/
theorem pick_mul {m n q : Nat} {xs ys : List Int} {rows cols : List Nat} (hr : ∀ i, i < rows.length → rows.getD i 0 < m) (hc : ∀ k, k < cols.length → cols.getD k 0 < q) :
    mulL p rows.length n cols.length (pickL n xs rows (List.range n)) (pickL q ys (List.range n) cols) = pickL q (mulL p m n q xs ys) rows cols := by
  have hl : (List.range n).length = n := List.length_range
  have hg : ∀ j, j < n → (List.range n).getD j 0 = j := fun j hj => by simp [List.getD, hj]
  unfold pickL
  rw [mulL, hl]
  refine grid_congr fun i k hi hk => ?_
  rw [mulL, grid_get _ (hr i hi) (hc k hk)]
  exact dv_congr (fun j hj => by rw [grid_get _ hi hj, hg j hj]) fun j hj => by rw [grid_get _ hj hk, hg j hj]
/-- a vector that is 1 at one place takes out a row .. -/
theorem left_unit {m n i : Nat} {xs us : List Int} (hr : Rng p xs) (hp : 2 ≤ p) (hi : i < m) (hu : ∀ j, j < m → us.getD j 0 = if j = i then 1 else 0) : leftL p m n xs us = tab n fun k => xs.getD (i * n + k) 0 := by
  unfold leftL
  refine tab_congr fun k hk => ?_
  rw [dv_comm, dv_congr (b := fun j => if j = i then 1 else 0) (fun j hj => hu j hj) (fun _ _ => rfl), dv_one _ hi]
  exact mod_small (hr.getD hp _).1 (hr.getD hp _).2
/-- .. or a column -/
theorem times_unit {m n k : Nat} {xs us : List Int} (hr : Rng p xs) (hp : 2 ≤ p) (hk : k < n) (hu : ∀ j, j < n → us.getD j 0 = if j = k then 1 else 0) : timesL p m n xs us = tab m fun i => xs.getD (i * n + k) 0 := by
  unfold timesL
  refine tab_congr fun i hi => ?_
  rw [dv_comm, dv_congr (b := fun j => if j = k then 1 else 0) (fun j hj => hu j hj) (fun _ _ => rfl), dv_one _ hk]
  exact mod_small (hr.getD hp _).1 (hr.getD hp _).2
end Go.Proofs.Ytnfnommiabalfaa
/- A matrix taken apart: what is left of a row, the rows that count, and what they make again (in plain Lean; nothing of a program). -/
namespace Go.Proofs.Ytnfnommiabalfaa
variable {p : Int}

theorem rng_app {xs ys : List Int} (h : Rng p xs) (h' : Rng p ys) : Rng p (xs ++ ys) := fun x hx => (List.mem_append.1 hx).elim (h x) (h' x)
/-- the multiple of a rest that is taken from a row -/
noncomputable def mulE (p : Int) (u : List Int) (a : Nat) (row : List Int) : Int := row.getD a 0 * minv p (u.getD a 0) % p
/-- what is left of a row -/
noncomputable def restE (p : Int) (n : Nat) (u : List Int) (a : Nat) (row : List Int) : List Int := tab n fun j => (row.getD j 0 - mulE p u a row * u.getD j 0 % p) % p
/-- the multiples and the rest, of the first k rests -/
noncomputable def elimE (p : Int) (n : Nat) (U : List (List Int)) (cols : List Nat) (row : List Int) : Nat → List Int × List Int
  | 0 => ([], row)
  | k + 1 => ((elimE p n U cols row k).1 ++ [mulE p (U.getD k []) (cols.getD k 0) (elimE p n U cols row k).2], restE p n (U.getD k []) (cols.getD k 0) (elimE p n U cols row k).2)
/-- the first place whose number isn't 0; the length, if all are -/
def leadE (l : List Int) : Nat := l.findIdx fun y => y != 0
theorem leadE_le (l : List Int) : leadE l ≤ l.length := List.findIdx_le_length
theorem leadE_zero {l : List Int} {j : Nat} (h : j < leadE l) : l.getD j 0 = 0 := by
  have hj : j < l.length := Nat.lt_of_lt_of_le h (leadE_le l)
  have := List.not_of_lt_findIdx h
  simp at this
  simp [List.getD, hj, this]
theorem leadE_ne {l : List Int} (h : leadE l < l.length) : l.getD (leadE l) 0 ≠ 0 := by
  unfold leadE at h ⊢
  have := List.findIdx_getElem (w := h)
  simp at this
  simpa [List.getD, h] using this
theorem leadE_eq {l : List Int} {k : Nat} (hk : k < l.length) (h : l.getD k 0 ≠ 0) (hz : ∀ j, j < k → l.getD j 0 = 0) : leadE l = k := by
  rcases Nat.lt_trichotomy (leadE l) k with c | c | c
  · exact absurd (hz _ c) (leadE_ne (Nat.lt_trans c hk))
  · exact c
  · exact absurd (leadE_zero c) h
theorem leadE_all {l : List Int} (hz : ∀ j, j < l.length → l.getD j 0 = 0) : leadE l = l.length := by
  rcases Nat.lt_or_ge (leadE l) l.length with c | c
  · exact absurd (hz _ c) (leadE_ne c)
  · exact Nat.le_antisymm (leadE_le l) c
/-- a matrix, as far as it is taken apart -/
structure ElE where
  C : List (List Int)
  rows : List Nat
  cols : List Nat
  U : List (List Int)
def ElE.nil : ElE := ⟨[], [], [], []⟩
/-- a row more; none: the number in its column has no inverse -/
noncomputable def stepE (p : Int) (n : Nat) (st : ElE) (i : Nat) (row : List Int) : Option ElE :=
  let e := elimE p n st.U st.cols row st.U.length
  if leadE e.2 < n then
    if unitB p (e.2.getD (leadE e.2) 0) = true then some ⟨st.C ++ [e.1 ++ [1]], st.rows ++ [i], st.cols ++ [leadE e.2], st.U ++ [e.2]⟩ else none
  else some { st with C := st.C ++ [e.1] }
noncomputable def takeE (p : Int) (n : Nat) (R : Nat → List Int) : Nat → Option ElE
  | 0 => some .nil
  | i + 1 => (takeE p n R i).bind fun st => stepE p n st i (R i)

/-- what holds of it -/
structure ElOk (p : Int) (n : Nat) (R : Nat → List Int) (i : Nat) (st : ElE) : Prop where
  lc : st.C.length = i
  lr : st.rows.length = st.U.length
  lk : st.cols.length = st.U.length
  row : ∀ k, k < st.U.length → (st.U.getD k []).length = n ∧ Rng p (st.U.getD k []) ∧ st.cols.getD k 0 < n ∧ unitB p ((st.U.getD k []).getD (st.cols.getD k 0) 0) = true ∧ (∀ j, j < st.cols.getD k 0 → (st.U.getD k []).getD j 0 = 0) ∧ (st.U.getD k []).getD (st.cols.getD k 0) 0 ≠ 0
  zero : ∀ k j, j < k → k < st.U.length → (st.U.getD k []).getD (st.cols.getD j 0) 0 = 0
  inc : ∀ j k, j < k → k < st.rows.length → st.rows.getD j 0 < st.rows.getD k 0
  low : ∀ k, k < st.rows.length → st.rows.getD k 0 < i
  cl : ∀ k, k < i → (st.C.getD k []).length ≤ st.U.length ∧ Rng p (st.C.getD k [])
  made : ∀ k, k < i → ∀ j, j < n → (R k).getD j 0 % p = (sm (st.C.getD k []).length fun t => (st.C.getD k []).getD t 0 * (st.U.getD t []).getD j 0) % p
  one : ∀ t, t < st.rows.length → (st.C.getD (st.rows.getD t 0) []).length = t + 1 ∧ (st.C.getD (st.rows.getD t 0) []).getD t 0 = 1

theorem elimE_ok {n r : Nat} {U : List (List Int)} {cols : List Nat} {row : List Int} (hp : 2 ≤ p) (hl : row.length = n) (hr : Rng p row) (hU : U.length = r)
    (h1 : ∀ k, k < r → (U.getD k []).length = n ∧ Rng p (U.getD k []) ∧ cols.getD k 0 < n ∧ unitB p ((U.getD k []).getD (cols.getD k 0) 0) = true) (h2 : ∀ k j, j < k → k < r → (U.getD k []).getD (cols.getD j 0) 0 = 0) : ∀ k, k ≤ r →
    (elimE p n U cols row k).1.length = k ∧ Rng p (elimE p n U cols row k).1 ∧ (elimE p n U cols row k).2.length = n ∧ Rng p (elimE p n U cols row k).2 ∧
    (∀ j, j < n → row.getD j 0 % p = ((elimE p n U cols row k).2.getD j 0 + sm k fun t => (elimE p n U cols row k).1.getD t 0 * (U.getD t []).getD j 0) % p) ∧
    (∀ t, t < k → (elimE p n U cols row k).2.getD (cols.getD t 0) 0 = 0)
  | 0, _ => by
    refine ⟨rfl, Rng.nil, hl, hr, fun j _ => ?_, fun t h => absurd h (Nat.not_lt_zero _)⟩
    show _ = (row.getD j 0 + 0) % p
    rw [Int.add_zero]
  | k + 1, hk => by
    obtain ⟨a1, a2, a3, a4, a5, a6⟩ := elimE_ok hp hl hr hU h1 h2 k (by omega)
    obtain ⟨b1, b2, b3, b4⟩ := h1 k (by omega)
    obtain ⟨e, he⟩ : ∃ e, elimE p n U cols row k = e := ⟨_, rfl⟩
    obtain ⟨u, hu⟩ : ∃ u, U.getD k [] = u := ⟨_, rfl⟩
    obtain ⟨a, ha⟩ : ∃ a, cols.getD k 0 = a := ⟨_, rfl⟩
    have hE : elimE p n U cols row (k + 1) = (e.1 ++ [mulE p u a e.2], restE p n u a e.2) := by rw [elimE, he, hu, ha]
    rw [hE]
    rw [he] at a1 a2 a3 a4 a5 a6
    rw [ha] at b3; rw [hu, ha] at b4; rw [hu] at b1 b2
    have hx : 0 ≤ mulE p u a e.2 ∧ mulE p u a e.2 < p := mod_range _ hp
    have hrest : ∀ j, j < n → (restE p n u a e.2).getD j 0 = (e.2.getD j 0 - mulE p u a e.2 * u.getD j 0) % p := fun j hj => by
      rw [restE, tab_get _ hj, ms_r]
    refine ⟨by simp [a1], rng_app a2 (Rng.one hx.1 hx.2), tab_len _ _, tab_rng fun j _ => mod_range _ hp, fun j hj => ?_, fun t ht => ?_⟩
    · have e1 : (sm (k + 1) fun t => (e.1 ++ [mulE p u a e.2]).getD t 0 * (U.getD t []).getD j 0) = (sm k fun t => e.1.getD t 0 * (U.getD t []).getD j 0) + mulE p u a e.2 * u.getD j 0 := by
        show sm k _ + (e.1 ++ [mulE p u a e.2]).getD k 0 * (U.getD k []).getD j 0 = _
        rw [hu, sm_congr (g := fun t => e.1.getD t 0 * (U.getD t []).getD j 0) fun t ht => by
          congr 1
          simp [List.getD, List.getElem?_append, show t < e.1.length by omega]]
        congr 2
        simp [List.getD, a1]
      show row.getD j 0 % p = ((restE p n u a e.2).getD j 0 + sm (k + 1) fun t => (e.1 ++ [mulE p u a e.2]).getD t 0 * (U.getD t []).getD j 0) % p
      rw [e1, hrest j hj, ma_l, a5 j hj]
      congr 1
      grind
    · show (restE p n u a e.2).getD (cols.getD t 0) 0 = 0
      by_cases c : t = k
      · subst c
        rw [ha, hrest a b3]
        have hinv := unit_inv p (u.getD a 0) hp (b2.getD hp a).1 b4
        unfold mulE
        have h3 : (e.2.getD a 0 * minv p (u.getD a 0) % p * u.getD a 0) % p = e.2.getD a 0 % p := by
          rw [Int.mul_emod, Int.emod_emod, ← Int.mul_emod, Int.mul_assoc, Int.mul_comm (minv p _), Int.mul_emod, hinv, Int.mul_one, Int.emod_emod]
        rw [Int.sub_emod, h3]; simp
      · have hc : cols.getD t 0 < n := (h1 t (by omega)).2.2.1
        have hz := h2 k t (by omega) (by omega)
        rw [hu] at hz
        rw [hrest _ hc, a6 t (by omega), hz]; simp
theorem getD_app {α : Type} (l : List α) (x d : α) {k : Nat} (h : k < l.length) : (l ++ [x]).getD k d = l.getD k d := by simp [List.getD, List.getElem?_append, h]
theorem getD_end {α : Type} (l : List α) (x d : α) {k : Nat} (h : k = l.length) : (l ++ [x]).getD k d = x := by subst h; simp [List.getD]
theorem unit_zero (hp : 2 ≤ p) {a : Int} (h : unitB p a = true) : a ≠ 0 := by
  rintro rfl
  unfold unitB at h
  simp at h
  omega
theorem ElOk.step {n i : Nat} {R : Nat → List Int} {st st' : ElE} (hp : 2 ≤ p) (h : ElOk p n R i st) (hl : (R i).length = n) (hr : Rng p (R i)) (hs : stepE p n st i (R i) = some st') : ElOk p n R (i + 1) st' := by
  have hE := elimE_ok hp hl hr rfl (fun k hk => ⟨(h.row k hk).1, (h.row k hk).2.1, (h.row k hk).2.2.1, (h.row k hk).2.2.2.1⟩) h.zero st.U.length (Nat.le_refl _)
  obtain ⟨e, he⟩ : ∃ e, elimE p n st.U st.cols (R i) st.U.length = e := ⟨_, rfl⟩
  unfold stepE at hs
  rw [he] at hE hs
  obtain ⟨a1, a2, a3, a4, a5, a6⟩ := hE
  simp only at hs
  have hrl := h.lr; have hkl := h.lk; have hcl := h.lc
  by_cases hlt : leadE e.2 < n
  · rw [if_pos hlt] at hs
    by_cases hu : unitB p (e.2.getD (leadE e.2) 0) = true
    · rw [if_pos hu] at hs
      injection hs with hs
      subst hs
      refine ⟨by simp [h.lc], by simp [h.lr], by simp [h.lk], fun k hk => ?_, fun k j hj hk => ?_, fun j k hj hk => ?_, fun k hk => ?_, fun k hk => ?_, fun k hk j hj => ?_, fun t ht => ?_⟩
      · simp only [List.length_append, List.length_cons, List.length_nil] at hk
        by_cases c : k < st.U.length
        · show ((st.U ++ [e.2]).getD k []).length = n ∧ _
          simp only [getD_app st.U e.2 [] c, getD_app st.cols (leadE e.2) 0 (show k < st.cols.length by omega)]
          exact h.row k c
        · have ck : k = st.U.length := by omega
          simp only [getD_end st.U e.2 [] ck, getD_end st.cols (leadE e.2) 0 (show k = st.cols.length by omega)]
          exact ⟨a3, a4, hlt, hu, fun j hj => leadE_zero hj, unit_zero hp hu⟩
      · simp only [List.length_append, List.length_cons, List.length_nil] at hk
        by_cases c : k < st.U.length
        · simp only [getD_app st.U e.2 [] c, getD_app st.cols (leadE e.2) 0 (show j < st.cols.length by omega)]
          exact h.zero k j hj c
        · have ck : k = st.U.length := by omega
          simp only [getD_end st.U e.2 [] ck, getD_app st.cols (leadE e.2) 0 (show j < st.cols.length by omega)]
          exact a6 j (by omega)
      · simp only [List.length_append, List.length_cons, List.length_nil] at hk
        by_cases c : k < st.rows.length
        · simp only [getD_app st.rows i 0 c, getD_app st.rows i 0 (show j < st.rows.length by omega)]
          exact h.inc j k hj c
        · simp only [getD_end st.rows i 0 (show k = st.rows.length by omega), getD_app st.rows i 0 (show j < st.rows.length by omega)]
          exact h.low j (by omega)
      · simp only [List.length_append, List.length_cons, List.length_nil] at hk
        by_cases c : k < st.rows.length
        · simp only [getD_app st.rows i 0 c]
          have := h.low k c; omega
        · simp only [getD_end st.rows i 0 (show k = st.rows.length by omega)]; omega
      · by_cases c : k < i
        · simp only [getD_app st.C (e.1 ++ [1]) [] (show k < st.C.length by omega), List.length_append, List.length_cons, List.length_nil]
          have := h.cl k c
          exact ⟨by omega, this.2⟩
        · simp only [getD_end st.C (e.1 ++ [1]) [] (show k = st.C.length by omega), List.length_append, List.length_cons, List.length_nil]
          exact ⟨by omega, rng_app a2 (Rng.one (by omega) (by omega))⟩
      · by_cases c : k < i
        · simp only [getD_app st.C (e.1 ++ [1]) [] (show k < st.C.length by omega)]
          rw [h.made k c j hj, sm_congr fun t ht => ?_]
          have := (h.cl k c).1
          simp only [getD_app st.U e.2 [] (show t < st.U.length by omega)]
        · have ck : k = i := by omega
          subst ck
          simp only [getD_end st.C (e.1 ++ [1]) [] (show k = st.C.length by omega), List.length_append, List.length_cons, List.length_nil, a1]
          show _ = (sm st.U.length _ + (e.1 ++ [1]).getD st.U.length 0 * ((st.U ++ [e.2]).getD st.U.length []).getD j 0) % p
          rw [getD_end e.1 1 0 a1.symm, getD_end st.U e.2 [] rfl, a5 j hj, Int.one_mul, Int.add_comm, sm_congr fun t ht => ?_]
          simp only [getD_app e.1 1 0 (show t < e.1.length by omega), getD_app st.U e.2 [] ht]
      · simp only [List.length_append, List.length_cons, List.length_nil] at ht
        by_cases c : t < st.rows.length
        · have := h.low t c
          simp only [getD_app st.rows i 0 c, getD_app st.C (e.1 ++ [1]) [] (show st.rows.getD t 0 < st.C.length by omega)]
          exact h.one t c
        · have ct : t = st.rows.length := by omega
          simp only [getD_end st.rows i 0 ct, getD_end st.C (e.1 ++ [1]) [] (show i = st.C.length by omega), List.length_append, List.length_cons, List.length_nil]
          exact ⟨by omega, getD_end e.1 1 0 (by omega)⟩
    · rw [if_neg hu] at hs; cases hs
  · rw [if_neg hlt] at hs
    injection hs with hs
    subst hs
    refine ⟨by simp [h.lc], h.lr, h.lk, h.row, h.zero, h.inc, fun k hk => Nat.lt_succ_of_lt (h.low k hk), fun k hk => ?_, fun k hk j hj => ?_, fun t ht => ?_⟩
    · by_cases c : k < i
      · simp only [getD_app st.C e.1 [] (show k < st.C.length by omega)]; exact h.cl k c
      · simp only [getD_end st.C e.1 [] (show k = st.C.length by omega)]; exact ⟨by omega, a2⟩
    · by_cases c : k < i
      · simp only [getD_app st.C e.1 [] (show k < st.C.length by omega)]; exact h.made k c j hj
      · have ck : k = i := by omega
        subst ck
        simp only [getD_end st.C e.1 [] (show k = st.C.length by omega), a1]
        have hz : e.2.getD j 0 = 0 := leadE_zero (show j < leadE e.2 by have := leadE_le e.2; omega)
        rw [a5 j hj, hz, Int.zero_add]
    · have := h.low t ht
      simp only [getD_app st.C e.1 [] (show st.rows.getD t 0 < st.C.length by omega)]
      exact h.one t ht
theorem ElOk.nil (n : Nat) (R : Nat → List Int) : ElOk p n R 0 .nil :=
  ⟨rfl, rfl, rfl, fun _ h => absurd h (Nat.not_lt_zero _), fun _ _ _ h => absurd h (Nat.not_lt_zero _), fun _ _ _ h => absurd h (Nat.not_lt_zero _), fun _ h => absurd h (Nat.not_lt_zero _), fun _ h => absurd h (Nat.not_lt_zero _), fun _ h => absurd h (Nat.not_lt_zero _), fun _ h => absurd h (Nat.not_lt_zero _)⟩
theorem takeE_ok {n : Nat} {R : Nat → List Int} (hp : 2 ≤ p) : ∀ (m : Nat) {st : ElE}, (∀ i, i < m → (R i).length = n ∧ Rng p (R i)) → takeE p n R m = some st → ElOk p n R m st
  | 0, st, _, h => by
    simp only [takeE] at h
    injection h with h
    subst h
    exact ElOk.nil n R
  | m + 1, st, hR, h => by
    simp only [takeE] at h
    cases h1 : takeE p n R m with
    | none => rw [h1] at h; cases h
    | some s1 =>
      rw [h1] at h
      exact (takeE_ok hp m (fun i hi => hR i (by omega)) h1).step hp (hR m (by omega)).1 (hR m (by omega)).2 h
/-- over a field nothing is without an inverse -/
theorem takeE_some {n : Nat} {R : Nat → List Int} (hp : 2 ≤ p) (hf : Fld p) : ∀ m : Nat, (∀ i, i < m → (R i).length = n ∧ Rng p (R i)) → ∃ st, takeE p n R m = some st
  | 0, _ => ⟨_, rfl⟩
  | m + 1, hR => by
    obtain ⟨s1, h1⟩ := takeE_some hp hf m fun i hi => hR i (by omega)
    have ok := takeE_ok hp m (fun i hi => hR i (by omega)) h1
    simp only [takeE, h1, Option.bind_some]
    have hE := elimE_ok hp (hR m (by omega)).1 (hR m (by omega)).2 rfl (fun k hk => ⟨(ok.row k hk).1, (ok.row k hk).2.1, (ok.row k hk).2.2.1, (ok.row k hk).2.2.2.1⟩) ok.zero s1.U.length (Nat.le_refl _)
    obtain ⟨e, he⟩ : ∃ e, elimE p n s1.U s1.cols (R m) s1.U.length = e := ⟨_, rfl⟩
    unfold stepE
    rw [he] at hE ⊢
    obtain ⟨_, _, a3, a4, _, _⟩ := hE
    simp only
    by_cases hlt : leadE e.2 < n
    · rw [if_pos hlt]
      have h0 := leadE_ne (l := e.2) (by omega)
      have h2 := a4.getD hp (leadE e.2)
      rw [if_pos (hf _ (by omega) h2.2)]
      exact ⟨_, rfl⟩
    · rw [if_neg hlt]; exact ⟨_, rfl⟩
end Go.Proofs.Ytnfnommiabalfaa
/- What taking a matrix apart tells over a field: its rows' span, its determinant, turned, products (in plain Lean; nothing of a program). -/
namespace Go.Proofs.Ytnfnommiabalfaa
variable {p : Int}

theorem Fld.has (hf : Fld p) (hp : 2 ≤ p) : HasInv p := ⟨hp, fun a ha => by
  have h0 := Int.emod_nonneg a (show p ≠ 0 by omega)
  have h1 := Int.emod_lt_of_pos a (show 0 < p by omega)
  have h2 := unit_inv p (a % p) hp h0 (hf (a % p) (by omega) h1)
  exact ⟨minv p (a % p), by rw [Int.mul_emod, Int.emod_emod] at h2; rw [Int.mul_emod]; exact h2⟩⟩
/-- a row of numbers as a row -/
def lf (xs : List Int) : RowF := fun j => xs.getD j 0
theorem sm_long {f : Nat → Int} {m n : Nat} (h : m ≤ n) (hz : ∀ k, m ≤ k → k < n → f k = 0) : sm n f = sm m f := by
  have := sm_piece (f := f) 0 m (n := n) (by omega) (fun i hi => absurd hi (Nat.not_lt_zero _)) fun i h1 h2 => hz i (by omega) h2
  rw [this]
  exact sm_congr fun k _ => by rw [Nat.zero_add]
variable {n m : Nat} {R : Nat → List Int} {st : ElE}
theorem ElOk.full (h : ElOk p n R m st) {i : Nat} (hi : i < m) {j : Nat} (hj : j < n) : (R i).getD j 0 % p = (sm st.U.length fun t => (st.C.getD i []).getD t 0 * (st.U.getD t []).getD j 0) % p := by
  rw [h.made i hi j hj, sm_long (h.cl i hi).1 fun k h1 _ => by rw [getD_over h1, Int.zero_mul]]
theorem ElOk.ech (h : ElOk p n R m st) : Ech p n st.U.length (fun k => lf (st.U.getD k [])) fun k => st.cols.getD k 0 :=
  ⟨fun i hi => (h.row i hi).2.2.1, fun i hi => by
    obtain ⟨_, b2, b3, _, _, b6⟩ := h.row i hi
    have := b2.get (k := st.cols.getD i 0) (by omega)
    show (st.U.getD i []).getD (st.cols.getD i 0) 0 % p ≠ 0
    rw [Int.emod_eq_of_lt this.1 this.2]; exact b6, fun i k hk hi => by
    show (st.U.getD i []).getD (st.cols.getD k 0) 0 % p = 0
    rw [h.zero i k hk hi]; simp⟩
theorem ElOk.bas (hp : HasInv p) (h : ElOk p n R m st) : Bas p n m st.U.length (fun i => lf (R i)) fun k => lf (st.U.getD k []) := by
  refine ⟨h.ech.ind hp, fun i hi => ⟨fun t => (st.C.getD i []).getD t 0, fun j hj => h.full hi hj⟩, fun k => ?_⟩
  induction k using Nat.strongRecOn with
  | ind k ih =>
    intro hk
    have hkr : k < st.rows.length := by rw [h.lr]; exact hk
    obtain ⟨c1, c2⟩ := h.one k hkr
    have hlow := h.low k hkr
    obtain ⟨i, hi⟩ : ∃ i, st.rows.getD k 0 = i := ⟨_, rfl⟩
    rw [hi] at c1 c2 hlow
    have hs := Comb.sum (p := p) (n := n) (r := m) (m := k + 1) (u := fun i => lf (R i)) (w := fun t => if t = k then lf (R i) else lf (st.U.getD t [])) (fun t ht => by
      by_cases e : t = k
      · simp only [if_pos e]; exact Comb.one _ hlow
      · simp only [if_neg e]; exact ih t (by omega) (by omega)) fun t => if t = k then 1 else - (st.C.getD i []).getD t 0
    refine hs.congr fun j hj => ?_
    have hm := h.made i hlow j hj
    rw [c1] at hm
    show (st.U.getD k []).getD j 0 % p = (sm k _ + (if k = k then 1 else _) * (if k = k then lf (R i) else _) j) % p
    rw [if_pos rfl, if_pos rfl, Int.one_mul, sm_congr (g := fun t => - ((st.C.getD i []).getD t 0 * (st.U.getD t []).getD j 0)) fun t ht => by
      rw [if_neg (by omega), if_neg (by omega)]; show - _ * (st.U.getD t []).getD j 0 = _; grind, sm_neg]
    show _ = (- _ + (R i).getD j 0) % p
    have hm2 : (R i).getD j 0 % p = ((sm k fun t => (st.C.getD i []).getD t 0 * (st.U.getD t []).getD j 0) + (st.U.getD k []).getD j 0) % p := by
      rw [hm]
      show (sm k _ + (st.C.getD i []).getD k 0 * _) % p = _
      rw [c2, Int.one_mul]
    rw [Int.add_emod, hm2, ← Int.add_emod]
    congr 1
    omega
/-- rows that aren't free of one another -/
theorem Alt.dep {f : List RowF → Int} (h : Alt n f) (hp : HasInv p) {ms : List RowF} (lm : ms.length = n) {x : Nat → Int} {i0 : Nat} (h0 : i0 < n) (hx : x i0 % p ≠ 0) (hz : ∀ j, j < n → (sm n fun i => x i * rwF ms i j) % p = 0) : f ms % p = 0 := by
  have hl : ∀ y : RowF, (ms.take i0 ++ y :: ms.drop (i0 + 1)).length = n := fun y => by simp; omega
  have e0 : ms = ms.take i0 ++ rwF ms i0 :: ms.drop (i0 + 1) := by rw [← rwF_drop (by omega), List.take_append_drop]
  have h1 := h.sum (ms.take i0) (fun _ => 0) (ms.drop (i0 + 1)) (hl _) x (fun i => rwF ms i) n
  have h2 := h.mod (p := p) (ms.take i0) (fun j => 0 + sm n fun i => x i * rwF ms i j) (fun _ => 0) (ms.drop (i0 + 1)) (hl _) fun j hj => by rw [Int.zero_add, hz j hj]; simp
  have h3 := h.zero (hl fun _ => 0)
  rw [h1, h3, Int.zero_add, sm_congr (g := fun i => if i = i0 then x i0 * f ms else 0) fun i hi => ?_, sm_single (fun _ => x i0 * f ms) h0] at h2
  · refine mz_cancel hp hx ?_
    rw [Int.mul_comm, h2]; simp
  · rcases Nat.lt_trichotomy i i0 with c | c | c
    · rw [if_neg (by omega)]
      have hm : rwF ms i ∈ ms.take i0 := by
        have e : rwF ms i = rwF (ms.take i0) i := by simp [rwF, List.getD, c]
        rw [e]; exact rwF_mem (by simp; omega)
      rw [h.memL hm (hl _), Int.mul_zero]
    · subst c; rw [if_pos rfl, ← e0]
    · rw [if_neg (by omega)]
      have hm : rwF ms i ∈ ms.drop (i0 + 1) := by
        have e : rwF ms i = rwF (ms.drop (i0 + 1)) (i - (i0 + 1)) := by simp [rwF, List.getD, show i0 + 1 + (i - (i0 + 1)) = i by omega]
        rw [e]; exact rwF_mem (by simp; omega)
      rw [h.memR hm (hl _), Int.mul_zero]
/-- the rows of a matrix -/
def rowsF (n : Nat) (R : Nat → List Int) : List RowF := (List.range n).map fun i => lf (R i)
theorem rowsF_get {R : Nat → List Int} {i : Nat} (h : i < n) : rwF (rowsF n R) i = lf (R i) := by simp [rowsF, rwF, List.getD, h]
theorem rowsF_len (R : Nat → List Int) : (rowsF n R).length = n := by simp [rowsF]
/-- increasing numbers below a bound, as many as that -/
theorem inc_id {l : List Nat} (hl : l.length = n) (hi : ∀ j k, j < k → k < l.length → l.getD j 0 < l.getD k 0) (hb : ∀ k, k < l.length → l.getD k 0 < n) : ∀ k, k < n → l.getD k 0 = k := by
  have h1 : ∀ k, k < n → k ≤ l.getD k 0 := by
    intro k
    induction k with
    | zero => intro _; omega
    | succ k ih => intro hk; have := ih (by omega); have := hi k (k + 1) (by omega) (by omega); omega
  have h2 : ∀ d k, k + d + 1 = n → l.getD k 0 ≤ k := by
    intro d
    induction d with
    | zero => intro k hk; have := hb k (by omega); omega
    | succ d ih => intro k hk; have := ih (k + 1) (by omega); have := hi k (k + 1) (by omega) (by omega); omega
  intro k hk
  have := h1 k hk
  have := h2 (n - k - 1) k (by omega)
  omega
/-- the columns of the rests, as an order -/
def colsZ (st : ElE) : List Int := st.cols.map fun k : Nat => (k : Int)
theorem colsZ_get (st : ElE) (k : Nat) : ((colsZ st).getD k 0).toNat = st.cols.getD k 0 := by
  unfold colsZ
  simp only [List.getD, List.getElem?_map]
  cases st.cols[k]? <;> simp
theorem ElOk.cols_ord (h : ElOk p n R m st) (hr : st.U.length = n) : Ord n (colsZ st) := by
  have hl : (colsZ st).length = n := by simp [colsZ, h.lk, hr]
  have hn : (colsZ st).Nodup := by
    unfold colsZ List.Nodup
    rw [List.pairwise_map, List.pairwise_iff_getElem]
    intro i k hi hk hik e
    have e' : st.cols.getD i 0 = st.cols.getD k 0 := by simp only [List.getD, List.getElem?_eq_getElem hi, List.getElem?_eq_getElem hk, Option.getD_some]; omega
    have := h.ech.inj (by have := h.lk; omega) (by have := h.lk; omega) e'
    omega
  refine Ord.of_perm (nodup_sub hn (fun x hx => ?_) (by rw [hl, upL_len]; omega)).symm
  obtain ⟨c, hc, rfl⟩ := List.mem_map.1 hx
  obtain ⟨k, hk, rfl⟩ := List.getElem_of_mem hc
  have := (h.row k (by have := h.lk; omega)).2.2.1
  rw [List.getD, List.getElem?_eq_getElem hk] at this
  exact upL_mem.2 ⟨by omega, by simpa using this⟩
/-- what the parts tell of whatever is linear in each row and 0 where two are alike -/
def detE (n : Nat) (st : ElE) : Int := if st.U.length < n then 0 else prN n (fun k => (st.U.getD k []).getD (st.cols.getD k 0) 0) * sgnL (colsZ st)
theorem ElOk.le (h : ElOk p n R m st) : st.U.length ≤ m := by
  have h1 : ∀ k, k < st.rows.length → k ≤ st.rows.getD k 0 := by
    intro k
    induction k with
    | zero => intro _; omega
    | succ k ih => intro hk; have := ih (by omega); have := h.inc k (k + 1) (by omega) hk; omega
  have hlr := h.lr
  rcases Nat.eq_zero_or_pos st.U.length with h0 | h0
  · omega
  · have h2 := h1 (st.rows.length - 1) (by omega)
    have h3 := h.low (st.rows.length - 1) (by omega)
    omega
theorem ElOk.alt {f : List RowF → Int} (hf : Alt n f) (hp : HasInv p) (h : ElOk p n R n st) : f (rowsF n R) % p = detE n st * f (idF n) % p := by
  unfold detE
  by_cases hr : st.U.length < n
  · rw [if_pos hr, Int.zero_mul, Int.zero_emod]
    obtain ⟨x, ⟨i0, h0, hx⟩, hz⟩ := nontriv hp st.U.length n hr fun i k => (st.C.getD i []).getD k 0
    refine hf.dep hp (rowsF_len R) h0 hx fun j hj => ?_
    rw [sm_mod (g := fun i => x i * sm st.U.length fun t => (st.C.getD i []).getD t 0 * (st.U.getD t []).getD j 0) fun i hi => by
      rw [rowsF_get hi, Int.mul_emod]
      show _ * ((R i).getD j 0 % p) % p = _
      rw [h.full hi hj, ← Int.mul_emod]]
    have e : (sm n fun i => x i * sm st.U.length fun t => (st.C.getD i []).getD t 0 * (st.U.getD t []).getD j 0) = sm st.U.length fun t => (sm n fun i => x i * (st.C.getD i []).getD t 0) * (st.U.getD t []).getD j 0 := by
      rw [sm_congr (g := fun i => sm st.U.length fun t => x i * (st.C.getD i []).getD t 0 * (st.U.getD t []).getD j 0) fun i _ => by rw [← sm_mul]; exact sm_congr fun t _ => by grind, sm_comm]
      exact sm_congr fun t _ => by rw [sm_mul_r]
    rw [e]
    exact sm_mz fun t ht => mz_mul' (hz t ht) _
  · rw [if_neg hr]
    have hrn : st.U.length = n := by have := h.le; omega
    have hrow := inc_id (by rw [h.lr]; exact hrn) h.inc h.low
    let us : List RowF := (List.range n).map fun k => lf (st.U.getD k [])
    have hus : ∀ k, k < n → rwF us k = lf (st.U.getD k []) := fun k hk => by simp [us, rwF, List.getD, hk]
    have lu : us.length = n := by simp [us]
    have h1 := hf.tri (p := p) (rowsF_len R) lu (fun i t => (st.C.getD i []).getD t 0) fun i hi j hj => by
      rw [rowsF_get hi, hus i hi]
      obtain ⟨c1, c2⟩ := h.one i (by rw [h.lr, hrn]; exact hi)
      rw [hrow i hi] at c1 c2
      show (R i).getD j 0 % p = _
      rw [h.made i hi j hj, c1]
      show (sm i _ + (st.C.getD i []).getD i 0 * (st.U.getD i []).getD j 0) % p = _
      rw [c2, Int.one_mul, Int.add_comm]
      congr 2
      exact sm_congr fun t ht => by rw [hus t (by omega)]; rfl
    have hord := h.cols_ord hrn
    have h2 := hf.own lu (fun k => st.cols.getD k 0) (fun i k hi hk e => h.ech.inj (by omega) (by omega) e) (fun j hj => by
        obtain ⟨k, hk, e⟩ := hord.find hj
        refine ⟨k, hk, ?_⟩
        have := colsZ_get st k
        omega) fun i k hk hi => by
      rw [hus i hi]; exact h.zero i k hk (by omega)
    have h3 := hf.order hord
    have e3 : ((List.range n).map fun i => eR ((colsZ st).getD i 0).toNat) = (List.range n).map fun i => eR (st.cols.getD i 0) := List.map_congr_left fun i _ => by rw [colsZ_get]
    rw [e3] at h3
    rw [h1, h2, h3]
    have e4 : prN n (fun i => rwF us i (st.cols.getD i 0)) = prN n fun k => (st.U.getD k []).getD (st.cols.getD k 0) 0 := by
      have : ∀ k, k ≤ n → prN k (fun i => rwF us i (st.cols.getD i 0)) = prN k fun k => (st.U.getD k []).getD (st.cols.getD k 0) 0 := by
        intro k
        induction k with
        | zero => intro _; rfl
        | succ k ih => intro hk; show prN k _ * rwF us k (st.cols.getD k 0) = prN k _ * (st.U.getD k []).getD (st.cols.getD k 0) 0; rw [ih (by omega), hus k (by omega)]; rfl
      exact this n (Nat.le_refl _)
    rw [e4, Int.mul_assoc]
/-- the determinant, and the turned one's -/
theorem ElOk.det (hp : HasInv p) (h : ElOk p n R n st) : detN n (rowsF n R) % p = detE n st % p := by
  have := h.alt (detN_alt n) hp
  rwa [det_id, Int.mul_one] at this
theorem ElOk.det_turn (hp : HasInv p) (h : ElOk p n R n st) : detT n (rowsF n R) % p = detE n st % p := by
  have := h.alt (detT_alt n) hp
  rwa [detT_id, Int.mul_one] at this
/-- a product's determinant -/
def mulR (n : Nat) (B : Nat → RowF) (x : RowF) : RowF := fun j => sm n fun l => x l * B l j
theorem detM_alt (n : Nat) (B : Nat → RowF) : Alt n fun l => detN n (l.map (mulR n B)) := by
  refine ⟨fun pre x y post hl hxy => ?_, fun pre x y post a b hl => ?_, fun pre x post hl => ?_⟩
  · simp only [List.map_append, List.map_cons]
    refine detN_ext n _ _ _ _ (by simpa using hl) fun j _ => ?_
    exact sm_congr fun l hl => by rw [hxy l hl]
  · simp only [List.map_append, List.map_cons]
    have e : mulR n B (fun j => a * x j + b * y j) = fun j => a * mulR n B x j + b * mulR n B y j := by
      funext j
      unfold mulR
      rw [← sm_mul, ← sm_mul, ← sm_add]
      exact sm_congr fun l _ => by grind
    rw [e]
    exact detN_lin n _ _ _ _ a b (by simpa using hl)
  · simp only [List.map_append, List.map_cons]
    exact detN_adj n _ _ _ (by simpa using hl)
theorem det_mul (hp : HasInv p) {A B : Nat → List Int} {sa : ElE} (h : ElOk p n A n sa) : detN n ((rowsF n A).map (mulR n fun l => lf (B l))) % p = detE n sa * detN n (rowsF n B) % p := by
  have h1 := h.alt (detM_alt n fun l => lf (B l)) hp
  have e : (idF n).map (mulR n fun l => lf (B l)) = (List.range n).map fun i => mulR n (fun l => lf (B l)) (eR i) := by simp [idF, Function.comp_def]
  have h2 : detN n ((idF n).map (mulR n fun l => lf (B l))) = detN n (rowsF n B) := by
    rw [e]
    exact detF_congr n fun i j hi hj => by
      show sm n (fun l => eR i l * lf (B l) j) = lf (B i) j
      rw [sm_congr (g := fun l => if l = i then lf (B i) j else 0) fun l _ => by
        unfold eR
        by_cases e : l = i
        · subst e; simp
        · simp [e], sm_single (fun _ => lf (B i) j) hi]
  rw [h2] at h1
  exact h1
end Go.Proofs.Ytnfnommiabalfaa
/- A claim that has the shape, and makes the matrix, is what it is taken apart into (in plain Lean; nothing of a program). -/
namespace Go.Proofs.Ytnfnommiabalfaa
variable {p : Int} {n m r : Nat}

/-- a claim of r rows has the shape -/
structure Shp (p : Int) (m n r : Nat) (C : List (List Int)) (rows cols : List Nat) (U : List (List Int)) : Prop where
  lr : rows.length = r
  lk : cols.length = r
  lu : U.length = r
  lc : C.length = m
  inc : ∀ j k, j < k → k < r → rows.getD j 0 < rows.getD k 0
  low : ∀ k, k < r → rows.getD k 0 < m
  row : ∀ k, k < r → (U.getD k []).length = n ∧ Rng p (U.getD k []) ∧ cols.getD k 0 < n ∧ (U.getD k []).getD (cols.getD k 0) 0 ≠ 0 ∧ ∀ j, j < cols.getD k 0 → (U.getD k []).getD j 0 = 0
  zero : ∀ k j, j < k → k < r → (U.getD k []).getD (cols.getD j 0) 0 = 0
  crow : ∀ i, i < m → (C.getD i []).length = r ∧ Rng p (C.getD i [])
  one : ∀ k, k < r → (C.getD (rows.getD k 0) []).getD k 0 = 1
  ahead : ∀ k i, k < r → i < rows.getD k 0 → (C.getD i []).getD k 0 = 0

theorem getD_take {α : Type} (l : List α) (d : α) {k q : Nat} (h : k < q) : (l.take q).getD k d = l.getD k d := by simp [List.getD, h]
theorem take_put {α : Type} (l : List α) (d : α) {q : Nat} (h : q < l.length) : l.take q ++ [l.getD q d] = l.take (q + 1) := by
  rw [List.take_succ_eq_append_getElem h]
  simp [List.getD, h]
theorem elimE_take (p : Int) (n : Nat) (U : List (List Int)) (cols : List Nat) (row : List Int) (q : Nat) : ∀ k, k ≤ q → elimE p n (U.take q) (cols.take q) row k = elimE p n U cols row k
  | 0, _ => rfl
  | k + 1, h => by
    rw [elimE, elimE, elimE_take p n U cols row q k (by omega), getD_take U [] (show k < q by omega), getD_take cols 0 (show k < q by omega)]
/-- what is left of a sum -/
def restF (r k : Nat) (c : List Int) (U : List (List Int)) (j : Nat) : Int := sm r fun t => if t < k then 0 else c.getD t 0 * (U.getD t []).getD j 0
theorem restF_step {k : Nat} (hk : k < r) (c : List Int) (U : List (List Int)) (j : Nat) : restF r k c U j = restF r (k + 1) c U j + c.getD k 0 * (U.getD k []).getD j 0 := by
  unfold restF
  rw [← sm_single (fun t => c.getD t 0 * (U.getD t []).getD j 0) hk, ← sm_add]
  refine sm_congr fun t _ => ?_
  by_cases h1 : t < k
  · rw [if_pos h1, if_pos (show t < k + 1 by omega), if_neg (show ¬ t = k by omega)]; rfl
  · rw [if_neg h1]
    by_cases h2 : t = k
    · rw [if_pos (show t < k + 1 by omega), if_pos h2, Int.zero_add]
    · rw [if_neg (show ¬ t < k + 1 by omega), if_neg h2, Int.add_zero]
theorem elim_is {C : List (List Int)} {rows cols : List Nat} {U : List (List Int)} (hp : 2 ≤ p) (hf : Fld p) (h : Shp p m n r C rows cols U) {row c : List Int} (hc : c.length = r) (hcr : Rng p c) (hl : row.length = n)
    (hm : ∀ j, j < n → row.getD j 0 = restF r 0 c U j % p) : ∀ k, k ≤ r → elimE p n U cols row k = (c.take k, tab n fun j => restF r k c U j % p)
  | 0, _ => by
    show ([], row) = _
    rw [tab_of hl hm]; rfl
  | k + 1, hk => by
    rw [elimE, elim_is hp hf h hc hcr hl hm k (by omega)]
    obtain ⟨b1, b2, b3, b4, b5⟩ := h.row k (by omega)
    obtain ⟨u, hu⟩ : ∃ u, U.getD k [] = u := ⟨_, rfl⟩
    obtain ⟨a, ha⟩ : ∃ a, cols.getD k 0 = a := ⟨_, rfl⟩
    rw [hu] at b1 b2 b4 b5; rw [ha] at b3 b4 b5
    have hua := b2.get (k := a) (by omega)
    have hck := hcr.get (k := k) (by omega)
    have hinv := unit_inv p (u.getD a 0) hp hua.1 (hf (u.getD a 0) (by omega) hua.2)
    have hz : restF r (k + 1) c U a = 0 := sm_zero fun t ht => by
      by_cases h1 : t < k + 1
      · rw [if_pos h1]
      · rw [if_neg h1, ← ha, h.zero t k (by omega) ht, Int.mul_zero]
    have hmul : mulE p u a (tab n fun j => restF r k c U j % p) = c.getD k 0 := by
      unfold mulE
      rw [tab_get _ b3, restF_step (by omega) c U a, hz, Int.zero_add, hu, Int.mul_emod, Int.emod_emod, ← Int.mul_emod, Int.mul_assoc, Int.mul_emod, hinv, Int.mul_one, Int.emod_emod]
      exact Int.emod_eq_of_lt hck.1 hck.2
    show (c.take k ++ [mulE p (U.getD k []) (cols.getD k 0) _], restE p n (U.getD k []) (cols.getD k 0) _) = _
    rw [hu, ha, hmul, take_put c 0 (by omega)]
    congr 1
    unfold restE
    rw [hmul]
    refine tab_congr fun j hj => ?_
    rw [tab_get _ hj, ms_r, ms_l, restF_step (by omega) c U j, hu]
    congr 1
    omega
/-- taken apart as far as row i -/
theorem shp_take {C : List (List Int)} {rows cols : List Nat} {U : List (List Int)} {R : Nat → List Int} (hp : 2 ≤ p) (hf : Fld p) (h : Shp p m n r C rows cols U) (hR : ∀ i, i < m → (R i).length = n)
    (hm : ∀ i, i < m → ∀ j, j < n → (R i).getD j 0 = (sm r fun t => (C.getD i []).getD t 0 * (U.getD t []).getD j 0) % p) :
    ∀ i, i ≤ m → ∃ q D, takeE p n R i = some ⟨D, rows.take q, cols.take q, U.take q⟩ ∧ q ≤ r ∧ (∀ k, k < q → rows.getD k 0 < i) ∧ (∀ k, q ≤ k → k < r → i ≤ rows.getD k 0) ∧ D.length = i ∧
      ∀ k, k < i → (D.getD k []).length ≤ r ∧ ∀ t, (D.getD k []).getD t 0 = (C.getD k []).getD t 0
  | 0, _ => ⟨0, [], rfl, Nat.zero_le _, fun k hk => absurd hk (Nat.not_lt_zero _), fun _ _ _ => Nat.zero_le _, rfl, fun k hk => absurd hk (Nat.not_lt_zero _)⟩
  | i + 1, hi => by
    obtain ⟨q, D, e, hq, q1, q2, dl, dk⟩ := shp_take hp hf h hR hm i (by omega)
    obtain ⟨c, hc⟩ : ∃ c, C.getD i [] = c := ⟨_, rfl⟩
    obtain ⟨c1, c2⟩ := h.crow i (by omega)
    rw [hc] at c1 c2
    have hE := elim_is hp hf h c1 c2 (hR i (by omega)) (fun j hj => by
      rw [hm i (by omega) j hj, hc]
      unfold restF
      congr 1) q hq
    have hul : (U.take q).length = q := by rw [List.length_take, h.lu]; omega
    have hT : takeE p n R (i + 1) = stepE p n ⟨D, rows.take q, cols.take q, U.take q⟩ i (R i) := by
      show (takeE p n R i).bind _ = _
      rw [e]; rfl
    have hct : ∀ t, t < r → i < rows.getD t 0 → c.getD t 0 = 0 := fun t ht hlt => by rw [← hc]; exact h.ahead t i ht hlt
    rw [hT]
    unfold stepE
    simp only
    rw [hul, elimE_take p n U cols (R i) q q (Nat.le_refl _), hE]
    simp only
    by_cases hA : q < r ∧ rows.getD q 0 = i
    · obtain ⟨a1, a2⟩ := hA
      obtain ⟨b1, b2, b3, b4, b5⟩ := h.row q a1
      have hone : c.getD q 0 = 1 := by rw [← hc, ← a2]; exact h.one q a1
      have hrest : (tab n fun j => restF r q c U j % p) = U.getD q [] := by
        refine (tab_of b1 fun j hj => ?_).symm
        have hj2 := b2.get (k := j) (by omega)
        have hz : restF r (q + 1) c U j = 0 := sm_zero fun t ht => by
          by_cases h1 : t < q + 1
          · rw [if_pos h1]
          · rw [if_neg h1, hct t ht (by have := h.inc q t (by omega) ht; omega), Int.zero_mul]
        rw [restF_step a1, hz, hone, Int.zero_add, Int.one_mul]
        exact (Int.emod_eq_of_lt hj2.1 hj2.2).symm
      have hlead : leadE (U.getD q []) = cols.getD q 0 := leadE_eq (by omega) b4 b5
      have hu := b2.get (k := cols.getD q 0) (by omega)
      rw [hrest, hlead, if_pos b3, if_pos (hf _ (by omega) hu.2)]
      refine ⟨q + 1, D ++ [c.take q ++ [1]], ?_, a1, fun k hk => ?_, fun k hk hkr => ?_, by simp [dl], fun k hk => ?_⟩
      · rw [take_put cols 0 (by rw [h.lk]; exact a1), take_put U [] (by rw [h.lu]; exact a1), ← take_put rows 0 (show q < rows.length by rw [h.lr]; exact a1), a2]
      · by_cases hkq : k < q
        · have := q1 k hkq; omega
        · obtain rfl : k = q := by omega
          omega
      · have := h.inc q k (by omega) hkr; omega
      · by_cases hki : k < i
        · rw [getD_app D _ [] (by omega)]; exact dk k hki
        · obtain rfl : k = i := by omega
          rw [getD_end D _ [] (by omega), hc]
          refine ⟨by simp [c1]; omega, fun t => ?_⟩
          rcases Nat.lt_trichotomy t q with ht | ht | ht
          · rw [getD_app _ _ 0 (by simp [c1]; omega), getD_take c 0 ht]
          · rw [getD_end _ _ 0 (by simp [c1]; omega), ht, hone]
          · rw [getD_over (by simp [c1]; omega)]
            by_cases htr : t < r
            · exact (hct t htr (by have := h.inc q t ht htr; omega)).symm
            · exact (getD_over (by omega)).symm
    · have hgt : ∀ k, q ≤ k → k < r → i < rows.getD k 0 := fun k hk hkr => by
        have h1 := q2 k hk hkr
        by_cases e2 : k = q
        · subst e2
          have : rows.getD k 0 ≠ i := fun e3 => hA ⟨hkr, e3⟩
          omega
        · have h2 := h.inc q k (by omega) hkr
          have h3 := q2 q (Nat.le_refl _) (by omega)
          omega
      have hrest : (tab n fun j => restF r q c U j % p) = tab n fun _ => 0 := tab_congr fun j _ => by
        have hz : restF r q c U j = 0 := sm_zero fun t ht => by
          by_cases h1 : t < q
          · rw [if_pos h1]
          · rw [if_neg h1, hct t ht (hgt t (by omega) ht), Int.zero_mul]
        rw [hz]; rfl
      have hlead : leadE (tab n fun _ => (0 : Int)) = n := by
        rw [leadE_all (fun j hj => by rw [tab_len] at hj; rw [tab_get _ hj]), tab_len]
      rw [hrest, hlead, if_neg (Nat.lt_irrefl _)]
      refine ⟨q, D ++ [c.take q], rfl, hq, fun k hk => Nat.lt_succ_of_lt (q1 k hk), fun k hk hkr => hgt k hk hkr, by simp [dl], fun k hk => ?_⟩
      by_cases hki : k < i
      · rw [getD_app D _ [] (by omega)]; exact dk k hki
      · obtain rfl : k = i := by omega
        rw [getD_end D _ [] (by omega), hc]
        refine ⟨by simp [c1]; omega, fun t => ?_⟩
        by_cases ht : t < q
        · rw [getD_take c 0 ht]
        · rw [getD_over (by simp [c1]; omega)]
          by_cases htr : t < r
          · exact (hct t htr (hgt t (by omega) htr)).symm
          · exact (getD_over (by omega)).symm
/-- a claim that has the shape, and makes the matrix, is what it is taken apart into -/
theorem shp_is {C : List (List Int)} {rows cols : List Nat} {U : List (List Int)} {R : Nat → List Int} (hp : 2 ≤ p) (hf : Fld p) (h : Shp p m n r C rows cols U) (hR : ∀ i, i < m → (R i).length = n)
    (hm : ∀ i, i < m → ∀ j, j < n → (R i).getD j 0 = (sm r fun t => (C.getD i []).getD t 0 * (U.getD t []).getD j 0) % p) :
    ∃ D, takeE p n R m = some ⟨D, rows, cols, U⟩ ∧ D.length = m ∧ ∀ k, k < m → (D.getD k []).length ≤ r ∧ ∀ t, (D.getD k []).getD t 0 = (C.getD k []).getD t 0 := by
  obtain ⟨q, D, e, hq, q1, q2, dl, dk⟩ := shp_take hp hf h hR hm m (Nat.le_refl _)
  have : q = r := by
    apply Classical.byContradiction
    intro hn
    have h1 := q2 q (Nat.le_refl _) (by omega)
    have h2 := h.low q (by omega)
    omega
  subst this
  rw [List.take_of_length_le (by rw [h.lr]; exact Nat.le_refl _), List.take_of_length_le (by rw [h.lk]; exact Nat.le_refl _), List.take_of_length_le (by rw [h.lu]; exact Nat.le_refl _)] at e
  exact ⟨D, e, dl, dk⟩
end Go.Proofs.Ytnfnommiabalfaa
