/- Numbers modulo p, as plain integers: powers, what turns a number round, and Euclid's rule. -/
namespace Go.Proofs.Yticabjdcegimcaa

theorem mm_l (a b p : Int) : a % p * b % p = a * b % p := by rw [Int.mul_emod, Int.emod_emod, ← Int.mul_emod]
theorem mm_r (a b p : Int) : a * (b % p) % p = a * b % p := by rw [Int.mul_emod, Int.emod_emod, ← Int.mul_emod]
theorem ma_l (a b p : Int) : (a % p + b) % p = (a + b) % p := by rw [Int.add_emod, Int.emod_emod, ← Int.add_emod]
theorem ma_r (a b p : Int) : (a + b % p) % p = (a + b) % p := by rw [Int.add_emod, Int.emod_emod, ← Int.add_emod]
theorem ms_l (a b p : Int) : (a % p - b) % p = (a - b) % p := by rw [Int.sub_emod, Int.emod_emod, ← Int.sub_emod]
theorem ms_r (a b p : Int) : (a - b % p) % p = (a - b) % p := by rw [Int.sub_emod, Int.emod_emod, ← Int.sub_emod]
theorem mod_range {p : Int} (a : Int) (hp : 2 ≤ p) : 0 ≤ a % p ∧ a % p < p := ⟨Int.emod_nonneg _ (by omega), Int.emod_lt_of_pos _ (by omega)⟩
theorem mod_small {p a : Int} (h0 : 0 ≤ a) (h : a < p) : a % p = a := Int.emod_eq_of_lt h0 h
theorem mod_eq_iff {p a b : Int} : a % p = b % p ↔ ∃ k, a = b + p * k := by
  rw [Int.emod_eq_emod_iff_emod_sub_eq_zero]
  constructor
  · intro h
    obtain ⟨k, hk⟩ := Int.dvd_of_emod_eq_zero h
    exact ⟨k, by omega⟩
  · rintro ⟨k, rfl⟩
    rw [show b + p * k - b = p * k by omega]
    exact Int.mul_emod_right _ _

/-! ### Powers -/
/-- a times itself, n times, modulo p -/
def mpow (p a n : Int) : Int := a ^ n.toNat % p
theorem mpow_zero {p : Int} (a : Int) (hp : 2 ≤ p) : mpow p a 0 = 1 := by
  show a ^ 0 % p = 1
  rw [Int.pow_zero]; exact mod_small (by omega) (by omega)
theorem pow_mod (a p : Int) (n : Nat) : (a % p) ^ n % p = a ^ n % p := by
  induction n with
  | zero => rw [Int.pow_zero, Int.pow_zero]
  | succ n ih => rw [Int.pow_succ, Int.pow_succ, mm_r, ← mm_l, ih, mm_l]
theorem pow_half (a : Int) (n : Nat) : a ^ n = (a * a) ^ (n / 2) * a ^ (n % 2) := by
  rw [show a * a = a ^ 2 by rw [Int.pow_succ, Int.pow_succ, Int.pow_zero, Int.one_mul], ← Int.pow_mul, ← Int.pow_add, Nat.div_add_mod]
theorem toNat_half {n : Int} (h : 0 ≤ n) : (n / 2).toNat = n.toNat / 2 ∧ (n % 2).toNat = n.toNat % 2 := by
  obtain ⟨m, rfl⟩ := Int.eq_ofNat_of_zero_le h
  constructor <;> omega
/-- a step of the rule by halves -/
theorem mpow_step {p P A n : Int} (h : 0 ≤ n) : (P * (A * A % p) ^ (n / 2).toNat * A ^ (n % 2).toNat) % p = (P * A ^ n.toNat) % p := by
  obtain ⟨e1, e2⟩ := toNat_half h
  rw [pow_half A n.toNat, e1, e2, Int.mul_assoc, ← mm_r, ← mm_l (_ ^ _), pow_mod, mm_l, mm_r]
theorem mpow_range {p : Int} (a n : Int) (hp : 2 ≤ p) : 0 ≤ mpow p a n ∧ mpow p a n < p := mod_range _ hp

/-! ### Euclid's rule -/
/-- the number whose product with a is 1 modulo p, if there is one; else 0 -/
noncomputable def minv (p a : Int) : Int := open Classical in if h : ∃ x, 0 ≤ x ∧ x < p ∧ a * x % p = 1 then Classical.choose h else 0
theorem minv_unique {p a x y : Int} (hx0 : 0 ≤ x) (hx : x < p) (hy0 : 0 ≤ y) (hy : y < p) (h : a * x % p = 1) (h' : a * y % p = 1) : x = y := by
  have e : x * (a * y) % p = y * (a * x) % p := by rw [show x * (a * y) = y * (a * x) by grind]
  rw [← mm_r, h', Int.mul_one, ← mm_r y, h, Int.mul_one, mod_small hx0 hx, mod_small hy0 hy] at e
  exact e
theorem minv_eq {p a x : Int} (hx0 : 0 ≤ x) (hx : x < p) (h : a * x % p = 1) : minv p a = x := by
  have he : ∃ x, 0 ≤ x ∧ x < p ∧ a * x % p = 1 := ⟨x, hx0, hx, h⟩
  unfold minv
  rw [dif_pos he]
  obtain ⟨h1, h2, h3⟩ := Classical.choose_spec he
  exact minv_unique h1 h2 hx0 hx h3 h
theorem minv_spec {p a : Int} (h : ∃ x, 0 ≤ x ∧ x < p ∧ a * x % p = 1) : 0 ≤ minv p a ∧ minv p a < p ∧ a * minv p a % p = 1 := by
  unfold minv
  rw [dif_pos h]
  exact Classical.choose_spec h
theorem minv_range (p a : Int) (hp : 2 ≤ p) : 0 ≤ minv p a ∧ minv p a < p := by
  by_cases h : ∃ x, 0 ≤ x ∧ x < p ∧ a * x % p = 1
  · exact ⟨(minv_spec h).1, (minv_spec h).2.1⟩
  · unfold minv
    rw [dif_neg h]; omega
/-- has a an inverse? -/
def unitB (p a : Int) : Bool := decide (Int.gcd p a = 1)
theorem gcd_step {a b : Int} (ha : 0 ≤ a) (hb : 0 ≤ b) : Int.gcd b (a % b) = Int.gcd a b := by
  obtain ⟨m, rfl⟩ := Int.eq_ofNat_of_zero_le ha
  obtain ⟨n, rfl⟩ := Int.eq_ofNat_of_zero_le hb
  show Nat.gcd n (m % n) = Nat.gcd m n
  rw [Nat.gcd_comm m n, Nat.gcd_rec n m, Nat.gcd_comm]
/-- an inverse comes of a gcd of 1, and tells it -/
theorem unit_of {p a x : Int} (h : a * x % p = 1) : unitB p a = true := by
  have hd : ((Int.gcd p a : Nat) : Int) ∣ 1 := by
    have h1 : ((Int.gcd p a : Nat) : Int) ∣ p := Int.gcd_dvd_left ..
    have h2 : ((Int.gcd p a : Nat) : Int) ∣ a := Int.gcd_dvd_right ..
    have e : a * x - p * (a * x / p) = 1 := by rw [← h, Int.emod_def]
    rw [← e]
    exact Int.dvd_sub (Int.dvd_trans h2 (Int.dvd_mul_right _ _)) (Int.dvd_trans h1 (Int.dvd_mul_right _ _))
  have : Int.gcd p a = 1 := by
    have := Int.natAbs_dvd_natAbs.2 hd
    simpa using this
  simp [unitB, this]
/-- a round of Euclid's rule -/
theorem inv_round {p a l n s t : Int} (h1 : a * s % p = l % p) (h2 : a * t % p = n % p) : a * ((s - l / n * t) % p) % p = l % n % p := by
  rw [mm_r, show a * (s - l / n * t) = a * s - l / n * (a * t) by grind, ← ms_l, h1, ms_l, ← ms_r, ← mm_r, h2, mm_r, ms_r, Int.emod_def l n, Int.mul_comm n]
theorem inv_last {p a l : Int} (hl : 0 ≤ l) (hg : Int.gcd l 0 = Int.gcd p a) : unitB p a = decide (l = 1) := by
  rw [Int.gcd_zero_right] at hg
  unfold unitB
  rw [← hg]
  rw [decide_eq_decide]
  omega
theorem unit_sym {p a x : Int} (h : a * x % p = 1) : x * a % p = 1 := by rw [Int.mul_comm]; exact h
/-- a unit's inverse -/
theorem unit_inv (p a : Int) (hp : 2 ≤ p) (ha0 : 0 ≤ a) (hu : unitB p a = true) : a * minv p a % p = 1 := by
  refine (minv_spec ?_).2.2
  -- Euclid's rule ends with an inverse
  have key : ∀ (n : Nat) (l m s t : Int), m.toNat ≤ n → 0 < l → 0 ≤ m → a * s % p = l % p → a * t % p = m % p → Int.gcd l m = Int.gcd p a → ∃ z, a * z % p = 1 := by
    intro n
    induction n with
    | zero =>
      intro l m s t hn hl hm h1 h2 h3
      obtain rfl : m = 0 := by omega
      have h4 := inv_last (p := p) (a := a) (by omega) h3
      rw [hu] at h4
      have h5 : l = 1 := by simpa using h4.symm
      exact ⟨s, by rw [h1, h5]; exact mod_small (by omega) (by omega)⟩
    | succ n ih =>
      intro l m s t hn hl hm h1 h2 h3
      by_cases h0 : m = 0
      · subst h0
        have h4 := inv_last (p := p) (a := a) (by omega) h3
        rw [hu] at h4
        have h5 : l = 1 := by simpa using h4.symm
        exact ⟨s, by rw [h1, h5]; exact mod_small (by omega) (by omega)⟩
      · have hm1 := Int.emod_nonneg l h0
        have hm2 := Int.emod_lt_of_pos l (show 0 < m by omega)
        exact ih m (l % m) t _ (by omega) (by omega) hm1 h2 (inv_round h1 h2) (by rw [gcd_step (by omega) hm, h3])
  obtain ⟨z, hz⟩ := key a.toNat p a 0 1 (Nat.le_refl _) (by omega) ha0 (by simp) (by simp) rfl
  exact ⟨z % p, (mod_range z hp).1, (mod_range z hp).2, by rw [mm_r]; exact hz⟩
end Go.Proofs.Yticabjdcegimcaa
