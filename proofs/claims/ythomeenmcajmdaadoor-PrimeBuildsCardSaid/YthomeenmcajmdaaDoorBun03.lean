/- What the texts Mod, Ser show, in one text. -/

/- Numbers modulo p, as plain integers: powers, what turns a number round, and Euclid's rule. -/
namespace Go.Proofs.YthomeenmcajmdaaDoor

theorem mm_l (a b p : Int) : a % p * b % p = a * b % p := by rw [Int.mul_emod, Int.emod_emod, ← Int.mul_emod]
theorem mm_r (a b p : Int) : a * (b % p) % p = a * b % p := by rw [Int.mul_emod, Int.emod_emod, ← Int.mul_emod]
theorem ma_l (a b p : Int) : (a % p + b) % p = (a + b) % p := by rw [Int.add_emod, Int.emod_emod, ← Int.add_emod]
theorem ma_r (a b p : Int) : (a + b % p) % p = (a + b) % p := by rw [Int.add_emod, Int.emod_emod, ← Int.add_emod]
theorem ms_l (a b p : Int) : (a % p - b) % p = (a - b) % p := by rw [Int.sub_emod, Int.emod_emod, ← Int.sub_emod]
theorem ms_r (a b p : Int) : (a - b % p) % p = (a - b) % p := by rw [Int.sub_emod, Int.emod_emod, ← Int.sub_emod]
theorem mod_range {p : Int} (a : Int) (hp : 2 ≤ p) : 0 ≤ a % p ∧ a % p < p := ⟨Int.emod_nonneg _ (by omega), Int.emod_lt_of_pos _ (by omega)⟩
theorem mod_small {p a : Int} (h0 : 0 ≤ a) (h : a < p) : a % p = a := Int.emod_eq_of_lt h0 h
theorem mod_eq_iff {p a b : Int} : a % p = b % p ↔ ∃ k, a = b + p * k := by
  rw [Int.emod_eq_emod_iff_emod_sub_eq_zero]
  constructor
  · intro h
    obtain ⟨k, hk⟩ := Int.dvd_of_emod_eq_zero h
    exact ⟨k, by omega⟩
  · rintro ⟨k, rfl⟩
    rw [show b + p * k - b = p * k by omega]
    exact Int.mul_emod_right _ _

/-! ### Powers -/
/-- a times itself, n times, modulo p -/
def mpow (p a n : Int) : Int := a ^ n.toNat % p
theorem mpow_zero {p : Int} (a : Int) (hp : 2 ≤ p) : mpow p a 0 = 1 := by
  show a ^ 0 % p = 1
  rw [Int.pow_zero]; exact mod_small (by omega) (by omega)
theorem pow_mod (a p : Int) (n : Nat) : (a % p) ^ n % p = a ^ n % p := by
  induction n with
  | zero => rw [Int.pow_zero, Int.pow_zero]
  | succ n ih => rw [Int.pow_succ, Int.pow_succ, mm_r, ← mm_l, ih, mm_l]
theorem pow_half (a : Int) (n : Nat) : a ^ n = (a * a) ^ (n / 2) * a ^ (n % 2) := by
  rw [show a * a = a ^ 2 by rw [Int.pow_succ, Int.pow_succ, Int.pow_zero, Int.one_mul], ← Int.pow_mul, ← Int.pow_add, Nat.div_add_mod]
theorem toNat_half {n : Int} (h : 0 ≤ n) : (n / 2).toNat = n.toNat / 2 ∧ (n % 2).toNat = n.toNat % 2 := by
  obtain ⟨m, rfl⟩ := Int.eq_ofNat_of_zero_le h
  constructor <;> omega
/-- a step of the rule by halves -/
theorem mpow_step {p P A n : Int} (h : 0 ≤ n) : (P * (A * A % p) ^ (n / 2).toNat * A ^ (n % 2).toNat) % p = (P * A ^ n.toNat) % p := by
  obtain ⟨e1, e2⟩ := toNat_half h
  rw [pow_half A n.toNat, e1, e2, Int.mul_assoc, ← mm_r, ← mm_l (_ ^ _), pow_mod, mm_l, mm_r]
theorem mpow_range {p : Int} (a n : Int) (hp : 2 ≤ p) : 0 ≤ mpow p a n ∧ mpow p a n < p := mod_range _ hp

/-! ### Euclid's rule -/
/-- the number whose product with a is 1 modulo p, if there is one; else 0 -/
noncomputable def minv (p a : Int) : Int := open Classical in if h : ∃ x, 0 ≤ x ∧ x < p ∧ a * x % p = 1 then Classical.choose h else 0
theorem minv_unique {p a x y : Int} (hx0 : 0 ≤ x) (hx : x < p) (hy0 : 0 ≤ y) (hy : y < p) (h : a * x % p = 1) (h' : a * y % p = 1) : x = y := by
  have e : x * (a * y) % p = y * (a * x) % p := by rw [show x * (a * y) = y * (a * x) by grind]
  rw [← mm_r, h', Int.mul_one, ← mm_r y, h, Int.mul_one, mod_small hx0 hx, mod_small hy0 hy] at e
  exact e
theorem minv_eq {p a x : Int} (hx0 : 0 ≤ x) (hx : x < p) (h : a * x % p = 1) : minv p a = x := by
  have he : ∃ x, 0 ≤ x ∧ x < p ∧ a * x % p = 1 := ⟨x, hx0, hx, h⟩
  unfold minv
  rw [dif_pos he]
  obtain ⟨h1, h2, h3⟩ := Classical.choose_spec he
  exact minv_unique h1 h2 hx0 hx h3 h
theorem minv_spec {p a : Int} (h : ∃ x, 0 ≤ x ∧ x < p ∧ a * x % p = 1) : 0 ≤ minv p a ∧ minv p a < p ∧ a * minv p a % p = 1 := by
  unfold minv
  rw [dif_pos h]
  exact Classical.choose_spec h
theorem minv_range (p a : Int) (hp : 2 ≤ p) : 0 ≤ minv p a ∧ minv p a < p := by
  by_cases h : ∃ x, 0 ≤ x ∧ x < p ∧ a * x % p = 1
  · exact ⟨(minv_spec h).1, (minv_spec h).2.1⟩
  · unfold minv
    rw [dif_neg h]; omega
/-- has a an inverse? -/
def unitB (p a : Int) : Bool := decide (Int.gcd p a = 1)
theorem gcd_step {a b : Int} (ha : 0 ≤ a) (hb : 0 ≤ b) : Int.gcd b (a % b) = Int.gcd a b := by
  obtain ⟨m, rfl⟩ := Int.eq_ofNat_of_zero_le ha
  obtain ⟨n, rfl⟩ := Int.eq_ofNat_of_zero_le hb
  show Nat.gcd n (m % n) = Nat.gcd m n
  rw [Nat.gcd_comm m n, Nat.gcd_rec n m, Nat.gcd_comm]
/-- an inverse comes of a gcd of 1, and tells it -/
theorem unit_of {p a x : Int} (h : a * x % p = 1) : unitB p a = true := by
  have hd : ((Int.gcd p a : Nat) : Int) ∣ 1 := by
    have h1 : ((Int.gcd p a : Nat) : Int) ∣ p := Int.gcd_dvd_left ..
    have h2 : ((Int.gcd p a : Nat) : Int) ∣ a := Int.gcd_dvd_right ..
    have e : a * x - p * (a * x / p) = 1 := by rw [← h, Int.emod_def]
    rw [← e]
    exact Int.dvd_sub (Int.dvd_trans h2 (Int.dvd_mul_right _ _)) (Int.dvd_trans h1 (Int.dvd_mul_right _ _))
  have : Int.gcd p a = 1 := by
    have := Int.natAbs_dvd_natAbs.2 hd
    simpa using this
  simp [unitB, this]
/-- a round of Euclid's rule -/
theorem inv_round {p a l n s t : Int} (h1 : a * s % p = l % p) (h2 : a * t % p = n % p) : a * ((s - l / n * t) % p) % p = l % n % p := by
  rw [mm_r, show a * (s - l / n * t) = a * s - l / n * (a * t) by grind, ← ms_l, h1, ms_l, ← ms_r, ← mm_r, h2, mm_r, ms_r, Int.emod_def l n, Int.mul_comm n]
theorem inv_last {p a l : Int} (hl : 0 ≤ l) (hg : Int.gcd l 0 = Int.gcd p a) : unitB p a = decide (l = 1) := by
  rw [Int.gcd_zero_right] at hg
  unfold unitB
  rw [← hg]
  rw [decide_eq_decide]
  omega
theorem unit_sym {p a x : Int} (h : a * x % p = 1) : x * a % p = 1 := by rw [Int.mul_comm]; exact h
/-- a unit's inverse -/
theorem unit_inv (p a : Int) (hp : 2 ≤ p) (ha0 : 0 ≤ a) (hu : unitB p a = true) : a * minv p a % p = 1 := by
  refine (minv_spec ?_).2.2
  -- Euclid's rule ends with an inverse
  have key : ∀ (n : Nat) (l m s t : Int), m.toNat ≤ n → 0 < l → 0 ≤ m → a * s % p = l % p → a * t % p = m % p → Int.gcd l m = Int.gcd p a → ∃ z, a * z % p = 1 := by
    intro n
    induction n with
    | zero =>
      intro l m s t hn hl hm h1 h2 h3
      obtain rfl : m = 0 := by omega
      have h4 := inv_last (p := p) (a := a) (by omega) h3
      rw [hu] at h4
      have h5 : l = 1 := by simpa using h4.symm
      exact ⟨s, by rw [h1, h5]; exact mod_small (by omega) (by omega)⟩
    | succ n ih =>
      intro l m s t hn hl hm h1 h2 h3
      by_cases h0 : m = 0
      · subst h0
        have h4 := inv_last (p := p) (a := a) (by omega) h3
        rw [hu] at h4
        have h5 : l = 1 := by simpa using h4.symm
        exact ⟨s, by rw [h1, h5]; exact mod_small (by omega) (by omega)⟩
      · have hm1 := Int.emod_nonneg l h0
        have hm2 := Int.emod_lt_of_pos l (show 0 < m by omega)
        exact ih m (l % m) t _ (by omega) (by omega) hm1 h2 (inv_round h1 h2) (by rw [gcd_step (by omega) hm, h3])
  obtain ⟨z, hz⟩ := key a.toNat p a 0 1 (Nat.le_refl _) (by omega) ha0 (by simp) (by simp) rfl
  exact ⟨z % p, (mod_range z hp).1, (mod_range z hp).2, by rw [mm_r]; exact hz⟩
end Go.Proofs.YthomeenmcajmdaaDoor
/- Power series modulo p: sums and products of rows of numbers (in plain Lean; nothing of a program). -/
namespace Go.Proofs.YthomeenmcajmdaaDoor

/-! ### Sums -/
/-- f 0 and so on, n of them -/
def sm : Nat → (Nat → Int) → Int
  | 0, _ => 0
  | n + 1, f => sm n f + f n
theorem sm_congr {f g : Nat → Int} : ∀ {n : Nat}, (∀ i, i < n → f i = g i) → sm n f = sm n g
  | 0, _ => rfl
  | n + 1, h => by rw [sm, sm, sm_congr fun i hi => h i (by omega), h n (by omega)]
theorem sm_zero {f : Nat → Int} : ∀ {n : Nat}, (∀ i, i < n → f i = 0) → sm n f = 0
  | 0, _ => rfl
  | n + 1, h => by rw [sm, sm_zero fun i hi => h i (by omega), h n (by omega)]; rfl
theorem sm_add (f g : Nat → Int) : ∀ n, sm n (fun i => f i + g i) = sm n f + sm n g
  | 0 => rfl
  | n + 1 => by rw [sm, sm, sm, sm_add f g n]; omega
theorem sm_neg (f : Nat → Int) : ∀ n, sm n (fun i => - f i) = - sm n f
  | 0 => rfl
  | n + 1 => by rw [sm, sm, sm_neg f n]; omega
theorem sm_mul (c : Int) (f : Nat → Int) : ∀ n, sm n (fun i => c * f i) = c * sm n f
  | 0 => by simp [sm]
  | n + 1 => by rw [sm, sm, sm_mul c f n, Int.mul_add]
theorem sm_mul_r (c : Int) (f : Nat → Int) (n : Nat) : sm n (fun i => f i * c) = sm n f * c := by
  rw [Int.mul_comm, ← sm_mul]; exact sm_congr fun i _ => Int.mul_comm _ _
theorem sm_head (f : Nat → Int) : ∀ n, sm (n + 1) f = f 0 + sm n (fun i => f (i + 1))
  | 0 => by simp [sm]
  | n + 1 => by rw [sm, sm_head f n, sm]; omega
theorem sm_rev (f : Nat → Int) : ∀ n, sm n f = sm n (fun i => f (n - 1 - i))
  | 0 => rfl
  | n + 1 => by
    rw [sm_head (fun i => f (n + 1 - 1 - i)) n, sm, sm_rev f n]
    have : sm n (fun i => f (n - 1 - i)) = sm n (fun i => f (n + 1 - 1 - (i + 1))) := sm_congr fun i _ => by rw [show n - 1 - i = n + 1 - 1 - (i + 1) by omega]
    rw [this, show n + 1 - 1 - 0 = n by omega]; omega
theorem sm_mod {p : Int} {f g : Nat → Int} : ∀ {n : Nat}, (∀ i, i < n → f i % p = g i % p) → sm n f % p = sm n g % p
  | 0, _ => rfl
  | n + 1, h => by rw [sm, sm, Int.add_emod, sm_mod fun i hi => h i (by omega), h n (by omega), ← Int.add_emod]
/-- the same pairs, by their sum or by the second one -/
theorem sm_tri (F : Nat → Nat → Int) : ∀ n, sm (n + 1) (fun i => sm (i + 1) fun j => F i j) = sm (n + 1) (fun j => sm (n + 1 - j) fun k => F (j + k) j)
  | 0 => by simp [sm]
  | n + 1 => by
    have e : sm (n + 1) (fun j => sm (n + 1 + 1 - j) fun k => F (j + k) j) = sm (n + 1) (fun j => sm (n + 1 - j) (fun k => F (j + k) j) + F (n + 1) j) := sm_congr fun j hj => by
      rw [show n + 1 + 1 - j = (n + 1 - j) + 1 by omega, sm, show j + (n + 1 - j) = n + 1 by omega]
    have l : sm (n + 1 + 1) (fun i => sm (i + 1) fun j => F i j) = sm (n + 1) (fun i => sm (i + 1) fun j => F i j) + (sm (n + 1) (fun j => F (n + 1) j) + F (n + 1) (n + 1)) := rfl
    have r : sm (n + 1 + 1) (fun j => sm (n + 1 + 1 - j) fun k => F (j + k) j) = sm (n + 1) (fun j => sm (n + 1 + 1 - j) fun k => F (j + k) j) + sm (n + 1 + 1 - (n + 1)) (fun k => F (n + 1 + k) (n + 1)) := rfl
    have x : sm 1 (fun k => F (n + 1 + k) (n + 1)) = F (n + 1) (n + 1) := by simp [sm]
    rw [l, r, sm_tri F n, e, sm_add, show n + 1 + 1 - (n + 1) = 1 by omega, x, Int.add_assoc]
/-- a piece of a sum, if all else is 0 -/
theorem sm_piece {f : Nat → Int} (lo m : Nat) : ∀ {n : Nat}, lo + m ≤ n → (∀ i, i < lo → f i = 0) → (∀ i, lo + m ≤ i → i < n → f i = 0) → sm n f = sm m fun i => f (lo + i)
  | 0, h, _, _ => by
    obtain rfl : m = 0 := by omega
    rfl
  | n + 1, h, h1, h2 => by
    by_cases e : lo + m = n + 1
    · cases m with
      | zero =>
        rw [sm_zero fun i hi => h1 i (by omega)]; rfl
      | succ m =>
        rw [sm, sm, sm_piece lo m (n := n) (by omega) h1 (fun i a b => by omega), show lo + m = n by omega]
    · rw [sm, sm_piece lo m (n := n) (by omega) h1 (fun i a b => h2 i a (by omega)), h2 n (by omega) (by omega)]
      omega

/-! ### Products -/
/-- the k-th number of a product -/
def cv (f g : Nat → Int) (k : Nat) : Int := sm (k + 1) fun i => f i * g (k - i)
theorem cv_comm (f g : Nat → Int) (k : Nat) : cv f g k = cv g f k := by
  unfold cv
  rw [sm_rev]
  exact sm_congr fun i hi => by rw [show k + 1 - 1 - i = k - i by omega, show k - (k - i) = i by omega, Int.mul_comm]
theorem cv_assoc (f g h : Nat → Int) (k : Nat) : cv (cv f g) h k = cv f (cv g h) k := by
  have e1 : cv (cv f g) h k = sm (k + 1) (fun i => sm (i + 1) fun j => f j * g (i - j) * h (k - i)) := sm_congr fun i hi => by
    unfold cv; rw [← sm_mul_r]
  have e2 : cv f (cv g h) k = sm (k + 1) (fun j => sm (k + 1 - j) fun l => f j * g (j + l - j) * h (k - (j + l))) := sm_congr fun j hj => by
    unfold cv
    rw [← sm_mul, show k - j + 1 = k + 1 - j by omega]
    exact sm_congr fun l hl => by rw [show j + l - j = l by omega, show k - (j + l) = k - j - l by omega, Int.mul_assoc]
  rw [e1, e2, sm_tri (fun i j => f j * g (i - j) * h (k - i)) k]
theorem cv_add (f g h : Nat → Int) (k : Nat) : cv f (fun i => g i + h i) k = cv f g k + cv f h k := by
  unfold cv; rw [← sm_add]; exact sm_congr fun i _ => Int.mul_add ..
theorem cv_mod {p : Int} {f f' g g' : Nat → Int} (h : ∀ i, f i % p = f' i % p) (h' : ∀ i, g i % p = g' i % p) (k : Nat) : cv f g k % p = cv f' g' k % p :=
  sm_mod fun i _ => by rw [Int.mul_emod, h, h', ← Int.mul_emod]
theorem cv_one (f : Nat → Int) (k : Nat) : cv f (fun i => if i = 0 then 1 else 0) k = f k := by
  unfold cv
  rw [sm, sm_zero fun i hi => by simp only []; rw [if_neg (by omega), Int.mul_zero]]
  simp

/-! ### Series modulo p -/
/-- a power series modulo p, each number as what is left of it -/
structure Ser (p : Int) where
  co : Nat → Int
  ok : ∀ k, co k % p = co k
theorem Ser.ext_ {p : Int} {a b : Ser p} (h : ∀ k, a.co k = b.co k) : a = b := by
  cases a; cases b; congr; funext k; exact h k
/-- the series of any numbers -/
def Ser.of (p : Int) (f : Nat → Int) : Ser p := ⟨fun k => f k % p, fun _ => Int.emod_emod_of_dvd _ (Int.dvd_refl _)⟩
theorem Ser.of_co {p : Int} (f : Nat → Int) (k : Nat) : (Ser.of p f).co k = f k % p := rfl
theorem Ser.of_eq {p : Int} {f g : Nat → Int} (h : ∀ k, f k % p = g k % p) : Ser.of p f = Ser.of p g := Ser.ext_ h
theorem Ser.of_self {p : Int} (a : Ser p) : Ser.of p a.co = a := Ser.ext_ a.ok
variable {p : Int}
instance : Add (Ser p) := ⟨fun a b => .of p fun k => a.co k + b.co k⟩
instance : Neg (Ser p) := ⟨fun a => .of p fun k => - a.co k⟩
instance : Sub (Ser p) := ⟨fun a b => .of p fun k => a.co k - b.co k⟩
instance : Mul (Ser p) := ⟨fun a b => .of p (cv a.co b.co)⟩
/-- a number, as a series -/
def Ser.C (p c : Int) : Ser p := .of p fun k => if k = 0 then c else 0
instance : OfNat (Ser p) 0 := ⟨.of p fun _ => 0⟩
instance : OfNat (Ser p) 1 := ⟨.C p 1⟩
namespace Ser
theorem add_co (a b : Ser p) (k : Nat) : (a + b).co k = (a.co k + b.co k) % p := rfl
theorem sub_co (a b : Ser p) (k : Nat) : (a - b).co k = (a.co k - b.co k) % p := rfl
theorem neg_co (a : Ser p) (k : Nat) : (-a).co k = (- a.co k) % p := rfl
theorem mul_co (a b : Ser p) (k : Nat) : (a * b).co k = cv a.co b.co k % p := rfl
theorem zero_co (k : Nat) : (0 : Ser p).co k = 0 := Int.zero_emod p
theorem C_co (c : Int) (k : Nat) : (C p c).co k = if k = 0 then c % p else 0 := by
  show (if k = 0 then c else 0) % p = _
  split <;> simp
theorem add_comm (a b : Ser p) : a + b = b + a := ext_ fun k => by rw [add_co, add_co, Int.add_comm]
theorem add_assoc (a b c : Ser p) : a + b + c = a + (b + c) := ext_ fun k => by
  rw [add_co, add_co, add_co, add_co, ma_l, ma_r, Int.add_assoc]
theorem add_zero (a : Ser p) : a + 0 = a := ext_ fun k => by rw [add_co, zero_co, Int.add_zero, a.ok]
theorem zero_add (a : Ser p) : 0 + a = a := by rw [add_comm, add_zero]
theorem sub_self (a : Ser p) : a - a = 0 := ext_ fun k => by rw [sub_co, zero_co, Int.sub_self, Int.zero_emod]
theorem sub_zero (a : Ser p) : a - 0 = a := ext_ fun k => by rw [sub_co, zero_co, Int.sub_zero, a.ok]
theorem sub_add (a b : Ser p) : a - b + b = a := ext_ fun k => by rw [add_co, sub_co, ma_l, Int.sub_add_cancel, a.ok]
theorem add_sub (a b : Ser p) : a + b - b = a := ext_ fun k => by rw [sub_co, add_co, ms_l, Int.add_sub_cancel, a.ok]
theorem eq_sub {a b c : Ser p} (h : a + b = c) : a = c - b := by rw [← h, add_sub]
theorem sub_eq {a b c : Ser p} (h : a = c + b) : a - b = c := by rw [h, add_sub]
theorem add_right_cancel {a b c : Ser p} (h : a + c = b + c) : a = b := by rw [← add_sub a c, h, add_sub]
theorem mul_comm (a b : Ser p) : a * b = b * a := ext_ fun k => by rw [mul_co, mul_co, cv_comm]
theorem mul_assoc (a b c : Ser p) : a * b * c = a * (b * c) := ext_ fun k => by
  show cv (fun i => cv a.co b.co i % p) c.co k % p = cv a.co (fun i => cv b.co c.co i % p) k % p
  rw [cv_mod (f' := cv a.co b.co) (g' := c.co) (fun i => Int.emod_emod_of_dvd _ (Int.dvd_refl _)) (fun _ => rfl),
    cv_mod (f := a.co) (f' := a.co) (g' := cv b.co c.co) (fun _ => rfl) (fun i => Int.emod_emod_of_dvd _ (Int.dvd_refl _)), cv_assoc]
theorem mul_add (a b c : Ser p) : a * (b + c) = a * b + a * c := ext_ fun k => by
  show cv a.co (fun i => (b.co i + c.co i) % p) k % p = (cv a.co b.co k % p + cv a.co c.co k % p) % p
  rw [cv_mod (f' := a.co) (g' := fun i => b.co i + c.co i) (fun _ => rfl) (fun i => Int.emod_emod_of_dvd _ (Int.dvd_refl _)), cv_add, ma_l, ma_r]
theorem add_mul (a b c : Ser p) : (a + b) * c = a * c + b * c := by rw [mul_comm, mul_add, mul_comm c a, mul_comm c b]
theorem mul_one (a : Ser p) : a * 1 = a := ext_ fun k => by
  show cv a.co (fun i => (if i = 0 then 1 else 0) % p) k % p = _
  rw [cv_mod (f' := a.co) (g' := fun i => if i = 0 then 1 else 0) (fun _ => rfl) (fun i => Int.emod_emod_of_dvd _ (Int.dvd_refl _)), cv_one, a.ok]
theorem one_mul (a : Ser p) : 1 * a = a := by rw [mul_comm, mul_one]
theorem mul_zero (a : Ser p) : a * 0 = 0 := add_right_cancel (c := a * 0) (by rw [← mul_add, add_zero, zero_add])
theorem zero_mul (a : Ser p) : 0 * a = 0 := by rw [mul_comm, mul_zero]
theorem sub_mul (a b c : Ser p) : (a - b) * c = a * c - b * c := eq_sub (by rw [← add_mul, sub_add])
theorem mul_sub (a b c : Ser p) : a * (b - c) = a * b - a * c := eq_sub (by rw [← mul_add, sub_add])
theorem mul_left_comm (a b c : Ser p) : a * (b * c) = b * (a * c) := by rw [← mul_assoc, mul_comm a b, mul_assoc]
theorem add_left_comm (a b c : Ser p) : a + (b + c) = b + (a + c) := by rw [← add_assoc, add_comm a b, add_assoc]
theorem eq_of_sub {a b : Ser p} (h : a - b = 0) : a = b := by rw [← sub_add a b, h, zero_add]
theorem C_mul_co (c : Int) (a : Ser p) (k : Nat) : (C p c * a).co k = c * a.co k % p := by
  rw [mul_comm]
  show cv a.co (fun i => (if i = 0 then c else 0) % p) k % p = _
  rw [cv_mod (f' := a.co) (g' := fun i => if i = 0 then c else 0) (fun _ => rfl) (fun i => Int.emod_emod_of_dvd _ (Int.dvd_refl _))]
  unfold cv
  rw [sm, sm_zero fun i hi => by simp only []; rw [if_neg (by omega), Int.mul_zero], Int.mul_comm c]
  simp
theorem C_one : C p 1 = 1 := rfl
theorem C_zero : C p 0 = 0 := ext_ fun k => by rw [C_co, zero_co]; simp
theorem C_mul (c d : Int) : C p c * C p d = C p (c * d) := ext_ fun k => by
  rw [C_mul_co, C_co, C_co]
  split
  · rw [mm_r]
  · simp
theorem C_congr {c d : Int} (h : c % p = d % p) : C p c = C p d := ext_ fun k => by rw [C_co, C_co, h]
end Ser
instance : Std.Associative (α := Ser p) (· * ·) := ⟨Ser.mul_assoc⟩
instance : Std.Commutative (α := Ser p) (· * ·) := ⟨Ser.mul_comm⟩
instance : Std.Associative (α := Ser p) (· + ·) := ⟨Ser.add_assoc⟩
instance : Std.Commutative (α := Ser p) (· + ·) := ⟨Ser.add_comm⟩
end Go.Proofs.YthomeenmcajmdaaDoor
