import Derived.WalkKit
import Derived.WalkSpells
import Derived.WalkLawsBesides
import Derived.BigQuiet
import Derived.Deep.QuietTactic
import Derived.Laws.MathBits
import Derived.Laws.BitsLemmas
import Derived.Test.YthomeenmcajmdaaGreatDoorRows
namespace Go.Proofs.YthomeenmcajmdaaGreatDoor
theorem mm_l (a b p : Int) : a % p * b % p = a * b % p := by rw [Int.mul_emod, Int.emod_emod, ← Int.mul_emod]
theorem mm_r (a b p : Int) : a * (b % p) % p = a * b % p := by rw [Int.mul_emod, Int.emod_emod, ← Int.mul_emod]
theorem ma_l (a b p : Int) : (a % p + b) % p = (a + b) % p := by rw [Int.add_emod, Int.emod_emod, ← Int.add_emod]
theorem ma_r (a b p : Int) : (a + b % p) % p = (a + b) % p := by rw [Int.add_emod, Int.emod_emod, ← Int.add_emod]
theorem ms_l (a b p : Int) : (a % p - b) % p = (a - b) % p := by rw [Int.sub_emod, Int.emod_emod, ← Int.sub_emod]
theorem ms_r (a b p : Int) : (a - b % p) % p = (a - b) % p := by rw [Int.sub_emod, Int.emod_emod, ← Int.sub_emod]
theorem mod_range {p : Int} (a : Int) (hp : 2 ≤ p) : 0 ≤ a % p ∧ a % p < p := ⟨Int.emod_nonneg _ (by omega), Int.emod_lt_of_pos _ (by omega)⟩
theorem mod_small {p a : Int} (h0 : 0 ≤ a) (h : a < p) : a % p = a := Int.emod_eq_of_lt h0 h
theorem mod_eq_iff {p a b : Int} : a % p = b % p ↔ ∃ k, a = b + p * k := by
  rw [Int.emod_eq_emod_iff_emod_sub_eq_zero]
  constructor
  · intro h
    obtain ⟨k, hk⟩ := Int.dvd_of_emod_eq_zero h
    exact ⟨k, by omega⟩
  · rintro ⟨k, rfl⟩
    rw [show b + p * k - b = p * k by omega]
    exact Int.mul_emod_right _ _
def mpow (p a n : Int) : Int := a ^ n.toNat % p
theorem pow_mod (a p : Int) (n : Nat) : (a % p) ^ n % p = a ^ n % p := by
  induction n with
  | zero => rw [Int.pow_zero, Int.pow_zero]
  | succ n ih => rw [Int.pow_succ, Int.pow_succ, mm_r, ← mm_l, ih, mm_l]
theorem pow_half (a : Int) (n : Nat) : a ^ n = (a * a) ^ (n / 2) * a ^ (n % 2) := by
  rw [show a * a = a ^ 2 by rw [Int.pow_succ, Int.pow_succ, Int.pow_zero, Int.one_mul], ← Int.pow_mul, ← Int.pow_add, Nat.div_add_mod]
theorem toNat_half {n : Int} (h : 0 ≤ n) : (n / 2).toNat = n.toNat / 2 ∧ (n % 2).toNat = n.toNat % 2 := by
  obtain ⟨m, rfl⟩ := Int.eq_ofNat_of_zero_le h
  constructor <;> omega
theorem mpow_step {p P A n : Int} (h : 0 ≤ n) : (P * (A * A % p) ^ (n / 2).toNat * A ^ (n % 2).toNat) % p = (P * A ^ n.toNat) % p := by
  obtain ⟨e1, e2⟩ := toNat_half h
  rw [pow_half A n.toNat, e1, e2, Int.mul_assoc, ← mm_r, ← mm_l (_ ^ _), pow_mod, mm_l, mm_r]
theorem mpow_range {p : Int} (a n : Int) (hp : 2 ≤ p) : 0 ≤ mpow p a n ∧ mpow p a n < p := mod_range _ hp
noncomputable def minv (p a : Int) : Int := open Classical in if h : ∃ x, 0 ≤ x ∧ x < p ∧ a * x % p = 1 then Classical.choose h else 0
theorem minv_unique {p a x y : Int} (hx0 : 0 ≤ x) (hx : x < p) (hy0 : 0 ≤ y) (hy : y < p) (h : a * x % p = 1) (h' : a * y % p = 1) : x = y := by
  have e : x * (a * y) % p = y * (a * x) % p := by rw [show x * (a * y) = y * (a * x) by grind]
  rw [← mm_r, h', Int.mul_one, ← mm_r y, h, Int.mul_one, mod_small hx0 hx, mod_small hy0 hy] at e
  exact e
theorem minv_eq {p a x : Int} (hx0 : 0 ≤ x) (hx : x < p) (h : a * x % p = 1) : minv p a = x := by
  have he : ∃ x, 0 ≤ x ∧ x < p ∧ a * x % p = 1 := ⟨x, hx0, hx, h⟩
  unfold minv
  rw [dif_pos he]
  obtain ⟨h1, h2, h3⟩ := Classical.choose_spec he
  exact minv_unique h1 h2 hx0 hx h3 h
theorem minv_spec {p a : Int} (h : ∃ x, 0 ≤ x ∧ x < p ∧ a * x % p = 1) : 0 ≤ minv p a ∧ minv p a < p ∧ a * minv p a % p = 1 := by
  unfold minv
  rw [dif_pos h]
  exact Classical.choose_spec h
theorem minv_range (p a : Int) (hp : 2 ≤ p) : 0 ≤ minv p a ∧ minv p a < p := by
  by_cases h : ∃ x, 0 ≤ x ∧ x < p ∧ a * x % p = 1
  · exact ⟨(minv_spec h).1, (minv_spec h).2.1⟩
  · unfold minv
    rw [dif_neg h]; omega
def unitB (p a : Int) : Bool := decide (Int.gcd p a = 1)
theorem gcd_step {a b : Int} (ha : 0 ≤ a) (hb : 0 ≤ b) : Int.gcd b (a % b) = Int.gcd a b := by
  obtain ⟨m, rfl⟩ := Int.eq_ofNat_of_zero_le ha
  obtain ⟨n, rfl⟩ := Int.eq_ofNat_of_zero_le hb
  show Nat.gcd n (m % n) = Nat.gcd m n
  rw [Nat.gcd_comm m n, Nat.gcd_rec n m, Nat.gcd_comm]
theorem inv_round {p a l n s t : Int} (h1 : a * s % p = l % p) (h2 : a * t % p = n % p) : a * ((s - l / n * t) % p) % p = l % n % p := by
  rw [mm_r, show a * (s - l / n * t) = a * s - l / n * (a * t) by grind, ← ms_l, h1, ms_l, ← ms_r, ← mm_r, h2, mm_r, ms_r, Int.emod_def l n, Int.mul_comm n]
theorem inv_last {p a l : Int} (hl : 0 ≤ l) (hg : Int.gcd l 0 = Int.gcd p a) : unitB p a = decide (l = 1) := by
  rw [Int.gcd_zero_right] at hg
  unfold unitB
  rw [← hg]
  rw [decide_eq_decide]
  omega
theorem unit_inv (p a : Int) (hp : 2 ≤ p) (ha0 : 0 ≤ a) (hu : unitB p a = true) : a * minv p a % p = 1 := by
  refine (minv_spec ?_).2.2
  have key : ∀ (n : Nat) (l m s t : Int), m.toNat ≤ n → 0 < l → 0 ≤ m → a * s % p = l % p → a * t % p = m % p → Int.gcd l m = Int.gcd p a → ∃ z, a * z % p = 1 := by
    intro n
    induction n with
    | zero =>
      intro l m s t hn hl hm h1 h2 h3
      obtain rfl : m = 0 := by omega
      have h4 := inv_last (p := p) (a := a) (by omega) h3
      rw [hu] at h4
      have h5 : l = 1 := by simpa using h4.symm
      exact ⟨s, by rw [h1, h5]; exact mod_small (by omega) (by omega)⟩
    | succ n ih =>
      intro l m s t hn hl hm h1 h2 h3
      by_cases h0 : m = 0
      · subst h0
        have h4 := inv_last (p := p) (a := a) (by omega) h3
        rw [hu] at h4
        have h5 : l = 1 := by simpa using h4.symm
        exact ⟨s, by rw [h1, h5]; exact mod_small (by omega) (by omega)⟩
      · have hm1 := Int.emod_nonneg l h0
        have hm2 := Int.emod_lt_of_pos l (show 0 < m by omega)
        exact ih m (l % m) t _ (by omega) (by omega) hm1 h2 (inv_round h1 h2) (by rw [gcd_step (by omega) hm, h3])
  obtain ⟨z, hz⟩ := key a.toNat p a 0 1 (Nat.le_refl _) (by omega) ha0 (by simp) (by simp) rfl
  exact ⟨z % p, (mod_range z hp).1, (mod_range z hp).2, by rw [mm_r]; exact hz⟩
end Go.Proofs.YthomeenmcajmdaaGreatDoor
namespace Go.Proofs.YthomeenmcajmdaaGreatDoor
def sm : Nat → (Nat → Int) → Int
  | 0, _ => 0
  | n + 1, f => sm n f + f n
theorem sm_congr {f g : Nat → Int} : ∀ {n : Nat}, (∀ i, i < n → f i = g i) → sm n f = sm n g
  | 0, _ => rfl
  | n + 1, h => by rw [sm, sm, sm_congr fun i hi => h i (by omega), h n (by omega)]
theorem sm_zero {f : Nat → Int} : ∀ {n : Nat}, (∀ i, i < n → f i = 0) → sm n f = 0
  | 0, _ => rfl
  | n + 1, h => by rw [sm, sm_zero fun i hi => h i (by omega), h n (by omega)]; rfl
theorem sm_add (f g : Nat → Int) : ∀ n, sm n (fun i => f i + g i) = sm n f + sm n g
  | 0 => rfl
  | n + 1 => by rw [sm, sm, sm, sm_add f g n]; omega
theorem sm_neg (f : Nat → Int) : ∀ n, sm n (fun i => - f i) = - sm n f
  | 0 => rfl
  | n + 1 => by rw [sm, sm, sm_neg f n]; omega
theorem sm_mul (c : Int) (f : Nat → Int) : ∀ n, sm n (fun i => c * f i) = c * sm n f
  | 0 => by simp [sm]
  | n + 1 => by rw [sm, sm, sm_mul c f n, Int.mul_add]
theorem sm_mul_r (c : Int) (f : Nat → Int) (n : Nat) : sm n (fun i => f i * c) = sm n f * c := by
  rw [Int.mul_comm, ← sm_mul]; exact sm_congr fun i _ => Int.mul_comm _ _
theorem sm_head (f : Nat → Int) : ∀ n, sm (n + 1) f = f 0 + sm n (fun i => f (i + 1))
  | 0 => by simp [sm]
  | n + 1 => by rw [sm, sm_head f n, sm]; omega
theorem sm_rev (f : Nat → Int) : ∀ n, sm n f = sm n (fun i => f (n - 1 - i))
  | 0 => rfl
  | n + 1 => by
    rw [sm_head (fun i => f (n + 1 - 1 - i)) n, sm, sm_rev f n]
    have : sm n (fun i => f (n - 1 - i)) = sm n (fun i => f (n + 1 - 1 - (i + 1))) := sm_congr fun i _ => by rw [show n - 1 - i = n + 1 - 1 - (i + 1) by omega]
    rw [this, show n + 1 - 1 - 0 = n by omega]; omega
theorem sm_mod {p : Int} {f g : Nat → Int} : ∀ {n : Nat}, (∀ i, i < n → f i % p = g i % p) → sm n f % p = sm n g % p
  | 0, _ => rfl
  | n + 1, h => by rw [sm, sm, Int.add_emod, sm_mod fun i hi => h i (by omega), h n (by omega), ← Int.add_emod]
theorem sm_tri (F : Nat → Nat → Int) : ∀ n, sm (n + 1) (fun i => sm (i + 1) fun j => F i j) = sm (n + 1) (fun j => sm (n + 1 - j) fun k => F (j + k) j)
  | 0 => by simp [sm]
  | n + 1 => by
    have e : sm (n + 1) (fun j => sm (n + 1 + 1 - j) fun k => F (j + k) j) = sm (n + 1) (fun j => sm (n + 1 - j) (fun k => F (j + k) j) + F (n + 1) j) := sm_congr fun j hj => by
      rw [show n + 1 + 1 - j = (n + 1 - j) + 1 by omega, sm, show j + (n + 1 - j) = n + 1 by omega]
    have l : sm (n + 1 + 1) (fun i => sm (i + 1) fun j => F i j) = sm (n + 1) (fun i => sm (i + 1) fun j => F i j) + (sm (n + 1) (fun j => F (n + 1) j) + F (n + 1) (n + 1)) := rfl
    have r : sm (n + 1 + 1) (fun j => sm (n + 1 + 1 - j) fun k => F (j + k) j) = sm (n + 1) (fun j => sm (n + 1 + 1 - j) fun k => F (j + k) j) + sm (n + 1 + 1 - (n + 1)) (fun k => F (n + 1 + k) (n + 1)) := rfl
    have x : sm 1 (fun k => F (n + 1 + k) (n + 1)) = F (n + 1) (n + 1) := by simp [sm]
    rw [l, r, sm_tri F n, e, sm_add, show n + 1 + 1 - (n + 1) = 1 by omega, x, Int.add_assoc]
theorem sm_piece {f : Nat → Int} (lo m : Nat) : ∀ {n : Nat}, lo + m ≤ n → (∀ i, i < lo → f i = 0) → (∀ i, lo + m ≤ i → i < n → f i = 0) → sm n f = sm m fun i => f (lo + i)
  | 0, h, _, _ => by
    obtain rfl : m = 0 := by omega
    rfl
  | n + 1, h, h1, h2 => by
    by_cases e : lo + m = n + 1
    · cases m with
      | zero =>
        rw [sm_zero fun i hi => h1 i (by omega)]; rfl
      | succ m =>
        rw [sm, sm, sm_piece lo m (n := n) (by omega) h1 (fun i a b => by omega), show lo + m = n by omega]
    · rw [sm, sm_piece lo m (n := n) (by omega) h1 (fun i a b => h2 i a (by omega)), h2 n (by omega) (by omega)]
      omega
def cv (f g : Nat → Int) (k : Nat) : Int := sm (k + 1) fun i => f i * g (k - i)
theorem cv_comm (f g : Nat → Int) (k : Nat) : cv f g k = cv g f k := by
  unfold cv
  rw [sm_rev]
  exact sm_congr fun i hi => by rw [show k + 1 - 1 - i = k - i by omega, show k - (k - i) = i by omega, Int.mul_comm]
theorem cv_assoc (f g h : Nat → Int) (k : Nat) : cv (cv f g) h k = cv f (cv g h) k := by
  have e1 : cv (cv f g) h k = sm (k + 1) (fun i => sm (i + 1) fun j => f j * g (i - j) * h (k - i)) := sm_congr fun i hi => by
    unfold cv; rw [← sm_mul_r]
  have e2 : cv f (cv g h) k = sm (k + 1) (fun j => sm (k + 1 - j) fun l => f j * g (j + l - j) * h (k - (j + l))) := sm_congr fun j hj => by
    unfold cv
    rw [← sm_mul, show k - j + 1 = k + 1 - j by omega]
    exact sm_congr fun l hl => by rw [show j + l - j = l by omega, show k - (j + l) = k - j - l by omega, Int.mul_assoc]
  rw [e1, e2, sm_tri (fun i j => f j * g (i - j) * h (k - i)) k]
theorem cv_add (f g h : Nat → Int) (k : Nat) : cv f (fun i => g i + h i) k = cv f g k + cv f h k := by
  unfold cv; rw [← sm_add]; exact sm_congr fun i _ => Int.mul_add ..
theorem cv_mod {p : Int} {f f' g g' : Nat → Int} (h : ∀ i, f i % p = f' i % p) (h' : ∀ i, g i % p = g' i % p) (k : Nat) : cv f g k % p = cv f' g' k % p :=
  sm_mod fun i _ => by rw [Int.mul_emod, h, h', ← Int.mul_emod]
theorem cv_one (f : Nat → Int) (k : Nat) : cv f (fun i => if i = 0 then 1 else 0) k = f k := by
  unfold cv
  rw [sm, sm_zero fun i hi => by simp only []; rw [if_neg (by omega), Int.mul_zero]]
  simp
structure Ser (p : Int) where
  co : Nat → Int
  ok : ∀ k, co k % p = co k
theorem Ser.ext_ {p : Int} {a b : Ser p} (h : ∀ k, a.co k = b.co k) : a = b := by
  cases a; cases b; congr; funext k; exact h k
def Ser.of (p : Int) (f : Nat → Int) : Ser p := ⟨fun k => f k % p, fun _ => Int.emod_emod_of_dvd _ (Int.dvd_refl _)⟩
theorem Ser.of_eq {p : Int} {f g : Nat → Int} (h : ∀ k, f k % p = g k % p) : Ser.of p f = Ser.of p g := Ser.ext_ h
variable {p : Int}
instance : Add (Ser p) := ⟨fun a b => .of p fun k => a.co k + b.co k⟩
instance : Neg (Ser p) := ⟨fun a => .of p fun k => - a.co k⟩
instance : Sub (Ser p) := ⟨fun a b => .of p fun k => a.co k - b.co k⟩
instance : Mul (Ser p) := ⟨fun a b => .of p (cv a.co b.co)⟩
def Ser.C (p c : Int) : Ser p := .of p fun k => if k = 0 then c else 0
instance : OfNat (Ser p) 0 := ⟨.of p fun _ => 0⟩
instance : OfNat (Ser p) 1 := ⟨.C p 1⟩
namespace Ser
theorem add_co (a b : Ser p) (k : Nat) : (a + b).co k = (a.co k + b.co k) % p := rfl
theorem sub_co (a b : Ser p) (k : Nat) : (a - b).co k = (a.co k - b.co k) % p := rfl
theorem mul_co (a b : Ser p) (k : Nat) : (a * b).co k = cv a.co b.co k % p := rfl
theorem zero_co (k : Nat) : (0 : Ser p).co k = 0 := Int.zero_emod p
theorem C_co (c : Int) (k : Nat) : (C p c).co k = if k = 0 then c % p else 0 := by
  show (if k = 0 then c else 0) % p = _
  split <;> simp
theorem add_comm (a b : Ser p) : a + b = b + a := ext_ fun k => by rw [add_co, add_co, Int.add_comm]
theorem add_assoc (a b c : Ser p) : a + b + c = a + (b + c) := ext_ fun k => by
  rw [add_co, add_co, add_co, add_co, ma_l, ma_r, Int.add_assoc]
theorem add_zero (a : Ser p) : a + 0 = a := ext_ fun k => by rw [add_co, zero_co, Int.add_zero, a.ok]
theorem zero_add (a : Ser p) : 0 + a = a := by rw [add_comm, add_zero]
theorem sub_self (a : Ser p) : a - a = 0 := ext_ fun k => by rw [sub_co, zero_co, Int.sub_self, Int.zero_emod]
theorem sub_zero (a : Ser p) : a - 0 = a := ext_ fun k => by rw [sub_co, zero_co, Int.sub_zero, a.ok]
theorem sub_add (a b : Ser p) : a - b + b = a := ext_ fun k => by rw [add_co, sub_co, ma_l, Int.sub_add_cancel, a.ok]
theorem add_sub (a b : Ser p) : a + b - b = a := ext_ fun k => by rw [sub_co, add_co, ms_l, Int.add_sub_cancel, a.ok]
theorem eq_sub {a b c : Ser p} (h : a + b = c) : a = c - b := by rw [← h, add_sub]
theorem sub_eq {a b c : Ser p} (h : a = c + b) : a - b = c := by rw [h, add_sub]
theorem add_right_cancel {a b c : Ser p} (h : a + c = b + c) : a = b := by rw [← add_sub a c, h, add_sub]
theorem mul_comm (a b : Ser p) : a * b = b * a := ext_ fun k => by rw [mul_co, mul_co, cv_comm]
theorem mul_assoc (a b c : Ser p) : a * b * c = a * (b * c) := ext_ fun k => by
  show cv (fun i => cv a.co b.co i % p) c.co k % p = cv a.co (fun i => cv b.co c.co i % p) k % p
  rw [cv_mod (f' := cv a.co b.co) (g' := c.co) (fun i => Int.emod_emod_of_dvd _ (Int.dvd_refl _)) (fun _ => rfl),
    cv_mod (f := a.co) (f' := a.co) (g' := cv b.co c.co) (fun _ => rfl) (fun i => Int.emod_emod_of_dvd _ (Int.dvd_refl _)), cv_assoc]
theorem mul_add (a b c : Ser p) : a * (b + c) = a * b + a * c := ext_ fun k => by
  show cv a.co (fun i => (b.co i + c.co i) % p) k % p = (cv a.co b.co k % p + cv a.co c.co k % p) % p
  rw [cv_mod (f' := a.co) (g' := fun i => b.co i + c.co i) (fun _ => rfl) (fun i => Int.emod_emod_of_dvd _ (Int.dvd_refl _)), cv_add, ma_l, ma_r]
theorem add_mul (a b c : Ser p) : (a + b) * c = a * c + b * c := by rw [mul_comm, mul_add, mul_comm c a, mul_comm c b]
theorem mul_one (a : Ser p) : a * 1 = a := ext_ fun k => by
  show cv a.co (fun i => (if i = 0 then 1 else 0) % p) k % p = _
  rw [cv_mod (f' := a.co) (g' := fun i => if i = 0 then 1 else 0) (fun _ => rfl) (fun i => Int.emod_emod_of_dvd _ (Int.dvd_refl _)), cv_one, a.ok]
theorem one_mul (a : Ser p) : 1 * a = a := by rw [mul_comm, mul_one]
theorem mul_zero (a : Ser p) : a * 0 = 0 := add_right_cancel (c := a * 0) (by rw [← mul_add, add_zero, zero_add])
theorem zero_mul (a : Ser p) : 0 * a = 0 := by rw [mul_comm, mul_zero]
theorem sub_mul (a b c : Ser p) : (a - b) * c = a * c - b * c := eq_sub (by rw [← add_mul, sub_add])
theorem mul_sub (a b c : Ser p) : a * (b - c) = a * b - a * c := eq_sub (by rw [← mul_add, sub_add])
theorem mul_left_comm (a b c : Ser p) : a * (b * c) = b * (a * c) := by rw [← mul_assoc, mul_comm a b, mul_assoc]
theorem eq_of_sub {a b : Ser p} (h : a - b = 0) : a = b := by rw [← sub_add a b, h, zero_add]
theorem C_mul_co (c : Int) (a : Ser p) (k : Nat) : (C p c * a).co k = c * a.co k % p := by
  rw [mul_comm]
  show cv a.co (fun i => (if i = 0 then c else 0) % p) k % p = _
  rw [cv_mod (f' := a.co) (g' := fun i => if i = 0 then c else 0) (fun _ => rfl) (fun i => Int.emod_emod_of_dvd _ (Int.dvd_refl _))]
  unfold cv
  rw [sm, sm_zero fun i hi => by simp only []; rw [if_neg (by omega), Int.mul_zero], Int.mul_comm c]
  simp
theorem C_one : C p 1 = 1 := rfl
theorem C_zero : C p 0 = 0 := ext_ fun k => by rw [C_co, zero_co]; simp
theorem C_mul (c d : Int) : C p c * C p d = C p (c * d) := ext_ fun k => by
  rw [C_mul_co, C_co, C_co]
  split
  · rw [mm_r]
  · simp
theorem C_congr {c d : Int} (h : c % p = d % p) : C p c = C p d := ext_ fun k => by rw [C_co, C_co, h]
end Ser
instance : Std.Associative (α := Ser p) (· * ·) := ⟨Ser.mul_assoc⟩
instance : Std.Commutative (α := Ser p) (· * ·) := ⟨Ser.mul_comm⟩
instance : Std.Associative (α := Ser p) (· + ·) := ⟨Ser.add_assoc⟩
instance : Std.Commutative (α := Ser p) (· + ·) := ⟨Ser.add_comm⟩
end Go.Proofs.YthomeenmcajmdaaGreatDoor
namespace Go.Proofs.YthomeenmcajmdaaGreatDoor
open Go.RowKit
theorem hid {p : Prop} (h : p) : Hid p := h
theorem ret_int {k : IntKind} {a b : Int} (h : a = b) : Ending.returned (.int k a) = .returned (.int k b) := by rw [h]
theorem ret_bool {a b : Bool} (h : a = b) : Ending.returned (.bool a) = .returned (.bool b) := by rw [h]
theorem ret_int2 {k k' : IntKind} {a b c d : Int} (h : a = b) (h' : c = d) : Ending.returned (.tuple #[.int k a, .int k' c]) = .returned (.tuple #[.int k b, .int k' d]) := by rw [h, h']
theorem u64_wrap (n : Int) : IntKind.u64.wrap n = n % 18446744073709551616 := by
  simp [IntKind.wrap, IntKind.bits, IntKind.signed]
end Go.Proofs.YthomeenmcajmdaaGreatDoor
namespace Go.Proofs.YthomeenmcajmdaaGreatDoor
namespace Knuth
theorem mul_le {a b c : Int} (h : a ≤ b) (hc : 0 ≤ c) : a * c ≤ b * c := Int.mul_le_mul_of_nonneg_right h hc
section
variable (y1 y0 U l q r : Int)
theorem split (h : q * y1 + r = U) : q * (y1 * 4294967296 + y0) = (U - r) * 4294967296 + q * y0 := by grind
theorem lt_of (Y N q : Int) (hY : 0 < Y) (h : N < (q + 1) * Y) : N / Y ≤ q := by
  have := (Int.ediv_lt_iff_lt_mul hY).2 h; omega
theorem ge_of (Y N q : Int) (hY : 0 < Y) (h : q * Y ≤ N) : q ≤ N / Y := (Int.le_ediv_iff_mul_le hY).2 h
theorem start (h1 : 0 < y1) (h0 : 0 ≤ y0) (hl : l < 4294967296) (hU : 0 ≤ U) : (U * 4294967296 + l) / (y1 * 4294967296 + y0) ≤ U / y1 := by
  refine lt_of _ _ _ (by omega) ?_
  have h := Int.lt_ediv_add_one_mul_self U h1
  have hq : 0 ≤ U / y1 := Int.ediv_nonneg hU (by omega)
  have : 0 ≤ (U / y1 + 1) * y0 := Int.mul_nonneg (by omega) h0
  have e : (U / y1 + 1) * (y1 * 4294967296 + y0) = (U / y1 + 1) * y1 * 4294967296 + (U / y1 + 1) * y0 := by grind
  omega
theorem stop (h1 : 0 < y1) (h0 : 0 ≤ y0) (h : q * y1 + r = U) (hc : q * y0 ≤ 4294967296 * r + l) : q ≤ (U * 4294967296 + l) / (y1 * 4294967296 + y0) := by
  refine ge_of _ _ _ (by omega) ?_
  rw [split y1 y0 U q r h]; omega
theorem more (h1 : 0 < y1) (h0 : 0 ≤ y0) (h : q * y1 + r = U) (hc : 4294967296 * r + l < q * y0) : (U * 4294967296 + l) / (y1 * 4294967296 + y0) ≤ q - 1 := by
  refine lt_of _ _ _ (by omega) ?_
  rw [show q - 1 + 1 = q by omega, split y1 y0 U q r h]; omega
theorem small (h1 : 0 < y1) (h0 : 0 ≤ y0) (hU : U < y1 * 4294967296 + y0) (hl : l < 4294967296) : (U * 4294967296 + l) / (y1 * 4294967296 + y0) ≤ 4294967295 := by
  refine lt_of _ _ _ (by omega) ?_
  omega
theorem out (h1 : 0 < y1) (h0 : 0 ≤ y0) (hy0 : y0 ≤ 4294967296) (hU : U < y1 * 4294967296 + y0) (hl : 0 ≤ l) (h : q * y1 + r = U) (hr : 4294967296 ≤ r) : q ≤ (U * 4294967296 + l) / (y1 * 4294967296 + y0) := by
  refine stop y1 y0 U l q r h1 h0 h ?_
  by_cases hq : q ≤ 4294967296
  · have := Int.mul_le_mul hq hy0 h0 (by omega); omega
  · have := mul_le (show 4294967296 ≤ q by omega) (show 0 ≤ y1 by omega)
    omega
theorem down (h : q * y1 + r = U) : (q - 1) * y1 + (r + y1) = U := by grind
theorem qbound (h1 : 2147483648 ≤ y1) (h0 : y0 < 4294967296) (hU0 : 0 ≤ U) (hU : U < y1 * 4294967296 + y0) : 0 ≤ U / y1 ∧ U / y1 ≤ 4294967300 := by
  refine ⟨Int.ediv_nonneg hU0 (by omega), ?_⟩
  refine lt_of _ _ _ (by omega) ?_
  have := mul_le h1 (show (0:Int) ≤ 5 by omega)
  omega
end
theorem rest (U l Y : Int) (hY : 0 < Y) (hY2 : Y ≤ 18446744073709551615) :
    ((U * 4294967296 % 18446744073709551616 + l) % 18446744073709551616 - ((U * 4294967296 + l) / Y * Y) % 18446744073709551616) % 18446744073709551616 = (U * 4294967296 + l) % Y := by
  have h1 := Int.emod_nonneg (U * 4294967296 + l) (show Y ≠ 0 by omega)
  have h2 := Int.emod_lt_of_pos (U * 4294967296 + l) hY
  have h3 := Int.ediv_mul_add_emod (U * 4294967296 + l) Y
  generalize (U * 4294967296 + l) / Y * Y = z at *
  generalize (U * 4294967296 + l) % Y = m at *
  omega
theorem two (U l1 l0 Y : Int) (hY : 0 < Y) :
    ((U * 4294967296 + l1) * 4294967296 + l0) / Y = (U * 4294967296 + l1) / Y * 4294967296 + ((U * 4294967296 + l1) % Y * 4294967296 + l0) / Y ∧
    ((U * 4294967296 + l1) * 4294967296 + l0) % Y = ((U * 4294967296 + l1) % Y * 4294967296 + l0) % Y := by
  generalize U * 4294967296 + l1 = N
  have h := Int.ediv_mul_add_emod N Y
  generalize hq : N / Y = q at *
  generalize hm : N % Y = m at *
  have e : N * 4294967296 + l0 = (m * 4294967296 + l0) + (q * 4294967296) * Y := by grind
  rw [e, Int.add_mul_ediv_right _ _ (by omega), Int.add_mul_emod_self_right]
  exact ⟨by omega, rfl⟩
theorem scale (N y s : Int) (hs : 0 < s) : (N * s) / (y * s) = N / y ∧ (N * s) % (y * s) / s = N % y := by
  refine ⟨Int.mul_ediv_mul_of_pos_left _ _ hs, ?_⟩
  rw [Int.mul_comm N, Int.mul_comm y, Int.mul_emod_mul_of_pos _ _ hs, Int.mul_ediv_cancel_left _ (by omega)]
theorem shift (hi lo y : Int) (h0 : 0 < hi) (h1 : hi < y) (hy : y ≤ 18446744073709551615) (hl0 : 0 ≤ lo) (hl : lo ≤ 18446744073709551615) :
    ∃ S T Y U L : Int, 0 < S ∧ (2 : Int) ^ (64 - bitLen y.toNat) = S ∧ (2 : Int) ^ (64 - (64 - bitLen y.toNat)) = T ∧ IntKind.u64.wrap (y * S) = Y ∧ bits .or .u64 (IntKind.u64.wrap (hi * S)) (lo / T) = U ∧
      IntKind.u64.wrap (lo * S) = L ∧ Y = y * S ∧ 9223372036854775808 ≤ Y ∧ Y ≤ 18446744073709551615 ∧ 0 ≤ U ∧ U < Y ∧ 0 ≤ L ∧ L ≤ 18446744073709551615 ∧ U * 18446744073709551616 + L = (hi * 18446744073709551616 + lo) * S := by
  obtain ⟨n, rfl⟩ := Int.eq_ofNat_of_zero_le (show 0 ≤ y by omega)
  rw [Int.toNat_natCast]
  obtain ⟨hb1, hb2⟩ := bitLen_spec n
  have hb2 := hb2 (by omega)
  have hb3 : 1 ≤ bitLen n := by unfold bitLen; split <;> omega
  have hb4 : bitLen n ≤ 64 := by
    unfold bitLen
    split
    · omega
    · rename_i hn
      have : n.log2 < 64 := (Nat.log2_lt hn).2 (by omega)
      omega
  generalize bitLen n = b at *
  have e1 : 64 - (64 - b) = b := by omega
  rw [e1]
  have hS : (0 : Int) < 2 ^ (64 - b) := Int.pow_pos (by decide)
  have hT : (0 : Int) < 2 ^ b := Int.pow_pos (by decide)
  have hST : (2 : Int) ^ b * 2 ^ (64 - b) = 18446744073709551616 := by rw [← Int.pow_add, show b + (64 - b) = 64 by omega]; decide
  have hT2 : (2 : Int) ^ b = 2 * 2 ^ (b - 1) := by rw [show b = (b - 1) + 1 by omega, Int.pow_succ, Nat.add_sub_cancel]; omega
  have k1 : (n : Int) < 2 ^ b := by exact_mod_cast hb1
  have k2 : (2 : Int) ^ (b - 1) ≤ n := by exact_mod_cast hb2
  have hSn : 0 ≤ 64 - b := by omega
  refine ⟨2 ^ (64 - b), 2 ^ b, n * 2 ^ (64 - b), hi * 2 ^ (64 - b) + lo / 2 ^ b, lo * 2 ^ (64 - b) % 18446744073709551616, hS, rfl, rfl, ?_⟩
  have hdvd : hi * 2 ^ (64 - b) % 2 ^ (64 - b) = 0 := Int.mul_emod_left _ _
  have j : ∀ x y : Int, 0 ≤ x → x % 2 ^ (64 - b) = 0 → x < 18446744073709551616 → 0 ≤ y → y < 2 ^ (64 - b) → y < 18446744073709551616 → bits .or .u64 x y = x + y := fun x y a1 a2 a3 a4 a5 a6 =>
    Go.bits_join .u64 64 (by decide) (fun n h0 h1 => by rw [u64_wrap]; omega) (64 - b) x y a1 a2 a3 a4 a5 a6
  generalize hSS : (2 : Int) ^ (64 - b) = S at *
  generalize hTT : (2 : Int) ^ b = T at *
  generalize (2 : Int) ^ (b - 1) = T' at *
  have m1 := mul_le (show T' ≤ (n : Int) by omega) (show 0 ≤ S by omega)
  have m2 := mul_le (show (n : Int) + 1 ≤ T by omega) (show 0 ≤ S by omega)
  have m3 := mul_le (show hi + 1 ≤ (n : Int) by omega) (show 0 ≤ S by omega)
  have m4 := mul_le (show 1 ≤ hi by omega) (show 0 ≤ S by omega)
  have d1 : T' * S * 2 = T * S := by rw [hT2]; grind
  have d2 : ((n : Int) + 1) * S = n * S + S := by grind
  have d3 : (hi + 1) * S = hi * S + S := by grind
  have q1 : lo / T < S := by
    refine (Int.ediv_lt_iff_lt_mul hT).2 ?_
    rw [Int.mul_comm, hST]; omega
  have q0 : 0 ≤ lo / T := Int.ediv_nonneg hl0 (by omega)
  have hw1 : IntKind.u64.wrap (hi * S) = hi * S := by rw [u64_wrap]; omega
  have hL : lo * S % 18446744073709551616 = lo % T * S := by rw [← hST, Int.mul_comm lo, Int.mul_comm T, Int.mul_emod_mul_of_pos _ _ hS, Int.mul_comm]
  have d4 := Int.ediv_mul_add_emod lo T
  refine ⟨by rw [u64_wrap]; omega, ?_, by rw [u64_wrap], rfl, by omega, by omega, by omega, by omega, Int.emod_nonneg _ (by omega), by have := Int.emod_lt_of_pos (lo * S) (show (0:Int) < 18446744073709551616 by omega); omega, ?_⟩
  · rw [hw1]
    exact j _ _ (by omega) hdvd (by omega) q0 q1 (by omega)
  · rw [hL, ← hST]
    generalize lo / T = u at *
    generalize lo % T = v at *
    subst d4
    grind
end Knuth
end Go.Proofs.YthomeenmcajmdaaGreatDoor
namespace Go.Proofs.YthomeenmcajmdaaGreatDoor
open Go.RowKit
set_option maxHeartbeats 400000 in
theorem mul64_any (x y : Int) (w : World) (hx0 : 0 ≤ x) (hx : x ≤ 18446744073709551615) (hy0 : 0 ≤ y) (hy : y ≤ 18446744073709551615) :
    Calls Tryz.prog 81 #[.int .u64 x, .int .u64 y] w fun e w' => e = .returned (.tuple #[.int .u64 (x * y / 18446744073709551616), .int .u64 (x * y % 18446744073709551616)]) ∧ w = w' := by
  go_enter Tryz.func81, Tryz.ntmps81
  go_wp2
  go_ret2
  refine ⟨ret_int2 ?_ (u64_wrap _), rfl⟩
  have a1 := and_low32 x hx0 (by omega)
  have a2 := and_low32 y hy0 (by omega)
  rw [← mul64_arith x y hx0 (by omega) hy0 (by omega)]
  simp only [u64_wrap, a1, a2]
  rw [and_low32 _ (by omega) (by omega)]
theorem bitLen_toNat_shift (x : Int) (b : Nat) (k : Int) (hk : k = ((2 ^ b : Nat) : Int)) (h0 : 0 ≤ x) (h : k ≤ x) : (bitLen x.toNat : Int) = b + bitLen (x / k).toNat := by
  subst hk
  obtain ⟨n, rfl⟩ := Int.eq_ofNat_of_zero_le h0
  have hp : 0 < 2 ^ b := Nat.two_pow_pos b
  have hn : 2 ^ b ≤ n := by exact_mod_cast h
  rw [show ((n : Int) / ((2 ^ b : Nat) : Int)) = ((n / 2 ^ b : Nat) : Int) from rfl, Int.toNat_natCast, Int.toNat_natCast,
    bitLen_shift n b (by have := Nat.div_pos hn hp; omega)]
  simp
theorem len_close (c t : Nat) (y : Int) (hc : c ≤ 56) (h0 : 0 ≤ y) (h : y < 256) (ht : t = bitLen y.toNat) : wrap64 (c + wrap64 t) = ((c + bitLen y.toNat : Nat) : Int) := by
  have hb := bitLen_le8 y.toNat (by omega)
  subst ht
  rw [IntWalk.wrap64_in (bitLen y.toNat : Int) (by omega), IntWalk.wrap64_in _ (by omega)]
  omega
theorem len_close0 (t : Nat) (y : Int) (h0 : 0 ≤ y) (h : y < 256) (ht : t = bitLen y.toNat) : wrap64 (wrap64 t) = (bitLen y.toNat : Int) := by
  have := len_close 0 t y (by omega) h0 h ht
  simpa using this
theorem sh32 (x : Int) (h : 4294967296 ≤ x) : bitLen x.toNat = 32 + bitLen (x / 4294967296).toNat := by
  have := bitLen_toNat_shift x 32 4294967296 (by decide) (by omega) h; omega
theorem sh16 (x : Int) (h : 65536 ≤ x) : bitLen x.toNat = 16 + bitLen (x / 65536).toNat := by
  have := bitLen_toNat_shift x 16 65536 (by decide) (by omega) h; omega
theorem sh8 (x : Int) (h : 256 ≤ x) : bitLen x.toNat = 8 + bitLen (x / 256).toNat := by
  have := bitLen_toNat_shift x 8 256 (by decide) (by omega) h; omega
set_option maxRecDepth 100000 in
set_option maxHeartbeats 400000 in
theorem len64_any (x : Int) (w : World) (hx0 : 0 ≤ x) (hx : x ≤ 18446744073709551615) :
    Calls Tryz.prog 134 #[.int .u64 x] w fun e w' => e = .returned (.int .i64 (bitLen x.toNat)) ∧ w = w' := by
  go_enter Tryz.func134, Tryz.ntmps134
  go_wp2
  all_goals (go_ret; refine ⟨ret_int ?_, rfl⟩)
  · rw [sh32 x (by omega), sh16 (x / 4294967296) (by omega), sh8 (x / 4294967296 / 65536) (by omega)]
    exact len_close 56 _ _ (by omega) (by omega) (by omega) (len8tab_get _ _) |>.trans (by omega)
  · rw [sh32 x (by omega), sh16 (x / 4294967296) (by omega)]
    exact len_close 48 _ _ (by omega) (by omega) (by omega) (len8tab_get _ _) |>.trans (by omega)
  · rw [sh32 x (by omega), sh8 (x / 4294967296) (by omega)]
    exact len_close 40 _ _ (by omega) (by omega) (by omega) (len8tab_get _ _) |>.trans (by omega)
  · rw [sh32 x (by omega)]
    exact len_close 32 _ _ (by omega) (by omega) (by omega) (len8tab_get _ _) |>.trans (by omega)
  · rw [sh16 x (by omega), sh8 (x / 65536) (by omega)]
    exact len_close 24 _ _ (by omega) (by omega) (by omega) (len8tab_get _ _) |>.trans (by omega)
  · rw [sh16 x (by omega)]
    exact len_close 16 _ _ (by omega) (by omega) (by omega) (len8tab_get _ _) |>.trans (by omega)
  · rw [sh8 x (by omega)]
    exact len_close 8 _ _ (by omega) (by omega) (by omega) (len8tab_get _ _) |>.trans (by omega)
  · exact len_close0 _ _ (by omega) (by omega) (len8tab_get _ _)
theorem bitLen_le64 (x : Int) (h0 : 0 ≤ x) (hx : x ≤ 18446744073709551615) : bitLen x.toNat ≤ 64 := by
  obtain ⟨n, rfl⟩ := Int.eq_ofNat_of_zero_le h0
  rw [Int.toNat_natCast]
  unfold bitLen
  split
  · omega
  · rename_i hn
    have : n.log2 < 64 := (Nat.log2_lt hn).2 (by omega)
    omega
set_option maxHeartbeats 400000 in
theorem lz64_any (x : Int) (w : World) (hx0 : 0 ≤ x) (hx : x ≤ 18446744073709551615) :
    Calls Tryz.prog 136 #[.int .u64 x] w fun e w' => e = .returned (.int .i64 (64 - bitLen x.toNat)) ∧ w = w' := by
  have hb := bitLen_le64 x hx0 hx
  go_enter Tryz.func136, Tryz.ntmps136
  go_wp2_with (go_at_call 134; refine (len64_any _ _ hx0 hx).mono ?_; rintro e w' ⟨rfl, rfl⟩)
  go_ret
  exact ⟨rfl, rfl⟩
set_option maxRecDepth 100000 in
set_option maxHeartbeats 400000 in
theorem div64_hi (hi lo y : Int) (w : World) (h0 : 0 < hi) (h1 : hi < y) (hy : y ≤ 18446744073709551615) (hl0 : 0 ≤ lo) (hl : lo ≤ 18446744073709551615) :
    Calls Tryz.prog 108 #[.int .u64 hi, .int .u64 lo, .int .u64 y] w fun e w' => e = .returned (.tuple #[.int .u64 ((hi * 18446744073709551616 + lo) / y), .int .u64 ((hi * 18446744073709551616 + lo) % y)]) ∧ w = w' := by
  have hb := bitLen_le64 y (by omega) hy
  have c1 : (y == 0) = false := by simp; omega
  have c2 : decide (y ≤ hi) = false := by simp; omega
  have c3 : (hi == 0) = false := by simp; omega
  obtain ⟨S, T, Y, U, L, hS, eS, eT, eY, eU, eL, hYS, hY0, hY1, hU0, hU1, hL0, hL1, hUL⟩ := Knuth.shift hi lo y h0 h1 hy hl0 hl
  have HYS := hid hYS; clear hYS
  have HUL := hid hUL; clear hUL
  have a1 := and_low32 Y (by omega) (by omega)
  have a2 := and_low32 L (by omega) (by omega)
  obtain ⟨y1, hy1⟩ : ∃ y1, Y / 4294967296 = y1 := ⟨_, rfl⟩
  obtain ⟨y0, hy0⟩ : ∃ y0, Y % 4294967296 = y0 := ⟨_, rfl⟩
  obtain ⟨l1, hl1⟩ : ∃ l1, L / 4294967296 = l1 := ⟨_, rfl⟩
  obtain ⟨l0, hl0⟩ : ∃ l0, L % 4294967296 = l0 := ⟨_, rfl⟩
  have b1 : 2147483648 ≤ y1 ∧ y1 ≤ 4294967295 := by omega
  have b0 : 0 ≤ y0 ∧ y0 ≤ 4294967295 := by omega
  have b3 : 0 ≤ l1 ∧ l1 ≤ 4294967295 := by omega
  have b2 : 0 ≤ l0 ∧ l0 ≤ 4294967295 := by omega
  have c4 : (y1 == 0) = false := by simp; omega
  have k0 : Y = y1 * 4294967296 + y0 := by omega
  have hQs := Knuth.start y1 y0 U l1 (by omega) (by omega) (by omega) hU0
  have hQb := Knuth.small y1 y0 U l1 (by omega) (by omega) (by omega) (by omega)
  have hqb := Knuth.qbound y1 y0 U (by omega) (by omega) hU0 (by omega)
  rw [← k0] at hQs hQb
  have hr := Knuth.rest U l1 Y (by omega) hY1
  have hR0 := Int.emod_nonneg (U * 4294967296 + l1) (show Y ≠ 0 by omega)
  have hR1 := Int.emod_lt_of_pos (U * 4294967296 + l1) (show 0 < Y by omega)
  have hQ0 : 0 ≤ (U * 4294967296 + l1) / Y := Int.ediv_nonneg (by omega) (by omega)
  have htwo := Knuth.two U l1 l0 Y (by omega)
  obtain ⟨Q, hQ⟩ : ∃ Q, (U * 4294967296 + l1) / Y = Q := ⟨_, rfl⟩
  obtain ⟨R, hR⟩ : ∃ R, (U * 4294967296 + l1) % Y = R := ⟨_, rfl⟩
  rw [hQ] at hQs hQb hQ0 hr
  rw [hR] at hr hR0 hR1
  rw [hQ, hR] at htwo
  have eR : IntKind.u64.wrap (IntKind.u64.wrap (IntKind.u64.wrap (U * 4294967296) + l1) - IntKind.u64.wrap (Q * Y)) = R := by simp only [u64_wrap]; exact hr
  have em1 := Int.ediv_mul_add_emod U y1
  have em2 := Int.emod_nonneg U (show y1 ≠ 0 by omega)
  have em3 := Int.emod_lt_of_pos U (show 0 < y1 by omega)
  have er : IntKind.u64.wrap (U - IntKind.u64.wrap (U / y1 * y1)) = U % y1 := by simp only [u64_wrap]; generalize U / y1 * y1 = z at *; generalize U % y1 = m at *; omega
  have hQs2 := Knuth.start y1 y0 R l0 (by omega) (by omega) (by omega) hR0
  have hQb2 := Knuth.small y1 y0 R l0 (by omega) (by omega) (by omega) (by omega)
  have hqb2 := Knuth.qbound y1 y0 R (by omega) (by omega) hR0 (by omega)
  rw [← k0] at hQs2 hQb2
  have hr2 := Knuth.rest R l0 Y (by omega) hY1
  have hQ02 : 0 ≤ (R * 4294967296 + l0) / Y := Int.ediv_nonneg (by omega) (by omega)
  have hP0 := Int.emod_nonneg (R * 4294967296 + l0) (show Y ≠ 0 by omega)
  have hP1 := Int.emod_lt_of_pos (R * 4294967296 + l0) (show 0 < Y by omega)
  obtain ⟨Q2, hQ2⟩ : ∃ Q, (R * 4294967296 + l0) / Y = Q := ⟨_, rfl⟩
  obtain ⟨R2, hR2⟩ : ∃ R', (R * 4294967296 + l0) % Y = R' := ⟨_, rfl⟩
  rw [hQ2] at hQs2 hQb2 hQ02 hr2
  rw [hR2] at hr2 hP0 hP1
  rw [hQ2, hR2] at htwo
  have eR2 : IntKind.u64.wrap (IntKind.u64.wrap (IntKind.u64.wrap (R * 4294967296) + l0) - IntKind.u64.wrap (Q2 * Y)) = R2 := by simp only [u64_wrap]; exact hr2
  have en1 := Int.ediv_mul_add_emod R y1
  have en2 := Int.emod_nonneg R (show y1 ≠ 0 by omega)
  have en3 := Int.emod_lt_of_pos R (show 0 < y1 by omega)
  have er2 : IntKind.u64.wrap (R - IntKind.u64.wrap (R / y1 * y1)) = R % y1 := by simp only [u64_wrap]; generalize R / y1 * y1 = z at *; generalize R % y1 = m at *; omega
  have hsc := Knuth.scale (hi * 18446744073709551616 + lo) y S hS
  rw [← HYS.out, ← HUL.out] at hsc
  have hL := Int.ediv_mul_add_emod L 4294967296
  rw [hl1, hl0] at hL
  rw [show U * 18446744073709551616 + L = (U * 4294967296 + l1) * 4294967296 + l0 by omega, htwo.1, htwo.2] at hsc
  have eF : IntKind.u64.wrap (IntKind.u64.wrap (Q * 4294967296) + Q2) = Q * 4294967296 + Q2 := by simp only [u64_wrap]; omega
  have Fin := hid (And.intro hsc.1 hsc.2)
  clear hsc htwo hL
  have K0 := hid k0; clear k0
  have HQ := hid hQ; clear hQ
  have HR := hid hR; clear hR
  have HQ2 := hid hQ2; clear hQ2
  have HR2 := hid hR2; clear hR2
  have Em1 := hid em1; clear em1
  have En1 := hid en1; clear en1
  clear hr hr2
  go_enter Tryz.func108, Tryz.ntmps108
  go_wp2_with (go_at_call 136; refine (lz64_any _ _ (by omega) hy).mono ?_; rintro e w' ⟨rfl, rfl⟩)
  go_loop [15, 16] (fun a b => ∃ q r : Int, a = .int .u64 q ∧ b = .int .u64 r ∧ q * y1 + r = U ∧ 0 ≤ r ∧ r < 4294967296 ∧ Q ≤ q ∧ q ≤ 4294967300) (fun _ b => 4294967296 - (intOf b).toNat)
  case atStart => exact ⟨_, _, rfl, rfl, Em1.out, by omega, by omega, hQs, by omega⟩
  case round =>
    obtain ⟨q, r, rfl, rfl, he, hr0, hr1, hq0, hq1⟩ := hrel
    have He := hid he; clear he
    by_cases hq : 4294967296 ≤ q
    · have hd := Knuth.down y1 U q r He.out
      have Hd := hid hd; clear hd
      by_cases hx : 4294967296 ≤ r + y1
      · have ho := Knuth.out y1 y0 U l1 (q - 1) (r + y1) (by omega) b0.1 (by omega) (by omega) (by omega) Hd.out hx
        rw [← K0.out, HQ.out] at ho
        have eq : q - 1 = Q := by omega
        clear ho
        go_wp2
        go_loop [18, 16] (fun a b => ∃ q r : Int, a = .int .u64 q ∧ b = .int .u64 r ∧ q * y1 + r = R ∧ 0 ≤ r ∧ r < 4294967296 ∧ Q2 ≤ q ∧ q ≤ 4294967300) (fun _ b => 4294967296 - (intOf b).toNat)
        case atStart => exact ⟨_, _, rfl, rfl, En1.out, by omega, by omega, hQs2, by omega⟩
        case round =>
          clear hq hr0 hr1 hq0 hq1 He
          obtain ⟨q, r, rfl, rfl, he, hr0, hr1, hq0, hq1⟩ := hrel
          have He := hid he; clear he
          by_cases hq : 4294967296 ≤ q
          · have hd := Knuth.down y1 R q r He.out
            have Hd := hid hd; clear hd
            by_cases hx : 4294967296 ≤ r + y1
            · have ho := Knuth.out y1 y0 R l0 (q - 1) (r + y1) (by omega) b0.1 (by omega) (by omega) (by omega) Hd.out hx
              rw [← K0.out, HQ2.out] at ho
              have eq : q - 1 = Q2 := by omega
              clear ho
              go_wp2
              go_ret2
              exact ⟨ret_int2 Fin.out.1 Fin.out.2, rfl⟩
            · go_wp2
              go_round
              case rel => exact ⟨q - 1, r + y1, rfl, rfl, Hd.out, by omega, by omega, by omega, by omega⟩
              case measure => simp [intOf]; omega
          · have p1 := Int.mul_nonneg (show 0 ≤ q by omega) b0.1
            have p2 := Int.mul_le_mul (show q ≤ 4294967296 by omega) b0.2 b0.1 (by omega)
            by_cases hc : 4294967296 * r + l0 < q * y0
            · have hm := Knuth.more y1 y0 R l0 q r (by omega) b0.1 He.out hc
              rw [← K0.out, HQ2.out] at hm
              have hd := Knuth.down y1 R q r He.out
              have Hd := hid hd; clear hd
              by_cases hx : 4294967296 ≤ r + y1
              · have ho := Knuth.out y1 y0 R l0 (q - 1) (r + y1) (by omega) b0.1 (by omega) (by omega) (by omega) Hd.out hx
                rw [← K0.out, HQ2.out] at ho
                have eq : q - 1 = Q2 := by omega
                clear ho
                go_wp2
                go_ret2
                exact ⟨ret_int2 Fin.out.1 Fin.out.2, rfl⟩
              · go_wp2
                go_round
                case rel => exact ⟨q - 1, r + y1, rfl, rfl, Hd.out, by omega, by omega, by omega, by omega⟩
                case measure => simp [intOf]; omega
            · have := Knuth.stop y1 y0 R l0 q r (by omega) b0.1 He.out (by omega)
              rw [← K0.out, HQ2.out] at this
              obtain rfl : Q2 = q := by omega
              go_wp2
              go_ret2
              exact ⟨ret_int2 Fin.out.1 Fin.out.2, rfl⟩
      · go_wp2
        go_round
        case rel => exact ⟨q - 1, r + y1, rfl, rfl, Hd.out, by omega, by omega, by omega, by omega⟩
        case measure => simp [intOf]; omega
    · have p1 := Int.mul_nonneg (show 0 ≤ q by omega) b0.1
      have p2 := Int.mul_le_mul (show q ≤ 4294967296 by omega) b0.2 b0.1 (by omega)
      by_cases hc : 4294967296 * r + l1 < q * y0
      · have hm := Knuth.more y1 y0 U l1 q r (by omega) b0.1 He.out hc
        rw [← K0.out, HQ.out] at hm
        have hd := Knuth.down y1 U q r He.out
        have Hd := hid hd; clear hd
        by_cases hx : 4294967296 ≤ r + y1
        · have ho := Knuth.out y1 y0 U l1 (q - 1) (r + y1) (by omega) b0.1 (by omega) (by omega) (by omega) Hd.out hx
          rw [← K0.out, HQ.out] at ho
          have eq : q - 1 = Q := by omega
          clear ho
          go_wp2
          go_loop [18, 16] (fun a b => ∃ q r : Int, a = .int .u64 q ∧ b = .int .u64 r ∧ q * y1 + r = R ∧ 0 ≤ r ∧ r < 4294967296 ∧ Q2 ≤ q ∧ q ≤ 4294967300) (fun _ b => 4294967296 - (intOf b).toNat)
          case atStart => exact ⟨_, _, rfl, rfl, En1.out, by omega, by omega, hQs2, by omega⟩
          case round =>
            clear hq hr0 hr1 hq0 hq1 He
            obtain ⟨q, r, rfl, rfl, he, hr0, hr1, hq0, hq1⟩ := hrel
            have He := hid he; clear he
            by_cases hq : 4294967296 ≤ q
            · have hd := Knuth.down y1 R q r He.out
              have Hd := hid hd; clear hd
              by_cases hx : 4294967296 ≤ r + y1
              · have ho := Knuth.out y1 y0 R l0 (q - 1) (r + y1) (by omega) b0.1 (by omega) (by omega) (by omega) Hd.out hx
                rw [← K0.out, HQ2.out] at ho
                have eq : q - 1 = Q2 := by omega
                clear ho
                go_wp2
                go_ret2
                exact ⟨ret_int2 Fin.out.1 Fin.out.2, rfl⟩
              · go_wp2
                go_round
                case rel => exact ⟨q - 1, r + y1, rfl, rfl, Hd.out, by omega, by omega, by omega, by omega⟩
                case measure => simp [intOf]; omega
            · have p1 := Int.mul_nonneg (show 0 ≤ q by omega) b0.1
              have p2 := Int.mul_le_mul (show q ≤ 4294967296 by omega) b0.2 b0.1 (by omega)
              by_cases hc : 4294967296 * r + l0 < q * y0
              · have hm := Knuth.more y1 y0 R l0 q r (by omega) b0.1 He.out hc
                rw [← K0.out, HQ2.out] at hm
                have hd := Knuth.down y1 R q r He.out
                have Hd := hid hd; clear hd
                by_cases hx : 4294967296 ≤ r + y1
                · have ho := Knuth.out y1 y0 R l0 (q - 1) (r + y1) (by omega) b0.1 (by omega) (by omega) (by omega) Hd.out hx
                  rw [← K0.out, HQ2.out] at ho
                  have eq : q - 1 = Q2 := by omega
                  clear ho
                  go_wp2
                  go_ret2
                  exact ⟨ret_int2 Fin.out.1 Fin.out.2, rfl⟩
                · go_wp2
                  go_round
                  case rel => exact ⟨q - 1, r + y1, rfl, rfl, Hd.out, by omega, by omega, by omega, by omega⟩
                  case measure => simp [intOf]; omega
              · have := Knuth.stop y1 y0 R l0 q r (by omega) b0.1 He.out (by omega)
                rw [← K0.out, HQ2.out] at this
                obtain rfl : Q2 = q := by omega
                go_wp2
                go_ret2
                exact ⟨ret_int2 Fin.out.1 Fin.out.2, rfl⟩
        · go_wp2
          go_round
          case rel => exact ⟨q - 1, r + y1, rfl, rfl, Hd.out, by omega, by omega, by omega, by omega⟩
          case measure => simp [intOf]; omega
      · have := Knuth.stop y1 y0 U l1 q r (by omega) b0.1 He.out (by omega)
        rw [← K0.out, HQ.out] at this
        obtain rfl : Q = q := by omega
        go_wp2
        go_loop [18, 16] (fun a b => ∃ q r : Int, a = .int .u64 q ∧ b = .int .u64 r ∧ q * y1 + r = R ∧ 0 ≤ r ∧ r < 4294967296 ∧ Q2 ≤ q ∧ q ≤ 4294967300) (fun _ b => 4294967296 - (intOf b).toNat)
        case atStart => exact ⟨_, _, rfl, rfl, En1.out, by omega, by omega, hQs2, by omega⟩
        case round =>
          clear hq hr0 hr1 hq0 hq1 He
          obtain ⟨q, r, rfl, rfl, he, hr0, hr1, hq0, hq1⟩ := hrel
          have He := hid he; clear he
          by_cases hq : 4294967296 ≤ q
          · have hd := Knuth.down y1 R q r He.out
            have Hd := hid hd; clear hd
            by_cases hx : 4294967296 ≤ r + y1
            · have ho := Knuth.out y1 y0 R l0 (q - 1) (r + y1) (by omega) b0.1 (by omega) (by omega) (by omega) Hd.out hx
              rw [← K0.out, HQ2.out] at ho
              have eq : q - 1 = Q2 := by omega
              clear ho
              go_wp2
              go_ret2
              exact ⟨ret_int2 Fin.out.1 Fin.out.2, rfl⟩
            · go_wp2
              go_round
              case rel => exact ⟨q - 1, r + y1, rfl, rfl, Hd.out, by omega, by omega, by omega, by omega⟩
              case measure => simp [intOf]; omega
          · have p1 := Int.mul_nonneg (show 0 ≤ q by omega) b0.1
            have p2 := Int.mul_le_mul (show q ≤ 4294967296 by omega) b0.2 b0.1 (by omega)
            by_cases hc : 4294967296 * r + l0 < q * y0
            · have hm := Knuth.more y1 y0 R l0 q r (by omega) b0.1 He.out hc
              rw [← K0.out, HQ2.out] at hm
              have hd := Knuth.down y1 R q r He.out
              have Hd := hid hd; clear hd
              by_cases hx : 4294967296 ≤ r + y1
              · have ho := Knuth.out y1 y0 R l0 (q - 1) (r + y1) (by omega) b0.1 (by omega) (by omega) (by omega) Hd.out hx
                rw [← K0.out, HQ2.out] at ho
                have eq : q - 1 = Q2 := by omega
                clear ho
                go_wp2
                go_ret2
                exact ⟨ret_int2 Fin.out.1 Fin.out.2, rfl⟩
              · go_wp2
                go_round
                case rel => exact ⟨q - 1, r + y1, rfl, rfl, Hd.out, by omega, by omega, by omega, by omega⟩
                case measure => simp [intOf]; omega
            · have := Knuth.stop y1 y0 R l0 q r (by omega) b0.1 He.out (by omega)
              rw [← K0.out, HQ2.out] at this
              obtain rfl : Q2 = q := by omega
              go_wp2
              go_ret2
              exact ⟨ret_int2 Fin.out.1 Fin.out.2, rfl⟩
set_option maxHeartbeats 400000 in
theorem div64_lo (lo y : Int) (w : World) (h1 : 0 < y) (hy : y ≤ 18446744073709551615) (hl0 : 0 ≤ lo) (hl : lo ≤ 18446744073709551615) :
    Calls Tryz.prog 108 #[.int .u64 0, .int .u64 lo, .int .u64 y] w fun e w' => e = .returned (.tuple #[.int .u64 (lo / y), .int .u64 (lo % y)]) ∧ ∃ n, w' = w.drewN n := by
  have c1 : (y == 0) = false := by simp; omega
  have c2 : decide (y ≤ 0) = false := by simp; omega
  have c3 : y ≠ 0 := by omega
  go_enter Tryz.func108, Tryz.ntmps108
  go_wp2_with fail
  go_quiet (fail)
  go_wp2_with fail
  go_ret2
  exact ⟨rfl, _, rfl⟩
end Go.Proofs.YthomeenmcajmdaaGreatDoor
