/- What the texts PrimeC, MillerOk, Below, BelowRow, BelowT0, BelowT1, BelowT2, BelowT3, BelowAll show, in one text. -/
import Derived.Test.YthomeenmcajmdaaDoorBun01
import Derived.Lib.TrailingZeros
/- Who stands the document's test of primes, over Nat, by computing. -/
namespace Go.Proofs.YthomeenmcajmdaaDoor

def powC (n a t : Nat) : Nat := if 2 ≤ n ∧ a < n then a ^ t % n else 0
def stLoopC (n : Nat) : Nat → Nat → Bool
  | 0, _ => false
  | t + 1, x => Nat.beq x (n - 1) || stLoopC n t (powC n x 2)
def standsC (n b : Nat) : Bool := Nat.beq (powC n (b % n) ((n - 1) / 2 ^ Lib.ctz 64 (n - 1))) 1 || stLoopC n (Lib.ctz 64 (n - 1)) (powC n (b % n) ((n - 1) / 2 ^ Lib.ctz 64 (n - 1)))
def primeCL (n : Nat) : List Nat → Bool
  | [] => true
  | b :: bs => if Nat.beq (n % b) 0 then Nat.beq n b else standsC n b && primeCL n bs
def primeC (n : Nat) : Bool := primeCL n [2, 3, 5, 7, 11, 13, 17, 19, 23, 29, 31, 37]
end Go.Proofs.YthomeenmcajmdaaDoor
/- A prime stands Miller's and Rabin's test. -/
namespace Go.Proofs.YthomeenmcajmdaaDoor

theorem ctz_dvd {x : Nat} (h0 : x ≠ 0) (h : x < 2 ^ 64) : 2 ^ Lib.ctz 64 x ∣ x := by
  obtain ⟨m, hm, _⟩ := Lib.ctzFrom_spec 64 x (by omega) h
  have e : Lib.ctz 64 x = Lib.ctzFrom 64 x := by simp [Lib.ctz, h0]
  rw [e]
  exact ⟨2 * m + 1, hm⟩
theorem prm_small {b : Nat} (h2 : 2 ≤ b) (h : ∀ d, d < b → 2 ≤ d → b % d ≠ 0) : Prm b := by
  refine ⟨h2, fun d hd => ?_⟩
  have hle := Nat.le_of_dvd (by omega) hd
  have h0 : d ≠ 0 := by rintro rfl; have := Nat.eq_zero_of_zero_dvd hd; omega
  by_cases e1 : d = 1
  · exact .inl e1
  · right
    apply Classical.byContradiction
    intro hne
    exact h d (by omega) (by omega) (Nat.mod_eq_zero_of_dvd hd)
/-- the roots of 1 modulo a prime -/
theorem root_one {n x : Nat} (hn : Prm n) (hx : x < n) (h : x ^ 2 % n = 1) : x = 1 ∨ x = n - 1 := by
  have hn2 := hn.1
  have hx0 : 1 ≤ x := Nat.pos_of_ne_zero (by rintro rfl; simp at h)
  have hd : n ∣ x ^ 2 - 1 := by
    have := mod_eq_dvd (n := n) (a := 1) (b := x ^ 2) (by rw [h, Nat.mod_eq_of_lt (by omega)]) (Nat.one_le_pow _ _ hx0)
    exact this
  have e : x ^ 2 - 1 = (x - 1) * (x + 1) := by
    obtain ⟨y, rfl⟩ : ∃ y, x = y + 1 := ⟨x - 1, by omega⟩
    rw [Nat.pow_two, Nat.add_sub_cancel]
    have : (y + 1) * (y + 1) = y * (y + 1 + 1) + 1 := by rw [Nat.add_mul, Nat.one_mul, Nat.mul_add y (y + 1) 1]; omega
    omega
  rw [e] at hd
  rcases prm_mul hn hd with h1 | h1
  · left
    rcases Nat.eq_zero_or_pos (x - 1) with h2 | h2
    · omega
    · have := Nat.le_of_dvd h2 h1; omega
  · right
    have := Nat.le_of_dvd (by omega) h1
    omega
theorem stLoop_ok {n : Nat} (hn : Prm n) : ∀ (t x : Nat), x < n → x ^ 2 ^ t % n = 1 → x = 1 ∨ stLoopC n t x = true
  | 0, x, hx, h => by
    rw [Nat.pow_zero, Nat.pow_one, Nat.mod_eq_of_lt hx] at h
    exact .inl h
  | t + 1, x, hx, h => by
    have hn2 := hn.1
    have hp : powC n x 2 = x ^ 2 % n := by rw [powC, if_pos ⟨hn2, hx⟩]
    have h' : (x ^ 2 % n) ^ 2 ^ t % n = 1 := by rw [pow_mod', ← Nat.pow_mul, Nat.mul_comm, ← Nat.pow_succ]; exact h
    rw [stLoopC, hp]
    rcases stLoop_ok hn t (x ^ 2 % n) (Nat.mod_lt _ (by omega)) h' with h1 | h1
    · rcases root_one hn hx h1 with h2 | h2
      · exact .inl h2
      · right; rw [show Nat.beq x (n - 1) = true by rw [Nat.beq_eq]; exact h2, Bool.true_or]
    · right; rw [h1, Bool.or_true]
theorem stands_ok {n b : Nat} (hn : Prm n) (hn2 : n < 2 ^ 64) (hb : ¬ n ∣ b) : standsC n b = true := by
  have h2 := hn.1
  obtain ⟨m, hm⟩ := ctz_dvd (x := n - 1) (by omega) (by omega)
  unfold standsC
  generalize Lib.ctz 64 (n - 1) = t at *
  have hpos : 0 < 2 ^ t := Nat.pow_pos (by decide)
  have hdiv : (n - 1) / 2 ^ t = m := by rw [hm, Nat.mul_div_cancel_left _ hpos]
  rw [hdiv]
  have ha : b % n < n := Nat.mod_lt _ (by omega)
  have ha0 : 0 < b % n := Nat.pos_of_ne_zero fun h => hb (Nat.dvd_of_mod_eq_zero h)
  have hpc : powC n (b % n) m = (b % n) ^ m % n := by rw [powC, if_pos ⟨h2, ha⟩]
  rw [hpc]
  have hf : ((b % n) ^ m % n) ^ 2 ^ t % n = 1 := by rw [pow_mod', ← Nat.pow_mul, Nat.mul_comm, ← hm]; exact prm_fermat hn ha0 ha
  rcases stLoop_ok hn t _ (Nat.mod_lt _ (by omega)) hf with h | h
  · rw [show Nat.beq ((b % n) ^ m % n) 1 = true by rw [Nat.beq_eq]; exact h, Bool.true_or]
  · rw [h, Bool.or_true]
theorem primeCL_ok {n : Nat} (hn : Prm n) (hn2 : n < 2 ^ 64) : ∀ bs : List Nat, (∀ b ∈ bs, Prm b) → primeCL n bs = true
  | [], _ => rfl
  | b :: bs, h => by
    have hb := h b (by simp)
    rw [primeCL]
    by_cases hz : n % b = 0
    · rw [if_pos (by rw [Nat.beq_eq]; exact hz), Nat.beq_eq]
      exact (prm_eq hn hb (Nat.dvd_of_mod_eq_zero hz)).symm
    · rw [show Nat.beq (n % b) 0 = false by rw [← Bool.not_eq_true, Nat.beq_eq]; exact hz, if_neg Bool.false_ne_true, primeCL_ok hn hn2 bs (fun x hx => h x (by simp [hx])), Bool.and_true]
      refine stands_ok hn hn2 fun hd => hz ?_
      have := prm_eq hb hn hd
      rw [this]; exact Nat.mod_self _
/-- a prime is told to be one -/
theorem primeC_ok {n : Nat} (hn : Prm n) (hn2 : n < 2 ^ 64) : primeC n = true := by
  refine primeCL_ok hn hn2 _ fun b hb => ?_
  have : ∀ b ∈ [2, 3, 5, 7, 11, 13, 17, 19, 23, 29, 31, 37], 2 ≤ b ∧ ∀ d, d < b → 2 ≤ d → b % d ≠ 0 := by decide
  exact prm_small (this b hb).1 (this b hb).2
end Go.Proofs.YthomeenmcajmdaaDoor
/- Below 2^24 what stands the test is prime: by the least factor, and by computing. -/
namespace Go.Proofs.YthomeenmcajmdaaDoor

/-- a power modulo n, by halves -/
def powF (n : Nat) : Nat → Nat → Nat → Nat
  | 0, _, _ => 1 % n
  | f + 1, a, t => if Nat.beq t 0 then 1 % n else if Nat.beq (t % 2) 1 then a * powF n f (a * a % n) (t / 2) % n else powF n f (a * a % n) (t / 2)
theorem powF_eq (n : Nat) : ∀ (f a t : Nat), t < 2 ^ f → powF n f a t = a ^ t % n
  | 0, a, t, h => by
    have : t = 0 := by simpa using h
    subst this; simp [powF]
  | f + 1, a, t, h => by
    have ih := powF_eq n f (a * a % n) (t / 2) (by rw [Nat.pow_succ] at h; omega)
    have e : (a * a % n) ^ (t / 2) % n = a ^ (2 * (t / 2)) % n := by rw [pow_mod', ← Nat.pow_two, ← Nat.pow_mul]
    rw [powF]
    by_cases h0 : t = 0
    · subst h0; simp
    · rw [show Nat.beq t 0 = false by rw [← Bool.not_eq_true, Nat.beq_eq]; exact h0, if_neg Bool.false_ne_true, ih, e]
      by_cases h1 : t % 2 = 1
      · rw [if_pos (by rw [Nat.beq_eq]; exact h1), Nat.mul_mod, Nat.mod_mod, ← Nat.mul_mod]
        congr 1
        conv => rhs; rw [show t = 2 * (t / 2) + 1 by omega, Nat.pow_succ, Nat.mul_comm]
      · rw [show Nat.beq (t % 2) 1 = false by rw [← Bool.not_eq_true, Nat.beq_eq]; exact h1, if_neg Bool.false_ne_true]
        congr 2; omega
/-- what the test's loop tells -/
theorem stLoop_one {n : Nat} (h2 : 2 ≤ n) : ∀ (t x : Nat), x < n → stLoopC n t x = true → x ^ 2 ^ t % n = 1
  | 0, x, _, h => by simp [stLoopC] at h
  | t + 1, x, hx, h => by
    have hp : powC n x 2 = x ^ 2 % n := by rw [powC, if_pos ⟨h2, hx⟩]
    rw [stLoopC, Bool.or_eq_true, Nat.beq_eq, hp] at h
    have e : x ^ 2 ^ (t + 1) % n = (x ^ 2 % n) ^ 2 ^ t % n := by rw [pow_mod', ← Nat.pow_mul, Nat.mul_comm, ← Nat.pow_succ]
    rw [e]
    rcases h with h | h
    · have h1 : x ^ 2 % n = 1 := by
        obtain ⟨k, rfl⟩ : ∃ k, n = k + 2 := ⟨n - 2, by omega⟩
        have hx1 : x = k + 1 := by omega
        subst hx1
        have : (k + 1) ^ 2 = 1 + (k + 2) * k := by rw [Nat.pow_two, Nat.add_mul, Nat.mul_add, Nat.add_mul]; omega
        rw [this, Nat.add_mul_mod_self_left, Nat.mod_eq_of_lt (by omega)]
      rw [h1, Nat.one_pow, Nat.mod_eq_of_lt (by omega)]
    · exact stLoop_one h2 t _ (Nat.mod_lt _ (by omega)) h
/-- who stands the test by b has 1 for b's power n - 1 -/
theorem stands_one {n b : Nat} (h2 : 2 ≤ n) (hn2 : n < 2 ^ 64) (h : standsC n b = true) : b ^ (n - 1) % n = 1 := by
  obtain ⟨m, hm⟩ := ctz_dvd (x := n - 1) (by omega) (by omega)
  unfold standsC at h
  generalize Lib.ctz 64 (n - 1) = t at *
  have hpos : 0 < 2 ^ t := Nat.pow_pos (by decide)
  have ha : b % n < n := Nat.mod_lt _ (by omega)
  have hpc : powC n (b % n) m = (b % n) ^ m % n := by rw [powC, if_pos ⟨h2, ha⟩]
  rw [show (n - 1) / 2 ^ t = m by rw [hm, Nat.mul_div_cancel_left _ hpos], hpc, Bool.or_eq_true, Nat.beq_eq] at h
  have key : ((b % n) ^ m % n) ^ 2 ^ t % n = 1 := by
    rcases h with h | h
    · rw [h, Nat.one_pow, Nat.mod_eq_of_lt (by omega)]
    · exact stLoop_one h2 t _ (Nat.mod_lt _ (by omega)) h
  rw [pow_mod', ← Nat.pow_mul, Nat.mul_comm, ← hm, pow_mod'] at key
  exact key
/-- what the whole test tells -/
theorem primeCL_all {n : Nat} : ∀ bs : List Nat, primeCL n bs = true → n ∈ bs ∨ ∀ b ∈ bs, n % b ≠ 0 ∧ standsC n b = true
  | [], _ => .inr (by simp)
  | b :: bs, h => by
    rw [primeCL] at h
    by_cases hz : n % b = 0
    · rw [if_pos (by rw [Nat.beq_eq]; exact hz), Nat.beq_eq] at h
      exact .inl (by simp [h])
    · rw [show Nat.beq (n % b) 0 = false by rw [← Bool.not_eq_true, Nat.beq_eq]; exact hz, if_neg Bool.false_ne_true, Bool.and_eq_true] at h
      rcases primeCL_all bs h.2 with h1 | h1
      · exact .inl (by simp [h1])
      · right
        intro c hc
        rcases List.mem_cons.1 hc with rfl | hc
        · exact ⟨hz, h.1⟩
        · exact h1 c hc
end Go.Proofs.YthomeenmcajmdaaDoor
/- Below 2^24: a factor's row of candidates. -/
namespace Go.Proofs.YthomeenmcajmdaaDoor

theorem beq_no {a b : Nat} (h : a ≠ b) : Nat.beq a b = false := by rw [← Bool.not_eq_true, Nat.beq_eq]; exact h
/-- 2's order modulo q, by steps -/
def ordF (q : Nat) : Nat → Nat → Nat → Nat
  | 0, _, d => d
  | f + 1, x, d => if Nat.beq x 1 then d else ordF q f (2 * x % q) (d + 1)
theorem ordF_min (q : Nat) : ∀ (f x d : Nat), x = 2 ^ d % q → (∀ e, 0 < e → e < d → 2 ^ e % q ≠ 1) → ∀ e, 0 < e → e < ordF q f x d → 2 ^ e % q ≠ 1
  | 0, x, d, _, h, e, h0, h1 => h e h0 (by simpa [ordF] using h1)
  | f + 1, x, d, hx, h, e, h0, h1 => by
    rw [ordF] at h1
    by_cases hx1 : x = 1
    · rw [if_pos (by rw [Nat.beq_eq]; exact hx1)] at h1
      exact h e h0 h1
    · rw [beq_no hx1, if_neg Bool.false_ne_true] at h1
      refine ordF_min q f _ (d + 1) ?_ (fun e' a b => ?_) e h0 h1
      · rw [hx, Nat.pow_succ, Nat.mul_comm (2 ^ d), Nat.mul_mod, Nat.mod_mod, ← Nat.mul_mod]
      · by_cases he : e' = d
        · rw [he, ← hx]; exact hx1
        · exact h e' a (by omega)
def dividesB (n : Nat) : List Nat → Bool
  | [] => false
  | b :: bs => Nat.beq (n % b) 0 || dividesB n bs
theorem dividesB_no {m : Nat} : ∀ bs : List Nat, (∀ b ∈ bs, m % b ≠ 0) → dividesB m bs = false
  | [], _ => rfl
  | b :: bs, h => by rw [dividesB, beq_no (h b (by simp)), dividesB_no bs (fun c hc => h c (by simp [hc]))]; rfl
def candB (q m : Nat) : Bool := dividesB m [2, 3, 5, 7, 11, 13, 17, 19, 23, 29, 31, 37] || !Nat.beq (powF (q * m) 24 2 (q * m - 1)) 1 || !primeC (q * m)
def runK (q D : Nat) : Nat → Nat → Bool
  | 0, _ => true
  | f + 1, m => candB q m && runK q D f (m + D)
theorem runK_spec {q D : Nat} : ∀ (f m : Nat), runK q D f m = true → ∀ j, j < f → candB q (m + j * D) = true
  | 0, m, _, j, h => by omega
  | f + 1, m, h, j, hj => by
    rw [runK, Bool.and_eq_true] at h
    cases j with
    | zero => simpa using h.1
    | succ j =>
      have := runK_spec f (m + D) h.2 j (by omega)
      rw [show m + (j + 1) * D = m + D + j * D by rw [Nat.add_mul]; omega]
      exact this
/-- is D 2's order modulo q? -/
def ordB (q D : Nat) : Bool := Nat.ble 1 D && Nat.beq (ordF q 4096 2 1) D && Nat.beq (powF q 24 2 D) 1 && Nat.ble D 4096
/-- all candidates of a row, by pieces (how many, from where) -/
theorem pieces {q D : Nat} {P : List (Nat × Nat)} (h : ∀ r ∈ P, runK q D r.1 r.2 = true) {s : Nat} (hc : ∀ j, j < s → ∃ r ∈ P, ∃ i, i < r.1 ∧ q + j * D = r.2 + i * D) : ∀ j, j < s → candB q (q + j * D) = true := fun j hj => by
  obtain ⟨r, hr, i, hi, e⟩ := hc j hj
  rw [e]; exact runK_spec _ _ (h r hr) i hi

/-- no number of a factor's row stands the test -/
theorem row_no {q D m : Nat} (hq : Prm q) (h41 : 41 ≤ q) (hord : ordB q D = true) (hrun : ∀ j, j < 16777216 / (q * D) + 1 → candB q (q + j * D) = true) (hm : q ≤ m) (hn : q * m < 16777216) (hpc : primeC (q * m) = true) : False := by
  simp only [ordB, Bool.and_eq_true, Nat.beq_eq, Nat.ble_eq] at hord
  obtain ⟨⟨⟨d1, d2⟩, d3⟩, d4⟩ := hord
  rw [powF_eq q 24 2 D (by omega)] at d3
  have hbig : 41 * 41 ≤ q * m := Nat.mul_le_mul h41 (by omega)
  have h1q : 1 % q = 1 := Nat.mod_eq_of_lt (by omega)
  obtain ⟨n, en⟩ : ∃ n, q * m = n := ⟨_, rfl⟩
  have hall : ∀ b ∈ [2, 3, 5, 7, 11, 13, 17, 19, 23, 29, 31, 37], n % b ≠ 0 ∧ standsC n b = true := by
    rw [en] at hpc
    rcases primeCL_all _ hpc with h | h
    · exfalso; simp at h; omega
    · exact h
  have p2 := stands_one (n := n) (b := 2) (by omega) (by omega) (hall 2 (by simp)).2
  have pq : 2 ^ (n - 1) % q = 1 := by
    have := Nat.mod_mod_of_dvd (2 ^ (n - 1)) (show q ∣ n from ⟨m, en.symm⟩)
    rw [← this, p2, h1q]
  have pf := prm_fermat hq (x := 2) (by omega) (by omega)
  have pm : 2 ^ (m - 1) % q = 1 := by
    have e : n - 1 = (q - 1) * m + (m - 1) := by
      obtain ⟨k, rfl⟩ : ∃ k, q = k + 1 := ⟨q - 1, by omega⟩
      rw [← en, Nat.add_mul, Nat.add_sub_cancel]; omega
    rw [e, pow_add_one (pow_one_mul (by rw [pf, h1q]) m)] at pq
    exact pq
  obtain ⟨d, hd, hd1, hmin, hdv⟩ := least_order (n := q) (r := 2) (m := D) (by omega) (by rw [d3, h1q])
  have hdD : d = D := by
    have a1 := hmin D (by omega) (by rw [d3, h1q])
    have a2 := ordF_min q 4096 2 1 (by rw [Nat.pow_one, Nat.mod_eq_of_lt (by omega)]) (fun e a b => by omega) d hd
    rw [d2] at a2
    rcases Nat.lt_or_ge d D with h | h
    · exact absurd (by rw [hd1, h1q]) (a2 h)
    · omega
  subst hdD
  obtain ⟨x, hx⟩ := hdv (m - 1) (by rw [pm, h1q])
  obtain ⟨y, hy⟩ := hdv (q - 1) (by rw [pf, h1q])
  have hxy : y ≤ x := by
    apply Classical.byContradiction
    intro h
    have := Nat.mul_le_mul_left d (show x + 1 ≤ y by omega)
    rw [Nat.mul_add, Nat.mul_one] at this
    omega
  have hmj : m = q + (x - y) * d := by rw [Nat.sub_mul, Nat.mul_comm x, Nat.mul_comm y]; have := Nat.mul_le_mul_left d hxy; omega
  have hj : x - y < 16777216 / (q * d) + 1 := by
    refine Nat.lt_succ_of_le ((Nat.le_div_iff_mul_le (Nat.mul_pos (by omega) hd)).2 ?_)
    have h1 : q * ((x - y) * d) ≤ q * m := Nat.mul_le_mul_left q (by omega)
    rw [Nat.mul_left_comm]
    omega
  have hc := hrun (x - y) hj
  rw [← hmj, candB, hpc, en, dividesB_no _ (fun b hb h => (hall b hb).1 (by rw [← en, Nat.mul_mod, h, Nat.mul_zero, Nat.zero_mod])), powF_eq n 24 2 (n - 1) (by omega), p2] at hc
  simp at hc
end Go.Proofs.YthomeenmcajmdaaDoor
/- Below 2^24: candidates, by computing, part 0. Written by wip/tools/gen_below.py. -/
namespace Go.Proofs.YthomeenmcajmdaaDoor
set_option maxRecDepth 100000
def belowT0_0 : List (Nat × Nat × Nat × Nat) := [(41, 20, 2000, 41)]
theorem belowT0_0_ok : (belowT0_0.all fun r => runK r.1 r.2.1 r.2.2.1 r.2.2.2) = true := by decide +kernel
def belowT0_1 : List (Nat × Nat × Nat × Nat) := [(41, 20, 2000, 160041)]
theorem belowT0_1_ok : (belowT0_1.all fun r => runK r.1 r.2.1 r.2.2.1 r.2.2.2) = true := by decide +kernel
def belowT0_2 : List (Nat × Nat × Nat × Nat) := [(41, 20, 2000, 320041)]
theorem belowT0_2_ok : (belowT0_2.all fun r => runK r.1 r.2.1 r.2.2.1 r.2.2.2) = true := by decide +kernel
def belowT0_3 : List (Nat × Nat × Nat × Nat) := [(43, 14, 2000, 49589)]
theorem belowT0_3_ok : (belowT0_3.all fun r => runK r.1 r.2.1 r.2.2.1 r.2.2.2) = true := by decide +kernel
def belowT0_4 : List (Nat × Nat × Nat × Nat) := [(43, 14, 2000, 161589)]
theorem belowT0_4_ok : (belowT0_4.all fun r => runK r.1 r.2.1 r.2.2.1 r.2.2.2) = true := by decide +kernel
def belowT0_5 : List (Nat × Nat × Nat × Nat) := [(43, 14, 2000, 273589)]
theorem belowT0_5_ok : (belowT0_5.all fun r => runK r.1 r.2.1 r.2.2.1 r.2.2.2) = true := by decide +kernel
def belowT0_6 : List (Nat × Nat × Nat × Nat) := [(43, 14, 331, 385589), (47, 23, 1669, 47)]
theorem belowT0_6_ok : (belowT0_6.all fun r => runK r.1 r.2.1 r.2.2.1 r.2.2.2) = true := by decide +kernel
def belowT0_7 : List (Nat × Nat × Nat × Nat) := [(47, 23, 2000, 176434)]
theorem belowT0_7_ok : (belowT0_7.all fun r => runK r.1 r.2.1 r.2.2.1 r.2.2.2) = true := by decide +kernel
def belowT0_8 : List (Nat × Nat × Nat × Nat) := [(53, 52, 2000, 7749)]
theorem belowT0_8_ok : (belowT0_8.all fun r => runK r.1 r.2.1 r.2.2.1 r.2.2.2) = true := by decide +kernel
def belowT0_9 : List (Nat × Nat × Nat × Nat) := [(59, 58, 2000, 119539)]
theorem belowT0_9_ok : (belowT0_9.all fun r => runK r.1 r.2.1 r.2.2.1 r.2.2.2) = true := by decide +kernel
def belowT0_10 : List (Nat × Nat × Nat × Nat) := [(67, 66, 2000, 37885)]
theorem belowT0_10_ok : (belowT0_10.all fun r => runK r.1 r.2.1 r.2.2.1 r.2.2.2) = true := by decide +kernel
def belowT0_11 : List (Nat × Nat × Nat × Nat) := [(71, 35, 1974, 167301), (73, 9, 26, 73)]
theorem belowT0_11_ok : (belowT0_11.all fun r => runK r.1 r.2.1 r.2.2.1 r.2.2.2) = true := by decide +kernel
def belowT0_12 : List (Nat × Nat × Nat × Nat) := [(73, 9, 2000, 54307)]
theorem belowT0_12_ok : (belowT0_12.all fun r => runK r.1 r.2.1 r.2.2.1 r.2.2.2) = true := by decide +kernel
def belowT0_13 : List (Nat × Nat × Nat × Nat) := [(73, 9, 2000, 126307)]
theorem belowT0_13_ok : (belowT0_13.all fun r => runK r.1 r.2.1 r.2.2.1 r.2.2.2) = true := by decide +kernel
def belowT0_14 : List (Nat × Nat × Nat × Nat) := [(73, 9, 2000, 198307)]
theorem belowT0_14_ok : (belowT0_14.all fun r => runK r.1 r.2.1 r.2.2.1 r.2.2.2) = true := by decide +kernel
def belowT0_15 : List (Nat × Nat × Nat × Nat) := [(79, 39, 957, 175150), (83, 82, 1043, 83)]
theorem belowT0_15_ok : (belowT0_15.all fun r => runK r.1 r.2.1 r.2.2.1 r.2.2.2) = true := by decide +kernel
def belowT0_16 : List (Nat × Nat × Nat × Nat) := [(89, 11, 2000, 50436)]
theorem belowT0_16_ok : (belowT0_16.all fun r => runK r.1 r.2.1 r.2.2.1 r.2.2.2) = true := by decide +kernel
def belowT0_17 : List (Nat × Nat × Nat × Nat) := [(89, 11, 2000, 138436)]
theorem belowT0_17_ok : (belowT0_17.all fun r => runK r.1 r.2.1 r.2.2.1 r.2.2.2) = true := by decide +kernel
def belowT0_18 : List (Nat × Nat × Nat × Nat) := [(97, 48, 165, 165169), (101, 100, 1662, 101), (103, 51, 173, 103)]
theorem belowT0_18_ok : (belowT0_18.all fun r => runK r.1 r.2.1 r.2.2.1 r.2.2.2) = true := by decide +kernel
def belowT0_19 : List (Nat × Nat × Nat × Nat) := [(109, 36, 2000, 54073)]
theorem belowT0_19_ok : (belowT0_19.all fun r => runK r.1 r.2.1 r.2.2.1 r.2.2.2) = true := by decide +kernel
def belowT0_20 : List (Nat × Nat × Nat × Nat) := [(113, 28, 80, 146357), (127, 7, 1920, 127)]
theorem belowT0_20_ok : (belowT0_20.all fun r => runK r.1 r.2.1 r.2.2.1 r.2.2.2) = true := by decide +kernel
def belowT0_21 : List (Nat × Nat × Nat × Nat) := [(127, 7, 2000, 55567)]
theorem belowT0_21_ok : (belowT0_21.all fun r => runK r.1 r.2.1 r.2.2.1 r.2.2.2) = true := by decide +kernel
def belowT0_22 : List (Nat × Nat × Nat × Nat) := [(127, 7, 2000, 111567)]
theorem belowT0_22_ok : (belowT0_22.all fun r => runK r.1 r.2.1 r.2.2.1 r.2.2.2) = true := by decide +kernel
def belowT0_23 : List (Nat × Nat × Nat × Nat) := [(151, 15, 2000, 9511)]
theorem belowT0_23_ok : (belowT0_23.all fun r => runK r.1 r.2.1 r.2.2.1 r.2.2.2) = true := by decide +kernel
def belowT0_24 : List (Nat × Nat × Nat × Nat) := [(157, 52, 840, 63389), (163, 162, 636, 163), (167, 83, 524, 167)]
theorem belowT0_24_ok : (belowT0_24.all fun r => runK r.1 r.2.1 r.2.2.1 r.2.2.2) = true := by decide +kernel
def belowT0_25 : List (Nat × Nat × Nat × Nat) := [(223, 37, 1824, 7993), (227, 226, 176, 227)]
theorem belowT0_25_ok : (belowT0_25.all fun r => runK r.1 r.2.1 r.2.2.1 r.2.2.2) = true := by decide +kernel
def belowT0_26 : List (Nat × Nat × Nat × Nat) := [(241, 24, 1090, 43705), (251, 50, 910, 251)]
theorem belowT0_26_ok : (belowT0_26.all fun r => runK r.1 r.2.1 r.2.2.1 r.2.2.2) = true := by decide +kernel
def belowT0_27 : List (Nat × Nat × Nat × Nat) := [(277, 92, 346, 29073), (281, 70, 853, 281), (283, 94, 631, 283), (293, 292, 170, 293)]
theorem belowT0_27_ok : (belowT0_27.all fun r => runK r.1 r.2.1 r.2.2.1 r.2.2.2) = true := by decide +kernel
def belowT0_28 : List (Nat × Nat × Nat × Nat) := [(353, 88, 305, 21121), (359, 179, 262, 359), (367, 183, 250, 367), (373, 372, 121, 373), (379, 378, 118, 379), (383, 191, 230, 383), (389, 388, 112, 389), (397, 44, 602, 397)]
theorem belowT0_28_ok : (belowT0_28.all fun r => runK r.1 r.2.1 r.2.2.1 r.2.2.2) = true := by decide +kernel
def belowT0_29 : List (Nat × Nat × Nat × Nat) := [(599, 299, 52, 13157), (601, 25, 1117, 601), (607, 303, 92, 607), (613, 612, 45, 613), (617, 154, 177, 617), (619, 618, 44, 619), (631, 45, 473, 631)]
theorem belowT0_29_ok : (belowT0_29.all fun r => runK r.1 r.2.1 r.2.2.1 r.2.2.2) = true := by decide +kernel
def belowT0_30 : List (Nat × Nat × Nat × Nat) := [(1061, 1060, 13, 3181), (1063, 531, 30, 1063), (1069, 356, 45, 1069), (1087, 543, 29, 1087), (1091, 1090, 15, 1091), (1093, 364, 43, 1093), (1097, 274, 56, 1097), (1103, 29, 525, 1103), (1109, 1108, 14, 1109), (1117, 1116, 14, 1117), (1123, 1122, 14, 1123), (1129, 564, 27, 1129), (1151, 575, 26, 1151), (1153, 288, 51, 1153), (1163, 166, 87, 1163), (1171, 1170, 13, 1171), (1181, 236, 61, 1181), (1187, 1186, 12, 1187), (1193, 298, 48, 1193), (1201, 300, 47, 1201), (1213, 1212, 12, 1213), (1217, 152, 91, 1217), (1223, 611, 23, 1223), (1229, 1228, 12, 1229), (1231, 615, 23, 1231), (1237, 1236, 11, 1237), (1249, 156, 87, 1249), (1259, 1258, 11, 1259), (1277, 1276, 11, 1277), (1279, 639, 21, 1279), (1283, 1282, 11, 1283), (1289, 161, 81, 1289), (1291, 1290, 11, 1291), (1297, 648, 20, 1297), (1301, 1300, 10, 1301), (1303, 651, 20, 1303), (1307, 1306, 10, 1307), (1319, 659, 20, 1319), (1321, 60, 212, 1321), (1327, 221, 58, 1327), (1361, 680, 19, 1361), (1367, 683, 18, 1367), (1373, 1372, 9, 1373), (1381, 1380, 9, 1381), (1399, 233, 20, 1399)]
theorem belowT0_30_ok : (belowT0_30.all fun r => runK r.1 r.2.1 r.2.2.1 r.2.2.2) = true := by decide +kernel
def belowT0 : List (Nat × Nat × Nat × Nat) := belowT0_0 ++ (belowT0_1 ++ (belowT0_2 ++ (belowT0_3 ++ (belowT0_4 ++ (belowT0_5 ++ (belowT0_6 ++ (belowT0_7 ++ (belowT0_8 ++ (belowT0_9 ++ (belowT0_10 ++ (belowT0_11 ++ (belowT0_12 ++ (belowT0_13 ++ (belowT0_14 ++ (belowT0_15 ++ (belowT0_16 ++ (belowT0_17 ++ (belowT0_18 ++ (belowT0_19 ++ (belowT0_20 ++ (belowT0_21 ++ (belowT0_22 ++ (belowT0_23 ++ (belowT0_24 ++ (belowT0_25 ++ (belowT0_26 ++ (belowT0_27 ++ (belowT0_28 ++ (belowT0_29 ++ (belowT0_30))))))))))))))))))))))))))))))
theorem belowT0_ok : ∀ r ∈ belowT0, runK r.1 r.2.1 r.2.2.1 r.2.2.2 = true := by
  intro r hr
  simp only [belowT0, List.mem_append] at hr
  rcases hr with h | h | h | h | h | h | h | h | h | h | h | h | h | h | h | h | h | h | h | h | h | h | h | h | h | h | h | h | h | h | h
  · exact List.all_eq_true.1 belowT0_0_ok _ h
  · exact List.all_eq_true.1 belowT0_1_ok _ h
  · exact List.all_eq_true.1 belowT0_2_ok _ h
  · exact List.all_eq_true.1 belowT0_3_ok _ h
  · exact List.all_eq_true.1 belowT0_4_ok _ h
  · exact List.all_eq_true.1 belowT0_5_ok _ h
  · exact List.all_eq_true.1 belowT0_6_ok _ h
  · exact List.all_eq_true.1 belowT0_7_ok _ h
  · exact List.all_eq_true.1 belowT0_8_ok _ h
  · exact List.all_eq_true.1 belowT0_9_ok _ h
  · exact List.all_eq_true.1 belowT0_10_ok _ h
  · exact List.all_eq_true.1 belowT0_11_ok _ h
  · exact List.all_eq_true.1 belowT0_12_ok _ h
  · exact List.all_eq_true.1 belowT0_13_ok _ h
  · exact List.all_eq_true.1 belowT0_14_ok _ h
  · exact List.all_eq_true.1 belowT0_15_ok _ h
  · exact List.all_eq_true.1 belowT0_16_ok _ h
  · exact List.all_eq_true.1 belowT0_17_ok _ h
  · exact List.all_eq_true.1 belowT0_18_ok _ h
  · exact List.all_eq_true.1 belowT0_19_ok _ h
  · exact List.all_eq_true.1 belowT0_20_ok _ h
  · exact List.all_eq_true.1 belowT0_21_ok _ h
  · exact List.all_eq_true.1 belowT0_22_ok _ h
  · exact List.all_eq_true.1 belowT0_23_ok _ h
  · exact List.all_eq_true.1 belowT0_24_ok _ h
  · exact List.all_eq_true.1 belowT0_25_ok _ h
  · exact List.all_eq_true.1 belowT0_26_ok _ h
  · exact List.all_eq_true.1 belowT0_27_ok _ h
  · exact List.all_eq_true.1 belowT0_28_ok _ h
  · exact List.all_eq_true.1 belowT0_29_ok _ h
  · exact List.all_eq_true.1 belowT0_30_ok _ h
end Go.Proofs.YthomeenmcajmdaaDoor
/- Below 2^24: candidates, by computing, part 1. Written by wip/tools/gen_below.py. -/
namespace Go.Proofs.YthomeenmcajmdaaDoor
set_option maxRecDepth 100000
def belowT1_0 : List (Nat × Nat × Nat × Nat) := [(41, 20, 2000, 40041)]
theorem belowT1_0_ok : (belowT1_0.all fun r => runK r.1 r.2.1 r.2.2.1 r.2.2.2) = true := by decide +kernel
def belowT1_1 : List (Nat × Nat × Nat × Nat) := [(41, 20, 2000, 200041)]
theorem belowT1_1_ok : (belowT1_1.all fun r => runK r.1 r.2.1 r.2.2.1 r.2.2.2) = true := by decide +kernel
def belowT1_2 : List (Nat × Nat × Nat × Nat) := [(41, 20, 2000, 360041)]
theorem belowT1_2_ok : (belowT1_2.all fun r => runK r.1 r.2.1 r.2.2.1 r.2.2.2) = true := by decide +kernel
def belowT1_3 : List (Nat × Nat × Nat × Nat) := [(43, 14, 2000, 77589)]
theorem belowT1_3_ok : (belowT1_3.all fun r => runK r.1 r.2.1 r.2.2.1 r.2.2.2) = true := by decide +kernel
def belowT1_4 : List (Nat × Nat × Nat × Nat) := [(43, 14, 2000, 189589)]
theorem belowT1_4_ok : (belowT1_4.all fun r => runK r.1 r.2.1 r.2.2.1 r.2.2.2) = true := by decide +kernel
def belowT1_5 : List (Nat × Nat × Nat × Nat) := [(43, 14, 2000, 301589)]
theorem belowT1_5_ok : (belowT1_5.all fun r => runK r.1 r.2.1 r.2.2.1 r.2.2.2) = true := by decide +kernel
def belowT1_6 : List (Nat × Nat × Nat × Nat) := [(47, 23, 2000, 38434)]
theorem belowT1_6_ok : (belowT1_6.all fun r => runK r.1 r.2.1 r.2.2.1 r.2.2.2) = true := by decide +kernel
def belowT1_7 : List (Nat × Nat × Nat × Nat) := [(47, 23, 2000, 222434)]
theorem belowT1_7_ok : (belowT1_7.all fun r => runK r.1 r.2.1 r.2.2.1 r.2.2.2) = true := by decide +kernel
def belowT1_8 : List (Nat × Nat × Nat × Nat) := [(53, 52, 2000, 111749)]
theorem belowT1_8_ok : (belowT1_8.all fun r => runK r.1 r.2.1 r.2.2.1 r.2.2.2) = true := by decide +kernel
def belowT1_9 : List (Nat × Nat × Nat × Nat) := [(59, 58, 843, 235539), (61, 60, 1157, 61)]
theorem belowT1_9_ok : (belowT1_9.all fun r => runK r.1 r.2.1 r.2.2.1 r.2.2.2) = true := by decide +kernel
def belowT1_10 : List (Nat × Nat × Nat × Nat) := [(67, 66, 1222, 169885), (71, 35, 778, 71)]
theorem belowT1_10_ok : (belowT1_10.all fun r => runK r.1 r.2.1 r.2.2.1 r.2.2.2) = true := by decide +kernel
def belowT1_11 : List (Nat × Nat × Nat × Nat) := [(73, 9, 2000, 307)]
theorem belowT1_11_ok : (belowT1_11.all fun r => runK r.1 r.2.1 r.2.2.1 r.2.2.2) = true := by decide +kernel
def belowT1_12 : List (Nat × Nat × Nat × Nat) := [(73, 9, 2000, 72307)]
theorem belowT1_12_ok : (belowT1_12.all fun r => runK r.1 r.2.1 r.2.2.1 r.2.2.2) = true := by decide +kernel
def belowT1_13 : List (Nat × Nat × Nat × Nat) := [(73, 9, 2000, 144307)]
theorem belowT1_13_ok : (belowT1_13.all fun r => runK r.1 r.2.1 r.2.2.1 r.2.2.2) = true := by decide +kernel
def belowT1_14 : List (Nat × Nat × Nat × Nat) := [(73, 9, 1511, 216307), (79, 39, 489, 79)]
theorem belowT1_14_ok : (belowT1_14.all fun r => runK r.1 r.2.1 r.2.2.1 r.2.2.2) = true := by decide +kernel
def belowT1_15 : List (Nat × Nat × Nat × Nat) := [(83, 82, 1423, 85609), (89, 11, 577, 89)]
theorem belowT1_15_ok : (belowT1_15.all fun r => runK r.1 r.2.1 r.2.2.1 r.2.2.2) = true := by decide +kernel
def belowT1_16 : List (Nat × Nat × Nat × Nat) := [(89, 11, 2000, 72436)]
theorem belowT1_16_ok : (belowT1_16.all fun r => runK r.1 r.2.1 r.2.2.1 r.2.2.2) = true := by decide +kernel
def belowT1_17 : List (Nat × Nat × Nat × Nat) := [(89, 11, 2000, 160436)]
theorem belowT1_17_ok : (belowT1_17.all fun r => runK r.1 r.2.1 r.2.2.1 r.2.2.2) = true := by decide +kernel
def belowT1_18 : List (Nat × Nat × Nat × Nat) := [(103, 51, 2000, 8926)]
theorem belowT1_18_ok : (belowT1_18.all fun r => runK r.1 r.2.1 r.2.2.1 r.2.2.2) = true := by decide +kernel
def belowT1_19 : List (Nat × Nat × Nat × Nat) := [(109, 36, 777, 126073), (113, 28, 1223, 113)]
theorem belowT1_19_ok : (belowT1_19.all fun r => runK r.1 r.2.1 r.2.2.1 r.2.2.2) = true := by decide +kernel
def belowT1_20 : List (Nat × Nat × Nat × Nat) := [(127, 7, 2000, 13567)]
theorem belowT1_20_ok : (belowT1_20.all fun r => runK r.1 r.2.1 r.2.2.1 r.2.2.2) = true := by decide +kernel
def belowT1_21 : List (Nat × Nat × Nat × Nat) := [(127, 7, 2000, 69567)]
theorem belowT1_21_ok : (belowT1_21.all fun r => runK r.1 r.2.1 r.2.2.1 r.2.2.2) = true := by decide +kernel
def belowT1_22 : List (Nat × Nat × Nat × Nat) := [(127, 7, 953, 125567), (131, 130, 986, 131), (137, 68, 61, 137)]
theorem belowT1_22_ok : (belowT1_22.all fun r => runK r.1 r.2.1 r.2.2.1 r.2.2.2) = true := by decide +kernel
def belowT1_23 : List (Nat × Nat × Nat × Nat) := [(151, 15, 2000, 39511)]
theorem belowT1_23_ok : (belowT1_23.all fun r => runK r.1 r.2.1 r.2.2.1 r.2.2.2) = true := by decide +kernel
def belowT1_24 : List (Nat × Nat × Nat × Nat) := [(167, 83, 687, 43659), (173, 172, 564, 173), (179, 178, 527, 179), (181, 180, 222, 181)]
theorem belowT1_24_ok : (belowT1_24.all fun r => runK r.1 r.2.1 r.2.2.1 r.2.2.2) = true := by decide +kernel
def belowT1_25 : List (Nat × Nat × Nat × Nat) := [(227, 226, 152, 40003), (229, 76, 964, 229), (233, 29, 884, 233)]
theorem belowT1_25_ok : (belowT1_25.all fun r => runK r.1 r.2.1 r.2.2.1 r.2.2.2) = true := by decide +kernel
def belowT1_26 : List (Nat × Nat × Nat × Nat) := [(251, 50, 427, 45751), (257, 16, 1573, 257)]
theorem belowT1_26_ok : (belowT1_26.all fun r => runK r.1 r.2.1 r.2.2.1 r.2.2.2) = true := by decide +kernel
def belowT1_27 : List (Nat × Nat × Nat × Nat) := [(293, 292, 27, 49933), (307, 102, 536, 307), (311, 155, 349, 311), (313, 156, 344, 313), (317, 316, 168, 317), (331, 30, 576, 331)]
theorem belowT1_27_ok : (belowT1_27.all fun r => runK r.1 r.2.1 r.2.2.1 r.2.2.2) = true := by decide +kernel
def belowT1_28 : List (Nat × Nat × Nat × Nat) := [(397, 44, 359, 26885), (401, 200, 210, 401), (409, 204, 202, 409), (419, 418, 96, 419), (421, 420, 95, 421), (431, 43, 906, 431), (433, 72, 132, 433)]
theorem belowT1_28_ok : (belowT1_28.all fun r => runK r.1 r.2.1 r.2.2.1 r.2.2.2) = true := by decide +kernel
def belowT1_29 : List (Nat × Nat × Nat × Nat) := [(631, 45, 118, 21916), (641, 64, 409, 641), (643, 214, 122, 643), (647, 323, 81, 647), (653, 652, 40, 653), (659, 658, 39, 659), (661, 660, 39, 661), (673, 48, 520, 673), (677, 676, 37, 677), (683, 22, 595, 683)]
theorem belowT1_29_ok : (belowT1_29.all fun r => runK r.1 r.2.1 r.2.2.1 r.2.2.2) = true := by decide +kernel
def belowT1_30 : List (Nat × Nat × Nat × Nat) := [(1399, 233, 32, 6059), (1409, 704, 17, 1409), (1423, 237, 50, 1423), (1427, 1426, 9, 1427), (1429, 84, 140, 1429), (1433, 179, 66, 1433), (1439, 719, 17, 1439), (1447, 723, 17, 1447), (1451, 1450, 8, 1451), (1453, 1452, 8, 1453), (1459, 486, 24, 1459), (1471, 245, 47, 1471), (1481, 370, 31, 1481), (1483, 1482, 8, 1483), (1487, 743, 16, 1487), (1489, 744, 16, 1489), (1493, 1492, 8, 1493), (1499, 1498, 8, 1499), (1511, 755, 15, 1511), (1523, 1522, 8, 1523), (1531, 1530, 8, 1531), (1543, 771, 15, 1543), (1549, 1548, 7, 1549), (1553, 194, 56, 1553), (1559, 779, 14, 1559), (1567, 783, 14, 1567), (1571, 1570, 7, 1571), (1579, 526, 21, 1579), (1583, 791, 14, 1583), (1597, 532, 20, 1597), (1601, 400, 27, 1601), (1607, 803, 14, 1607), (1609, 201, 52, 1609), (1613, 52, 201, 1613), (1619, 1618, 7, 1619), (1621, 1620, 7, 1621), (1627, 542, 20, 1627), (1637, 1636, 7, 1637), (1657, 92, 111, 1657), (1663, 831, 13, 1663), (1667, 1666, 7, 1667), (1669, 1668, 7, 1669), (1693, 1692, 6, 1693), (1697, 848, 12, 1697), (1699, 566, 18, 1699), (1709, 244, 41, 1709), (1721, 215, 46, 1721), (1723, 574, 17, 1723), (1733, 1732, 6, 1733), (1741, 1740, 6, 1741), (1747, 1746, 6, 1747), (1753, 146, 66, 1753), (1759, 879, 11, 1759), (1777, 74, 128, 1777), (1783, 891, 11, 1783), (1787, 1786, 6, 1787), (1789, 596, 16, 1789), (1801, 25, 373, 1801), (1811, 362, 26, 1811), (1823, 911, 11, 1823)]
theorem belowT1_30_ok : (belowT1_30.all fun r => runK r.1 r.2.1 r.2.2.1 r.2.2.2) = true := by decide +kernel
def belowT1 : List (Nat × Nat × Nat × Nat) := belowT1_0 ++ (belowT1_1 ++ (belowT1_2 ++ (belowT1_3 ++ (belowT1_4 ++ (belowT1_5 ++ (belowT1_6 ++ (belowT1_7 ++ (belowT1_8 ++ (belowT1_9 ++ (belowT1_10 ++ (belowT1_11 ++ (belowT1_12 ++ (belowT1_13 ++ (belowT1_14 ++ (belowT1_15 ++ (belowT1_16 ++ (belowT1_17 ++ (belowT1_18 ++ (belowT1_19 ++ (belowT1_20 ++ (belowT1_21 ++ (belowT1_22 ++ (belowT1_23 ++ (belowT1_24 ++ (belowT1_25 ++ (belowT1_26 ++ (belowT1_27 ++ (belowT1_28 ++ (belowT1_29 ++ (belowT1_30))))))))))))))))))))))))))))))
theorem belowT1_ok : ∀ r ∈ belowT1, runK r.1 r.2.1 r.2.2.1 r.2.2.2 = true := by
  intro r hr
  simp only [belowT1, List.mem_append] at hr
  rcases hr with h | h | h | h | h | h | h | h | h | h | h | h | h | h | h | h | h | h | h | h | h | h | h | h | h | h | h | h | h | h | h
  · exact List.all_eq_true.1 belowT1_0_ok _ h
  · exact List.all_eq_true.1 belowT1_1_ok _ h
  · exact List.all_eq_true.1 belowT1_2_ok _ h
  · exact List.all_eq_true.1 belowT1_3_ok _ h
  · exact List.all_eq_true.1 belowT1_4_ok _ h
  · exact List.all_eq_true.1 belowT1_5_ok _ h
  · exact List.all_eq_true.1 belowT1_6_ok _ h
  · exact List.all_eq_true.1 belowT1_7_ok _ h
  · exact List.all_eq_true.1 belowT1_8_ok _ h
  · exact List.all_eq_true.1 belowT1_9_ok _ h
  · exact List.all_eq_true.1 belowT1_10_ok _ h
  · exact List.all_eq_true.1 belowT1_11_ok _ h
  · exact List.all_eq_true.1 belowT1_12_ok _ h
  · exact List.all_eq_true.1 belowT1_13_ok _ h
  · exact List.all_eq_true.1 belowT1_14_ok _ h
  · exact List.all_eq_true.1 belowT1_15_ok _ h
  · exact List.all_eq_true.1 belowT1_16_ok _ h
  · exact List.all_eq_true.1 belowT1_17_ok _ h
  · exact List.all_eq_true.1 belowT1_18_ok _ h
  · exact List.all_eq_true.1 belowT1_19_ok _ h
  · exact List.all_eq_true.1 belowT1_20_ok _ h
  · exact List.all_eq_true.1 belowT1_21_ok _ h
  · exact List.all_eq_true.1 belowT1_22_ok _ h
  · exact List.all_eq_true.1 belowT1_23_ok _ h
  · exact List.all_eq_true.1 belowT1_24_ok _ h
  · exact List.all_eq_true.1 belowT1_25_ok _ h
  · exact List.all_eq_true.1 belowT1_26_ok _ h
  · exact List.all_eq_true.1 belowT1_27_ok _ h
  · exact List.all_eq_true.1 belowT1_28_ok _ h
  · exact List.all_eq_true.1 belowT1_29_ok _ h
  · exact List.all_eq_true.1 belowT1_30_ok _ h
end Go.Proofs.YthomeenmcajmdaaDoor
/- Below 2^24: candidates, by computing, part 2. Written by wip/tools/gen_below.py. -/
namespace Go.Proofs.YthomeenmcajmdaaDoor
set_option maxRecDepth 100000
def belowT2_0 : List (Nat × Nat × Nat × Nat) := [(41, 20, 2000, 80041)]
theorem belowT2_0_ok : (belowT2_0.all fun r => runK r.1 r.2.1 r.2.2.1 r.2.2.2) = true := by decide +kernel
def belowT2_1 : List (Nat × Nat × Nat × Nat) := [(41, 20, 2000, 240041)]
theorem belowT2_1_ok : (belowT2_1.all fun r => runK r.1 r.2.1 r.2.2.1 r.2.2.2) = true := by decide +kernel
def belowT2_2 : List (Nat × Nat × Nat × Nat) := [(41, 20, 461, 400041), (43, 14, 1539, 43)]
theorem belowT2_2_ok : (belowT2_2.all fun r => runK r.1 r.2.1 r.2.2.1 r.2.2.2) = true := by decide +kernel
def belowT2_3 : List (Nat × Nat × Nat × Nat) := [(43, 14, 2000, 105589)]
theorem belowT2_3_ok : (belowT2_3.all fun r => runK r.1 r.2.1 r.2.2.1 r.2.2.2) = true := by decide +kernel
def belowT2_4 : List (Nat × Nat × Nat × Nat) := [(43, 14, 2000, 217589)]
theorem belowT2_4_ok : (belowT2_4.all fun r => runK r.1 r.2.1 r.2.2.1 r.2.2.2) = true := by decide +kernel
def belowT2_5 : List (Nat × Nat × Nat × Nat) := [(43, 14, 2000, 329589)]
theorem belowT2_5_ok : (belowT2_5.all fun r => runK r.1 r.2.1 r.2.2.1 r.2.2.2) = true := by decide +kernel
def belowT2_6 : List (Nat × Nat × Nat × Nat) := [(47, 23, 2000, 84434)]
theorem belowT2_6_ok : (belowT2_6.all fun r => runK r.1 r.2.1 r.2.2.1 r.2.2.2) = true := by decide +kernel
def belowT2_7 : List (Nat × Nat × Nat × Nat) := [(47, 23, 2000, 268434)]
theorem belowT2_7_ok : (belowT2_7.all fun r => runK r.1 r.2.1 r.2.2.1 r.2.2.2) = true := by decide +kernel
def belowT2_8 : List (Nat × Nat × Nat × Nat) := [(53, 52, 1940, 215749), (59, 58, 60, 59)]
theorem belowT2_8_ok : (belowT2_8.all fun r => runK r.1 r.2.1 r.2.2.1 r.2.2.2) = true := by decide +kernel
def belowT2_9 : List (Nat × Nat × Nat × Nat) := [(61, 60, 2000, 69481)]
theorem belowT2_9_ok : (belowT2_9.all fun r => runK r.1 r.2.1 r.2.2.1 r.2.2.2) = true := by decide +kernel
def belowT2_10 : List (Nat × Nat × Nat × Nat) := [(71, 35, 2000, 27301)]
theorem belowT2_10_ok : (belowT2_10.all fun r => runK r.1 r.2.1 r.2.2.1 r.2.2.2) = true := by decide +kernel
def belowT2_11 : List (Nat × Nat × Nat × Nat) := [(73, 9, 2000, 18307)]
theorem belowT2_11_ok : (belowT2_11.all fun r => runK r.1 r.2.1 r.2.2.1 r.2.2.2) = true := by decide +kernel
def belowT2_12 : List (Nat × Nat × Nat × Nat) := [(73, 9, 2000, 90307)]
theorem belowT2_12_ok : (belowT2_12.all fun r => runK r.1 r.2.1 r.2.2.1 r.2.2.2) = true := by decide +kernel
def belowT2_13 : List (Nat × Nat × Nat × Nat) := [(73, 9, 2000, 162307)]
theorem belowT2_13_ok : (belowT2_13.all fun r => runK r.1 r.2.1 r.2.2.1 r.2.2.2) = true := by decide +kernel
def belowT2_14 : List (Nat × Nat × Nat × Nat) := [(79, 39, 2000, 19150)]
theorem belowT2_14_ok : (belowT2_14.all fun r => runK r.1 r.2.1 r.2.2.1 r.2.2.2) = true := by decide +kernel
def belowT2_15 : List (Nat × Nat × Nat × Nat) := [(89, 11, 2000, 6436)]
theorem belowT2_15_ok : (belowT2_15.all fun r => runK r.1 r.2.1 r.2.2.1 r.2.2.2) = true := by decide +kernel
def belowT2_16 : List (Nat × Nat × Nat × Nat) := [(89, 11, 2000, 94436)]
theorem belowT2_16_ok : (belowT2_16.all fun r => runK r.1 r.2.1 r.2.2.1 r.2.2.2) = true := by decide +kernel
def belowT2_17 : List (Nat × Nat × Nat × Nat) := [(89, 11, 561, 182436), (97, 48, 1439, 97)]
theorem belowT2_17_ok : (belowT2_17.all fun r => runK r.1 r.2.1 r.2.2.1 r.2.2.2) = true := by decide +kernel
def belowT2_18 : List (Nat × Nat × Nat × Nat) := [(103, 51, 1021, 110926), (107, 106, 979, 107)]
theorem belowT2_18_ok : (belowT2_18.all fun r => runK r.1 r.2.1 r.2.2.1 r.2.2.2) = true := by decide +kernel
def belowT2_19 : List (Nat × Nat × Nat × Nat) := [(113, 28, 2000, 34357)]
theorem belowT2_19_ok : (belowT2_19.all fun r => runK r.1 r.2.1 r.2.2.1 r.2.2.2) = true := by decide +kernel
def belowT2_20 : List (Nat × Nat × Nat × Nat) := [(127, 7, 2000, 27567)]
theorem belowT2_20_ok : (belowT2_20.all fun r => runK r.1 r.2.1 r.2.2.1 r.2.2.2) = true := by decide +kernel
def belowT2_21 : List (Nat × Nat × Nat × Nat) := [(127, 7, 2000, 83567)]
theorem belowT2_21_ok : (belowT2_21.all fun r => runK r.1 r.2.1 r.2.2.1 r.2.2.2) = true := by decide +kernel
def belowT2_22 : List (Nat × Nat × Nat × Nat) := [(137, 68, 1740, 4285), (139, 138, 260, 139)]
theorem belowT2_22_ok : (belowT2_22.all fun r => runK r.1 r.2.1 r.2.2.1 r.2.2.2) = true := by decide +kernel
def belowT2_23 : List (Nat × Nat × Nat × Nat) := [(151, 15, 2000, 69511)]
theorem belowT2_23_ok : (belowT2_23.all fun r => runK r.1 r.2.1 r.2.2.1 r.2.2.2) = true := by decide +kernel
def belowT2_24 : List (Nat × Nat × Nat × Nat) := [(181, 180, 293, 40141), (191, 95, 925, 191), (193, 96, 782, 193)]
theorem belowT2_24_ok : (belowT2_24.all fun r => runK r.1 r.2.1 r.2.2.1 r.2.2.2) = true := by decide +kernel
def belowT2_25 : List (Nat × Nat × Nat × Nat) := [(233, 29, 1599, 25869), (239, 119, 401, 239)]
theorem belowT2_25_ok : (belowT2_25.all fun r => runK r.1 r.2.1 r.2.2.1 r.2.2.2) = true := by decide +kernel
def belowT2_26 : List (Nat × Nat × Nat × Nat) := [(257, 16, 2000, 25425)]
theorem belowT2_26_ok : (belowT2_26.all fun r => runK r.1 r.2.1 r.2.2.1 r.2.2.2) = true := by decide +kernel
def belowT2_27 : List (Nat × Nat × Nat × Nat) := [(331, 30, 1114, 17611), (337, 21, 886, 337)]
theorem belowT2_27_ok : (belowT2_27.all fun r => runK r.1 r.2.1 r.2.2.1 r.2.2.2) = true := by decide +kernel
def belowT2_28 : List (Nat × Nat × Nat × Nat) := [(433, 72, 407, 9937), (439, 73, 524, 439), (443, 442, 86, 443), (449, 224, 167, 449), (457, 76, 484, 457), (461, 460, 80, 461), (463, 231, 157, 463), (467, 466, 78, 467), (479, 239, 17, 479)]
theorem belowT2_28_ok : (belowT2_28.all fun r => runK r.1 r.2.1 r.2.2.1 r.2.2.2) = true := by decide +kernel
def belowT2_29 : List (Nat × Nat × Nat × Nat) := [(683, 22, 522, 13773), (691, 230, 106, 691), (701, 700, 35, 701), (709, 708, 34, 709), (719, 359, 65, 719), (727, 121, 191, 727), (733, 244, 94, 733), (739, 246, 93, 739), (743, 371, 61, 743), (751, 375, 60, 751), (757, 756, 30, 757), (761, 380, 59, 761), (769, 384, 57, 769), (773, 772, 29, 773), (787, 786, 28, 787), (797, 796, 27, 797), (809, 404, 52, 809), (811, 270, 77, 811), (821, 820, 25, 821), (823, 411, 50, 823), (827, 826, 25, 827), (829, 828, 25, 829), (839, 419, 48, 839), (853, 852, 24, 853), (857, 428, 46, 857), (859, 858, 23, 859), (863, 431, 46, 863), (877, 876, 22, 877), (881, 55, 46, 881)]
theorem belowT2_29_ok : (belowT2_29.all fun r => runK r.1 r.2.1 r.2.2.1 r.2.2.2) = true := by decide +kernel
def belowT2_30 : List (Nat × Nat × Nat × Nat) := [(1831, 305, 31, 1831), (1847, 923, 10, 1847), (1861, 1860, 5, 1861), (1867, 1866, 5, 1867), (1871, 935, 10, 1871), (1873, 936, 10, 1873), (1877, 1876, 5, 1877), (1879, 939, 10, 1879), (1889, 472, 19, 1889), (1901, 1900, 5, 1901), (1907, 1906, 5, 1907), (1913, 239, 37, 1913), (1931, 1930, 5, 1931), (1933, 644, 14, 1933), (1949, 1948, 5, 1949), (1951, 975, 9, 1951), (1973, 1972, 5, 1973), (1979, 1978, 5, 1979), (1987, 1986, 5, 1987), (1993, 996, 9, 1993), (1997, 1996, 5, 1997), (1999, 333, 26, 1999), (2003, 286, 30, 2003), (2011, 402, 21, 2011), (2017, 336, 25, 2017), (2027, 2026, 5, 2027), (2029, 2028, 5, 2029), (2039, 1019, 9, 2039), (2053, 2052, 4, 2053), (2063, 1031, 8, 2063), (2069, 2068, 4, 2069), (2081, 1040, 8, 2081), (2083, 2082, 4, 2083), (2087, 1043, 8, 2087), (2089, 29, 277, 2089), (2099, 2098, 4, 2099), (2111, 1055, 8, 2111), (2113, 44, 181, 2113), (2129, 532, 15, 2129), (2131, 2130, 4, 2131), (2137, 1068, 8, 2137), (2141, 2140, 4, 2141), (2143, 51, 154, 2143), (2153, 1076, 8, 2153), (2161, 1080, 8, 2161), (2179, 726, 11, 2179), (2203, 734, 11, 2203), (2207, 1103, 7, 2207), (2213, 2212, 4, 2213), (2221, 2220, 4, 2221), (2237, 2236, 4, 2237), (2239, 1119, 7, 2239), (2243, 2242, 4, 2243), (2251, 750, 10, 2251), (2267, 2266, 4, 2267), (2269, 2268, 4, 2269), (2273, 568, 13, 2273), (2281, 190, 39, 2281), (2287, 381, 20, 2287), (2293, 2292, 4, 2293), (2297, 1148, 7, 2297), (2309, 2308, 4, 2309), (2311, 1155, 7, 2311), (2333, 2332, 4, 2333), (2339, 2338, 4, 2339), (2341, 780, 10, 2341), (2347, 782, 10, 2347), (2351, 47, 152, 2351), (2357, 2356, 4, 2357), (2371, 2370, 3, 2371), (2377, 1188, 6, 2377), (2381, 476, 15, 2381), (2383, 397, 18, 2383), (2389, 2388, 3, 2389), (2393, 598, 12, 2393), (2399, 1199, 6, 2399), (2411, 482, 15, 2411), (2417, 1208, 6, 2417), (2423, 1211, 6, 2423), (2437, 2436, 3, 2437), (2441, 305, 23, 2441), (2447, 1223, 6, 2447), (2459, 2458, 3, 2459), (2467, 2466, 3, 2467), (2473, 618, 11, 2473), (2477, 2476, 3, 2477), (2503, 1251, 6, 2503), (2521, 1260, 6, 2521), (2531, 2530, 3, 2531), (2539, 2538, 3, 2539), (2543, 1271, 6, 2543), (2549, 2548, 3, 2549), (2551, 1275, 6, 2551), (2557, 2556, 3, 2557), (2579, 2578, 3, 2579), (2591, 1295, 6, 2591), (2593, 81, 80, 2593), (2609, 1304, 5, 2609), (2617, 1308, 5, 2617), (2621, 2620, 3, 2621), (2633, 1316, 5, 2633), (2647, 1323, 5, 2647), (2657, 166, 39, 2657), (2659, 2658, 3, 2659), (2663, 1331, 5, 2663), (2671, 445, 15, 2671), (2677, 2676, 3, 2677), (2683, 2682, 3, 2683), (2687, 79, 80, 2687), (2689, 224, 28, 2689), (2693, 2692, 3, 2693), (2699, 2698, 3, 2699), (2707, 2706, 3, 2707), (2711, 1355, 5, 2711), (2713, 1356, 5, 2713), (2719, 1359, 5, 2719), (2729, 1364, 5, 2729), (2731, 26, 115, 2731)]
theorem belowT2_30_ok : (belowT2_30.all fun r => runK r.1 r.2.1 r.2.2.1 r.2.2.2) = true := by decide +kernel
def belowT2 : List (Nat × Nat × Nat × Nat) := belowT2_0 ++ (belowT2_1 ++ (belowT2_2 ++ (belowT2_3 ++ (belowT2_4 ++ (belowT2_5 ++ (belowT2_6 ++ (belowT2_7 ++ (belowT2_8 ++ (belowT2_9 ++ (belowT2_10 ++ (belowT2_11 ++ (belowT2_12 ++ (belowT2_13 ++ (belowT2_14 ++ (belowT2_15 ++ (belowT2_16 ++ (belowT2_17 ++ (belowT2_18 ++ (belowT2_19 ++ (belowT2_20 ++ (belowT2_21 ++ (belowT2_22 ++ (belowT2_23 ++ (belowT2_24 ++ (belowT2_25 ++ (belowT2_26 ++ (belowT2_27 ++ (belowT2_28 ++ (belowT2_29 ++ (belowT2_30))))))))))))))))))))))))))))))
theorem belowT2_ok : ∀ r ∈ belowT2, runK r.1 r.2.1 r.2.2.1 r.2.2.2 = true := by
  intro r hr
  simp only [belowT2, List.mem_append] at hr
  rcases hr with h | h | h | h | h | h | h | h | h | h | h | h | h | h | h | h | h | h | h | h | h | h | h | h | h | h | h | h | h | h | h
  · exact List.all_eq_true.1 belowT2_0_ok _ h
  · exact List.all_eq_true.1 belowT2_1_ok _ h
  · exact List.all_eq_true.1 belowT2_2_ok _ h
  · exact List.all_eq_true.1 belowT2_3_ok _ h
  · exact List.all_eq_true.1 belowT2_4_ok _ h
  · exact List.all_eq_true.1 belowT2_5_ok _ h
  · exact List.all_eq_true.1 belowT2_6_ok _ h
  · exact List.all_eq_true.1 belowT2_7_ok _ h
  · exact List.all_eq_true.1 belowT2_8_ok _ h
  · exact List.all_eq_true.1 belowT2_9_ok _ h
  · exact List.all_eq_true.1 belowT2_10_ok _ h
  · exact List.all_eq_true.1 belowT2_11_ok _ h
  · exact List.all_eq_true.1 belowT2_12_ok _ h
  · exact List.all_eq_true.1 belowT2_13_ok _ h
  · exact List.all_eq_true.1 belowT2_14_ok _ h
  · exact List.all_eq_true.1 belowT2_15_ok _ h
  · exact List.all_eq_true.1 belowT2_16_ok _ h
  · exact List.all_eq_true.1 belowT2_17_ok _ h
  · exact List.all_eq_true.1 belowT2_18_ok _ h
  · exact List.all_eq_true.1 belowT2_19_ok _ h
  · exact List.all_eq_true.1 belowT2_20_ok _ h
  · exact List.all_eq_true.1 belowT2_21_ok _ h
  · exact List.all_eq_true.1 belowT2_22_ok _ h
  · exact List.all_eq_true.1 belowT2_23_ok _ h
  · exact List.all_eq_true.1 belowT2_24_ok _ h
  · exact List.all_eq_true.1 belowT2_25_ok _ h
  · exact List.all_eq_true.1 belowT2_26_ok _ h
  · exact List.all_eq_true.1 belowT2_27_ok _ h
  · exact List.all_eq_true.1 belowT2_28_ok _ h
  · exact List.all_eq_true.1 belowT2_29_ok _ h
  · exact List.all_eq_true.1 belowT2_30_ok _ h
end Go.Proofs.YthomeenmcajmdaaDoor
/- Below 2^24: candidates, by computing, part 3. Written by wip/tools/gen_below.py. -/
namespace Go.Proofs.YthomeenmcajmdaaDoor
set_option maxRecDepth 100000
def belowT3_0 : List (Nat × Nat × Nat × Nat) := [(41, 20, 2000, 120041)]
theorem belowT3_0_ok : (belowT3_0.all fun r => runK r.1 r.2.1 r.2.2.1 r.2.2.2) = true := by decide +kernel
def belowT3_1 : List (Nat × Nat × Nat × Nat) := [(41, 20, 2000, 280041)]
theorem belowT3_1_ok : (belowT3_1.all fun r => runK r.1 r.2.1 r.2.2.1 r.2.2.2) = true := by decide +kernel
def belowT3_2 : List (Nat × Nat × Nat × Nat) := [(43, 14, 2000, 21589)]
theorem belowT3_2_ok : (belowT3_2.all fun r => runK r.1 r.2.1 r.2.2.1 r.2.2.2) = true := by decide +kernel
def belowT3_3 : List (Nat × Nat × Nat × Nat) := [(43, 14, 2000, 133589)]
theorem belowT3_3_ok : (belowT3_3.all fun r => runK r.1 r.2.1 r.2.2.1 r.2.2.2) = true := by decide +kernel
def belowT3_4 : List (Nat × Nat × Nat × Nat) := [(43, 14, 2000, 245589)]
theorem belowT3_4_ok : (belowT3_4.all fun r => runK r.1 r.2.1 r.2.2.1 r.2.2.2) = true := by decide +kernel
def belowT3_5 : List (Nat × Nat × Nat × Nat) := [(43, 14, 2000, 357589)]
theorem belowT3_5_ok : (belowT3_5.all fun r => runK r.1 r.2.1 r.2.2.1 r.2.2.2) = true := by decide +kernel
def belowT3_6 : List (Nat × Nat × Nat × Nat) := [(47, 23, 2000, 130434)]
theorem belowT3_6_ok : (belowT3_6.all fun r => runK r.1 r.2.1 r.2.2.1 r.2.2.2) = true := by decide +kernel
def belowT3_7 : List (Nat × Nat × Nat × Nat) := [(47, 23, 1852, 314434), (53, 52, 148, 53)]
theorem belowT3_7_ok : (belowT3_7.all fun r => runK r.1 r.2.1 r.2.2.1 r.2.2.2) = true := by decide +kernel
def belowT3_8 : List (Nat × Nat × Nat × Nat) := [(59, 58, 2000, 3539)]
theorem belowT3_8_ok : (belowT3_8.all fun r => runK r.1 r.2.1 r.2.2.1 r.2.2.2) = true := by decide +kernel
def belowT3_9 : List (Nat × Nat × Nat × Nat) := [(61, 60, 1427, 189481), (67, 66, 573, 67)]
theorem belowT3_9_ok : (belowT3_9.all fun r => runK r.1 r.2.1 r.2.2.1 r.2.2.2) = true := by decide +kernel
def belowT3_10 : List (Nat × Nat × Nat × Nat) := [(71, 35, 2000, 97301)]
theorem belowT3_10_ok : (belowT3_10.all fun r => runK r.1 r.2.1 r.2.2.1 r.2.2.2) = true := by decide +kernel
def belowT3_11 : List (Nat × Nat × Nat × Nat) := [(73, 9, 2000, 36307)]
theorem belowT3_11_ok : (belowT3_11.all fun r => runK r.1 r.2.1 r.2.2.1 r.2.2.2) = true := by decide +kernel
def belowT3_12 : List (Nat × Nat × Nat × Nat) := [(73, 9, 2000, 108307)]
theorem belowT3_12_ok : (belowT3_12.all fun r => runK r.1 r.2.1 r.2.2.1 r.2.2.2) = true := by decide +kernel
def belowT3_13 : List (Nat × Nat × Nat × Nat) := [(73, 9, 2000, 180307)]
theorem belowT3_13_ok : (belowT3_13.all fun r => runK r.1 r.2.1 r.2.2.1 r.2.2.2) = true := by decide +kernel
def belowT3_14 : List (Nat × Nat × Nat × Nat) := [(79, 39, 2000, 97150)]
theorem belowT3_14_ok : (belowT3_14.all fun r => runK r.1 r.2.1 r.2.2.1 r.2.2.2) = true := by decide +kernel
def belowT3_15 : List (Nat × Nat × Nat × Nat) := [(89, 11, 2000, 28436)]
theorem belowT3_15_ok : (belowT3_15.all fun r => runK r.1 r.2.1 r.2.2.1 r.2.2.2) = true := by decide +kernel
def belowT3_16 : List (Nat × Nat × Nat × Nat) := [(89, 11, 2000, 116436)]
theorem belowT3_16_ok : (belowT3_16.all fun r => runK r.1 r.2.1 r.2.2.1 r.2.2.2) = true := by decide +kernel
def belowT3_17 : List (Nat × Nat × Nat × Nat) := [(97, 48, 2000, 69169)]
theorem belowT3_17_ok : (belowT3_17.all fun r => runK r.1 r.2.1 r.2.2.1 r.2.2.2) = true := by decide +kernel
def belowT3_18 : List (Nat × Nat × Nat × Nat) := [(107, 106, 501, 103881), (109, 36, 1499, 109)]
theorem belowT3_18_ok : (belowT3_18.all fun r => runK r.1 r.2.1 r.2.2.1 r.2.2.2) = true := by decide +kernel
def belowT3_19 : List (Nat × Nat × Nat × Nat) := [(113, 28, 2000, 90357)]
theorem belowT3_19_ok : (belowT3_19.all fun r => runK r.1 r.2.1 r.2.2.1 r.2.2.2) = true := by decide +kernel
def belowT3_20 : List (Nat × Nat × Nat × Nat) := [(127, 7, 2000, 41567)]
theorem belowT3_20_ok : (belowT3_20.all fun r => runK r.1 r.2.1 r.2.2.1 r.2.2.2) = true := by decide +kernel
def belowT3_21 : List (Nat × Nat × Nat × Nat) := [(127, 7, 2000, 97567)]
theorem belowT3_21_ok : (belowT3_21.all fun r => runK r.1 r.2.1 r.2.2.1 r.2.2.2) = true := by decide +kernel
def belowT3_22 : List (Nat × Nat × Nat × Nat) := [(139, 138, 615, 36019), (149, 148, 761, 149), (151, 15, 624, 151)]
theorem belowT3_22_ok : (belowT3_22.all fun r => runK r.1 r.2.1 r.2.2.1 r.2.2.2) = true := by decide +kernel
def belowT3_23 : List (Nat × Nat × Nat × Nat) := [(151, 15, 784, 99511), (157, 52, 1216, 157)]
theorem belowT3_23_ok : (belowT3_23.all fun r => runK r.1 r.2.1 r.2.2.1 r.2.2.2) = true := by decide +kernel
def belowT3_24 : List (Nat × Nat × Nat × Nat) := [(193, 96, 124, 75265), (197, 196, 435, 197), (199, 99, 852, 199), (211, 210, 379, 211), (223, 37, 210, 223)]
theorem belowT3_24_ok : (belowT3_24.all fun r => runK r.1 r.2.1 r.2.2.1 r.2.2.2) = true := by decide +kernel
def belowT3_25 : List (Nat × Nat × Nat × Nat) := [(239, 119, 189, 47958), (241, 24, 1811, 241)]
theorem belowT3_25_ok : (belowT3_25.all fun r => runK r.1 r.2.1 r.2.2.1 r.2.2.2) = true := by decide +kernel
def belowT3_26 : List (Nat × Nat × Nat × Nat) := [(257, 16, 508, 57425), (263, 131, 487, 263), (269, 268, 233, 269), (271, 135, 459, 271), (277, 92, 313, 277)]
theorem belowT3_26_ok : (belowT3_26.all fun r => runK r.1 r.2.1 r.2.2.1 r.2.2.2) = true := by decide +kernel
def belowT3_27 : List (Nat × Nat × Nat × Nat) := [(337, 21, 1485, 18943), (347, 346, 140, 347), (349, 348, 139, 349), (353, 88, 236, 353)]
theorem belowT3_27_ok : (belowT3_27.all fun r => runK r.1 r.2.1 r.2.2.1 r.2.2.2) = true := by decide +kernel
def belowT3_28 : List (Nat × Nat × Nat × Nat) := [(479, 239, 130, 4542), (487, 243, 142, 487), (491, 490, 70, 491), (499, 166, 203, 499), (503, 251, 133, 503), (509, 508, 65, 509), (521, 260, 124, 521), (523, 522, 62, 523), (541, 540, 58, 541), (547, 546, 57, 547), (557, 556, 55, 557), (563, 562, 54, 563), (569, 284, 104, 569), (571, 114, 258, 571), (577, 144, 202, 577), (587, 586, 49, 587), (593, 148, 192, 593), (599, 299, 42, 599)]
theorem belowT3_28_ok : (belowT3_28.all fun r => runK r.1 r.2.1 r.2.2.1 r.2.2.2) = true := by decide +kernel
def belowT3_29 : List (Nat × Nat × Nat × Nat) := [(881, 55, 301, 3411), (883, 882, 22, 883), (887, 443, 43, 887), (907, 906, 21, 907), (911, 91, 203, 911), (919, 153, 120, 919), (929, 464, 39, 929), (937, 117, 154, 937), (941, 940, 19, 941), (947, 946, 19, 947), (953, 68, 259, 953), (967, 483, 36, 967), (971, 194, 90, 971), (977, 488, 36, 977), (983, 491, 35, 983), (991, 495, 35, 991), (997, 332, 51, 997), (1009, 504, 33, 1009), (1013, 92, 181, 1013), (1019, 1018, 17, 1019), (1021, 340, 49, 1021), (1031, 515, 32, 1031), (1033, 258, 63, 1033), (1039, 519, 32, 1039), (1049, 262, 62, 1049), (1051, 350, 46, 1051), (1061, 1060, 2, 1061)]
theorem belowT3_29_ok : (belowT3_29.all fun r => runK r.1 r.2.1 r.2.2.1 r.2.2.2) = true := by decide +kernel
def belowT3_30 : List (Nat × Nat × Nat × Nat) := [(2731, 26, 122, 5721), (2741, 2740, 3, 2741), (2749, 916, 7, 2749), (2753, 1376, 5, 2753), (2767, 461, 14, 2767), (2777, 1388, 5, 2777), (2789, 2788, 3, 2789), (2791, 465, 13, 2791), (2797, 2796, 3, 2797), (2801, 1400, 5, 2801), (2803, 2802, 3, 2803), (2819, 2818, 3, 2819), (2833, 118, 51, 2833), (2837, 2836, 3, 2837), (2843, 2842, 3, 2843), (2851, 2850, 3, 2851), (2857, 102, 58, 2857), (2861, 2860, 3, 2861), (2879, 1439, 5, 2879), (2887, 1443, 5, 2887), (2897, 1448, 4, 2897), (2903, 1451, 4, 2903), (2909, 2908, 2, 2909), (2917, 972, 6, 2917), (2927, 1463, 4, 2927), (2939, 2938, 2, 2939), (2953, 492, 12, 2953), (2957, 2956, 2, 2957), (2963, 2962, 2, 2963), (2969, 371, 16, 2969), (2971, 110, 52, 2971), (2999, 1499, 4, 2999), (3001, 1500, 4, 3001), (3011, 3010, 2, 3011), (3019, 3018, 2, 3019), (3023, 1511, 4, 3023), (3037, 3036, 2, 3037), (3041, 1520, 4, 3041), (3049, 762, 8, 3049), (3061, 204, 27, 3061), (3067, 3066, 2, 3067), (3079, 1539, 4, 3079), (3083, 3082, 2, 3083), (3089, 772, 8, 3089), (3109, 444, 13, 3109), (3119, 1559, 4, 3119), (3121, 156, 35, 3121), (3137, 784, 7, 3137), (3163, 1054, 6, 3163), (3167, 1583, 4, 3167), (3169, 1584, 4, 3169), (3181, 1060, 5, 3181), (3187, 3186, 2, 3187), (3191, 55, 96, 3191), (3203, 3202, 2, 3203), (3209, 1604, 4, 3209), (3217, 804, 7, 3217), (3221, 644, 9, 3221), (3229, 1076, 5, 3229), (3251, 650, 8, 3251), (3253, 3252, 2, 3253), (3257, 407, 13, 3257), (3259, 1086, 5, 3259), (3271, 545, 10, 3271), (3299, 3298, 2, 3299), (3301, 660, 8, 3301), (3307, 3306, 2, 3307), (3313, 828, 7, 3313), (3319, 1659, 4, 3319), (3323, 3322, 2, 3323), (3329, 1664, 4, 3329), (3331, 222, 23, 3331), (3343, 557, 10, 3343), (3347, 3346, 2, 3347), (3359, 1679, 3, 3359), (3361, 168, 30, 3361), (3371, 3370, 2, 3371), (3373, 1124, 5, 3373), (3389, 484, 11, 3389), (3391, 113, 44, 3391), (3407, 1703, 3, 3407), (3413, 3412, 2, 3413), (3433, 1716, 3, 3433), (3449, 431, 12, 3449), (3457, 576, 9, 3457), (3461, 3460, 2, 3461), (3463, 577, 9, 3463), (3467, 3466, 2, 3467), (3469, 3468, 2, 3469), (3491, 3490, 2, 3491), (3499, 3498, 2, 3499), (3511, 1755, 3, 3511), (3517, 3516, 2, 3517), (3527, 1763, 3, 3527), (3529, 882, 6, 3529), (3533, 3532, 2, 3533), (3539, 3538, 2, 3539), (3541, 236, 21, 3541), (3547, 3546, 2, 3547), (3557, 3556, 2, 3557), (3559, 1779, 3, 3559), (3571, 3570, 2, 3571), (3581, 3580, 2, 3581), (3583, 1791, 3, 3583), (3593, 1796, 3, 3593), (3607, 601, 8, 3607), (3613, 3612, 2, 3613), (3617, 1808, 3, 3617), (3623, 1811, 3, 3623), (3631, 605, 8, 3631), (3637, 3636, 2, 3637), (3643, 3642, 2, 3643), (3659, 3658, 2, 3659), (3671, 1835, 3, 3671), (3673, 918, 5, 3673), (3677, 3676, 2, 3677), (3691, 3690, 2, 3691), (3697, 1848, 3, 3697), (3701, 3700, 2, 3701), (3709, 3708, 2, 3709), (3719, 1859, 3, 3719), (3727, 1863, 3, 3727), (3733, 3732, 2, 3733), (3739, 534, 9, 3739), (3761, 188, 24, 3761), (3767, 1883, 3, 3767), (3769, 1884, 3, 3769), (3779, 3778, 2, 3779), (3793, 1896, 3, 3793), (3797, 3796, 2, 3797), (3803, 3802, 2, 3803), (3821, 764, 6, 3821), (3823, 637, 7, 3823), (3833, 958, 5, 3833), (3847, 1923, 3, 3847), (3851, 3850, 2, 3851), (3853, 3852, 2, 3853), (3863, 1931, 3, 3863), (3877, 3876, 2, 3877), (3881, 388, 12, 3881), (3889, 648, 7, 3889), (3907, 3906, 2, 3907), (3911, 1955, 3, 3911), (3917, 3916, 2, 3917), (3919, 1959, 3, 3919), (3923, 3922, 2, 3923), (3929, 1964, 3, 3929), (3931, 3930, 2, 3931), (3943, 219, 20, 3943), (3947, 3946, 2, 3947), (3967, 1983, 3, 3967), (3989, 3988, 2, 3989), (4001, 1000, 5, 4001), (4003, 4002, 2, 4003), (4007, 2003, 3, 4007), (4013, 4012, 2, 4013), (4019, 4018, 2, 4019), (4021, 4020, 2, 4021), (4027, 1342, 4, 4027), (4049, 506, 9, 4049), (4051, 50, 83, 4051), (4057, 169, 25, 4057), (4073, 2036, 3, 4073), (4079, 2039, 3, 4079), (4091, 4090, 2, 4091), (4093, 4092, 2, 4093)]
theorem belowT3_30_ok : (belowT3_30.all fun r => runK r.1 r.2.1 r.2.2.1 r.2.2.2) = true := by decide +kernel
def belowT3 : List (Nat × Nat × Nat × Nat) := belowT3_0 ++ (belowT3_1 ++ (belowT3_2 ++ (belowT3_3 ++ (belowT3_4 ++ (belowT3_5 ++ (belowT3_6 ++ (belowT3_7 ++ (belowT3_8 ++ (belowT3_9 ++ (belowT3_10 ++ (belowT3_11 ++ (belowT3_12 ++ (belowT3_13 ++ (belowT3_14 ++ (belowT3_15 ++ (belowT3_16 ++ (belowT3_17 ++ (belowT3_18 ++ (belowT3_19 ++ (belowT3_20 ++ (belowT3_21 ++ (belowT3_22 ++ (belowT3_23 ++ (belowT3_24 ++ (belowT3_25 ++ (belowT3_26 ++ (belowT3_27 ++ (belowT3_28 ++ (belowT3_29 ++ (belowT3_30))))))))))))))))))))))))))))))
theorem belowT3_ok : ∀ r ∈ belowT3, runK r.1 r.2.1 r.2.2.1 r.2.2.2 = true := by
  intro r hr
  simp only [belowT3, List.mem_append] at hr
  rcases hr with h | h | h | h | h | h | h | h | h | h | h | h | h | h | h | h | h | h | h | h | h | h | h | h | h | h | h | h | h | h | h
  · exact List.all_eq_true.1 belowT3_0_ok _ h
  · exact List.all_eq_true.1 belowT3_1_ok _ h
  · exact List.all_eq_true.1 belowT3_2_ok _ h
  · exact List.all_eq_true.1 belowT3_3_ok _ h
  · exact List.all_eq_true.1 belowT3_4_ok _ h
  · exact List.all_eq_true.1 belowT3_5_ok _ h
  · exact List.all_eq_true.1 belowT3_6_ok _ h
  · exact List.all_eq_true.1 belowT3_7_ok _ h
  · exact List.all_eq_true.1 belowT3_8_ok _ h
  · exact List.all_eq_true.1 belowT3_9_ok _ h
  · exact List.all_eq_true.1 belowT3_10_ok _ h
  · exact List.all_eq_true.1 belowT3_11_ok _ h
  · exact List.all_eq_true.1 belowT3_12_ok _ h
  · exact List.all_eq_true.1 belowT3_13_ok _ h
  · exact List.all_eq_true.1 belowT3_14_ok _ h
  · exact List.all_eq_true.1 belowT3_15_ok _ h
  · exact List.all_eq_true.1 belowT3_16_ok _ h
  · exact List.all_eq_true.1 belowT3_17_ok _ h
  · exact List.all_eq_true.1 belowT3_18_ok _ h
  · exact List.all_eq_true.1 belowT3_19_ok _ h
  · exact List.all_eq_true.1 belowT3_20_ok _ h
  · exact List.all_eq_true.1 belowT3_21_ok _ h
  · exact List.all_eq_true.1 belowT3_22_ok _ h
  · exact List.all_eq_true.1 belowT3_23_ok _ h
  · exact List.all_eq_true.1 belowT3_24_ok _ h
  · exact List.all_eq_true.1 belowT3_25_ok _ h
  · exact List.all_eq_true.1 belowT3_26_ok _ h
  · exact List.all_eq_true.1 belowT3_27_ok _ h
  · exact List.all_eq_true.1 belowT3_28_ok _ h
  · exact List.all_eq_true.1 belowT3_29_ok _ h
  · exact List.all_eq_true.1 belowT3_30_ok _ h
end Go.Proofs.YthomeenmcajmdaaDoor
/- Below 2^24 what stands the test is prime. Written by wip/tools/gen_belowall.py. -/
namespace Go.Proofs.YthomeenmcajmdaaDoor

def pieceB (r : Nat × Nat × Nat × Nat) : Bool := runK r.1 r.2.1 r.2.2.1 r.2.2.2
theorem piece_app {xs ys : List (Nat × Nat × Nat × Nat)} (h : (xs.all fun r => runK r.1 r.2.1 r.2.2.1 r.2.2.2) = true) (h' : ys.all pieceB = true) : (xs ++ ys).all pieceB = true := by
  rw [List.all_append, Bool.and_eq_true]; exact ⟨h, h'⟩
/-- pieces, one behind the other, from m on: n candidates -/
def seqB (q D : Nat) : Nat → Nat → List (Nat × Nat × Nat × Nat) → Bool
  | _, n, [] => Nat.beq n 0
  | m, n, r :: rs => Nat.beq r.1 q && (Nat.beq r.2.1 D && (Nat.beq r.2.2.2 m && seqB q D (m + r.2.2.1 * D) (n - r.2.2.1) rs))
theorem seqB_spec {q D : Nat} : ∀ (rs : List (Nat × Nat × Nat × Nat)) (m n : Nat), (∀ r ∈ rs, pieceB r = true) → seqB q D m n rs = true → ∀ j, j < n → candB q (m + j * D) = true
  | [], m, n, _, h, j, hj => by
    rw [seqB, Nat.beq_eq] at h; omega
  | r :: rs, m, n, hr, h, j, hj => by
    simp only [seqB, Bool.and_eq_true, Nat.beq_eq] at h
    obtain ⟨h1, h2, h3, h4⟩ := h
    by_cases hjf : j < r.2.2.1
    · have := runK_spec _ _ (hr r (by simp)) j hjf
      rw [h1, h2, h3] at this
      exact this
    · have := seqB_spec rs _ _ (fun x hx => hr x (by simp [hx])) h4 (j - r.2.2.1) (by omega)
      obtain ⟨d, hd⟩ : ∃ d, j = r.2.2.1 + d := ⟨j - r.2.2.1, by omega⟩
      rw [hd, Nat.add_sub_cancel_left] at this
      rw [hd, Nat.add_mul, ← Nat.add_assoc]
      exact this
def rowOk (q : Nat) : List (Nat × Nat × Nat × Nat) → Bool
  | [] => false
  | r :: rs => ordB q r.2.1 && seqB q r.2.1 q (16777216 / (q * r.2.1) + 1) (r :: rs)
def fromB (f : Nat → Bool) : Nat → Nat → Bool
  | 0, _ => true
  | n + 1, k => f k && fromB f n (k + 1)
theorem fromB_spec {f : Nat → Bool} : ∀ {n k : Nat}, fromB f n k = true → ∀ j, k ≤ j → j < k + n → f j = true
  | 0, k, _, j, h1, h2 => by omega
  | n + 1, k, h, j, h1, h2 => by
    rw [fromB, Bool.and_eq_true] at h
    by_cases e : j = k
    · rw [e]; exact h.1
    · exact fromB_spec h.2 j (by omega) (by omega)
set_option maxRecDepth 100000
def belowAll : List (Nat × Nat × Nat × Nat) := belowT0_0 ++ (belowT1_0 ++ (belowT2_0 ++ (belowT3_0 ++ (belowT0_1 ++ (belowT1_1 ++ (belowT2_1 ++ (belowT3_1 ++ (belowT0_2 ++ (belowT1_2 ++ (belowT2_2 ++ (belowT3_2 ++ (belowT0_3 ++ (belowT1_3 ++ (belowT2_3 ++ (belowT3_3 ++ (belowT0_4 ++ (belowT1_4 ++ (belowT2_4 ++ (belowT3_4 ++ (belowT0_5 ++ (belowT1_5 ++ (belowT2_5 ++ (belowT3_5 ++ (belowT0_6 ++ (belowT1_6 ++ (belowT2_6 ++ (belowT3_6 ++ (belowT0_7 ++ (belowT1_7 ++ (belowT2_7 ++ (belowT3_7 ++ (belowT0_8 ++ (belowT1_8 ++ (belowT2_8 ++ (belowT3_8 ++ (belowT0_9 ++ (belowT1_9 ++ (belowT2_9 ++ (belowT3_9 ++ (belowT0_10 ++ (belowT1_10 ++ (belowT2_10 ++ (belowT3_10 ++ (belowT0_11 ++ (belowT1_11 ++ (belowT2_11 ++ (belowT3_11 ++ (belowT0_12 ++ (belowT1_12 ++ (belowT2_12 ++ (belowT3_12 ++ (belowT0_13 ++ (belowT1_13 ++ (belowT2_13 ++ (belowT3_13 ++ (belowT0_14 ++ (belowT1_14 ++ (belowT2_14 ++ (belowT3_14 ++ (belowT0_15 ++ (belowT1_15 ++ (belowT2_15 ++ (belowT3_15 ++ (belowT0_16 ++ (belowT1_16 ++ (belowT2_16 ++ (belowT3_16 ++ (belowT0_17 ++ (belowT1_17 ++ (belowT2_17 ++ (belowT3_17 ++ (belowT0_18 ++ (belowT1_18 ++ (belowT2_18 ++ (belowT3_18 ++ (belowT0_19 ++ (belowT1_19 ++ (belowT2_19 ++ (belowT3_19 ++ (belowT0_20 ++ (belowT1_20 ++ (belowT2_20 ++ (belowT3_20 ++ (belowT0_21 ++ (belowT1_21 ++ (belowT2_21 ++ (belowT3_21 ++ (belowT0_22 ++ (belowT1_22 ++ (belowT2_22 ++ (belowT3_22 ++ (belowT0_23 ++ (belowT1_23 ++ (belowT2_23 ++ (belowT3_23 ++ (belowT0_24 ++ (belowT1_24 ++ (belowT2_24 ++ (belowT3_24 ++ (belowT0_25 ++ (belowT1_25 ++ (belowT2_25 ++ (belowT3_25 ++ (belowT0_26 ++ (belowT1_26 ++ (belowT2_26 ++ (belowT3_26 ++ (belowT0_27 ++ (belowT1_27 ++ (belowT2_27 ++ (belowT3_27 ++ (belowT0_28 ++ (belowT1_28 ++ (belowT2_28 ++ (belowT3_28 ++ (belowT0_29 ++ (belowT1_29 ++ (belowT2_29 ++ (belowT3_29 ++ (belowT0_30 ++ (belowT1_30 ++ (belowT2_30 ++ (belowT3_30 ++ [])))))))))))))))))))))))))))))))))))))))))))))))))))))))))))))))))))))))))))))))))))))))))))))))))))))))))))))))))))))))))))
theorem belowAll_ok : belowAll.all pieceB = true := piece_app belowT0_0_ok (piece_app belowT1_0_ok (piece_app belowT2_0_ok (piece_app belowT3_0_ok (piece_app belowT0_1_ok (piece_app belowT1_1_ok (piece_app belowT2_1_ok (piece_app belowT3_1_ok (piece_app belowT0_2_ok (piece_app belowT1_2_ok (piece_app belowT2_2_ok (piece_app belowT3_2_ok (piece_app belowT0_3_ok (piece_app belowT1_3_ok (piece_app belowT2_3_ok (piece_app belowT3_3_ok (piece_app belowT0_4_ok (piece_app belowT1_4_ok (piece_app belowT2_4_ok (piece_app belowT3_4_ok (piece_app belowT0_5_ok (piece_app belowT1_5_ok (piece_app belowT2_5_ok (piece_app belowT3_5_ok (piece_app belowT0_6_ok (piece_app belowT1_6_ok (piece_app belowT2_6_ok (piece_app belowT3_6_ok (piece_app belowT0_7_ok (piece_app belowT1_7_ok (piece_app belowT2_7_ok (piece_app belowT3_7_ok (piece_app belowT0_8_ok (piece_app belowT1_8_ok (piece_app belowT2_8_ok (piece_app belowT3_8_ok (piece_app belowT0_9_ok (piece_app belowT1_9_ok (piece_app belowT2_9_ok (piece_app belowT3_9_ok (piece_app belowT0_10_ok (piece_app belowT1_10_ok (piece_app belowT2_10_ok (piece_app belowT3_10_ok (piece_app belowT0_11_ok (piece_app belowT1_11_ok (piece_app belowT2_11_ok (piece_app belowT3_11_ok (piece_app belowT0_12_ok (piece_app belowT1_12_ok (piece_app belowT2_12_ok (piece_app belowT3_12_ok (piece_app belowT0_13_ok (piece_app belowT1_13_ok (piece_app belowT2_13_ok (piece_app belowT3_13_ok (piece_app belowT0_14_ok (piece_app belowT1_14_ok (piece_app belowT2_14_ok (piece_app belowT3_14_ok (piece_app belowT0_15_ok (piece_app belowT1_15_ok (piece_app belowT2_15_ok (piece_app belowT3_15_ok (piece_app belowT0_16_ok (piece_app belowT1_16_ok (piece_app belowT2_16_ok (piece_app belowT3_16_ok (piece_app belowT0_17_ok (piece_app belowT1_17_ok (piece_app belowT2_17_ok (piece_app belowT3_17_ok (piece_app belowT0_18_ok (piece_app belowT1_18_ok (piece_app belowT2_18_ok (piece_app belowT3_18_ok (piece_app belowT0_19_ok (piece_app belowT1_19_ok (piece_app belowT2_19_ok (piece_app belowT3_19_ok (piece_app belowT0_20_ok (piece_app belowT1_20_ok (piece_app belowT2_20_ok (piece_app belowT3_20_ok (piece_app belowT0_21_ok (piece_app belowT1_21_ok (piece_app belowT2_21_ok (piece_app belowT3_21_ok (piece_app belowT0_22_ok (piece_app belowT1_22_ok (piece_app belowT2_22_ok (piece_app belowT3_22_ok (piece_app belowT0_23_ok (piece_app belowT1_23_ok (piece_app belowT2_23_ok (piece_app belowT3_23_ok (piece_app belowT0_24_ok (piece_app belowT1_24_ok (piece_app belowT2_24_ok (piece_app belowT3_24_ok (piece_app belowT0_25_ok (piece_app belowT1_25_ok (piece_app belowT2_25_ok (piece_app belowT3_25_ok (piece_app belowT0_26_ok (piece_app belowT1_26_ok (piece_app belowT2_26_ok (piece_app belowT3_26_ok (piece_app belowT0_27_ok (piece_app belowT1_27_ok (piece_app belowT2_27_ok (piece_app belowT3_27_ok (piece_app belowT0_28_ok (piece_app belowT1_28_ok (piece_app belowT2_28_ok (piece_app belowT3_28_ok (piece_app belowT0_29_ok (piece_app belowT1_29_ok (piece_app belowT2_29_ok (piece_app belowT3_29_ok (piece_app belowT0_30_ok (piece_app belowT1_30_ok (piece_app belowT2_30_ok (piece_app belowT3_30_ok (rfl))))))))))))))))))))))))))))))))))))))))))))))))))))))))))))))))))))))))))))))))))))))))))))))))))))))))))))))))))))))))))))
def checkQ (q : Nat) : Bool := !primeC q || rowOk q (belowAll.filter fun r => Nat.beq r.1 q)
theorem checkQ_0 : fromB checkQ 254 41 = true := by decide +kernel
theorem checkQ_1 : fromB checkQ 254 295 = true := by decide +kernel
theorem checkQ_2 : fromB checkQ 254 549 = true := by decide +kernel
theorem checkQ_3 : fromB checkQ 254 803 = true := by decide +kernel
theorem checkQ_4 : fromB checkQ 254 1057 = true := by decide +kernel
theorem checkQ_5 : fromB checkQ 254 1311 = true := by decide +kernel
theorem checkQ_6 : fromB checkQ 254 1565 = true := by decide +kernel
theorem checkQ_7 : fromB checkQ 254 1819 = true := by decide +kernel
theorem checkQ_8 : fromB checkQ 254 2073 = true := by decide +kernel
theorem checkQ_9 : fromB checkQ 254 2327 = true := by decide +kernel
theorem checkQ_10 : fromB checkQ 254 2581 = true := by decide +kernel
theorem checkQ_11 : fromB checkQ 254 2835 = true := by decide +kernel
theorem checkQ_12 : fromB checkQ 254 3089 = true := by decide +kernel
theorem checkQ_13 : fromB checkQ 254 3343 = true := by decide +kernel
theorem checkQ_14 : fromB checkQ 254 3597 = true := by decide +kernel
theorem checkQ_15 : fromB checkQ 245 3851 = true := by decide +kernel
theorem checkQ_all {q : Nat} (h41 : 41 ≤ q) (h : q < 4096) : checkQ q = true := by
  rcases (by omega : (41 ≤ q ∧ q < 295) ∨ (295 ≤ q ∧ q < 549) ∨ (549 ≤ q ∧ q < 803) ∨ (803 ≤ q ∧ q < 1057) ∨ (1057 ≤ q ∧ q < 1311) ∨ (1311 ≤ q ∧ q < 1565) ∨ (1565 ≤ q ∧ q < 1819) ∨ (1819 ≤ q ∧ q < 2073) ∨ (2073 ≤ q ∧ q < 2327) ∨ (2327 ≤ q ∧ q < 2581) ∨ (2581 ≤ q ∧ q < 2835) ∨ (2835 ≤ q ∧ q < 3089) ∨ (3089 ≤ q ∧ q < 3343) ∨ (3343 ≤ q ∧ q < 3597) ∨ (3597 ≤ q ∧ q < 3851) ∨ (3851 ≤ q ∧ q < 4096)) with h | h | h | h | h | h | h | h | h | h | h | h | h | h | h | h
  · exact fromB_spec checkQ_0 q (by omega) (by omega)
  · exact fromB_spec checkQ_1 q (by omega) (by omega)
  · exact fromB_spec checkQ_2 q (by omega) (by omega)
  · exact fromB_spec checkQ_3 q (by omega) (by omega)
  · exact fromB_spec checkQ_4 q (by omega) (by omega)
  · exact fromB_spec checkQ_5 q (by omega) (by omega)
  · exact fromB_spec checkQ_6 q (by omega) (by omega)
  · exact fromB_spec checkQ_7 q (by omega) (by omega)
  · exact fromB_spec checkQ_8 q (by omega) (by omega)
  · exact fromB_spec checkQ_9 q (by omega) (by omega)
  · exact fromB_spec checkQ_10 q (by omega) (by omega)
  · exact fromB_spec checkQ_11 q (by omega) (by omega)
  · exact fromB_spec checkQ_12 q (by omega) (by omega)
  · exact fromB_spec checkQ_13 q (by omega) (by omega)
  · exact fromB_spec checkQ_14 q (by omega) (by omega)
  · exact fromB_spec checkQ_15 q (by omega) (by omega)
theorem below_row {q : Nat} (h41 : 41 ≤ q) (h : q < 4096) (hq : Prm q) : ∃ D, ordB q D = true ∧ ∀ j, j < 16777216 / (q * D) + 1 → candB q (q + j * D) = true := by
  have hc := checkQ_all h41 h
  rw [checkQ, primeC_ok hq (by omega), Bool.not_true, Bool.false_or] at hc
  have hm : ∀ r ∈ belowAll.filter fun r => Nat.beq r.1 q, pieceB r = true := fun r hr => List.all_eq_true.1 belowAll_ok r ((List.mem_filter.1 hr).1)
  generalize (belowAll.filter fun r => Nat.beq r.1 q) = L at hc hm
  cases L with
  | nil => cases hc
  | cons r rs =>
    rw [rowOk, Bool.and_eq_true] at hc
    exact ⟨r.2.1, hc.1, fun j hj => seqB_spec _ _ _ hm hc.2 j hj⟩
theorem small_base {q : Nat} (hq : Prm q) (h : q < 41) : q ∈ [2, 3, 5, 7, 11, 13, 17, 19, 23, 29, 31, 37] := by
  have : ∀ q, q < 41 → q ∈ [2, 3, 5, 7, 11, 13, 17, 19, 23, 29, 31, 37] ∨ q < 2 ∨ ∃ d, d < q ∧ 2 ≤ d ∧ q % d = 0 := by decide
  rcases this q h with h1 | h1 | ⟨d, h1, h2, h3⟩
  · exact h1
  · have := hq.1; omega
  · rcases hq.2 d (Nat.dvd_of_mod_eq_zero h3) with e | e <;> omega
/-- below 2^24: who stands the test is prime -/
theorem primeC_prm {n : Nat} (h2 : 2 ≤ n) (hn : n < 16777216) (hc : primeC n = true) : Prm n := by
  apply Classical.byContradiction
  intro hnp
  rcases primeCL_all _ hc with h | hall
  · have : ∀ b ∈ [2, 3, 5, 7, 11, 13, 17, 19, 23, 29, 31, 37], 2 ≤ b ∧ ∀ d, d < b → 2 ≤ d → b % d ≠ 0 := by decide
    exact hnp (prm_small (this n h).1 (this n h).2)
  · have big : ∀ q, Prm q → q ∣ n → 41 ≤ q := fun q hq hd => by
      rcases Nat.lt_or_ge q 41 with h | h
      · exact absurd (Nat.mod_eq_zero_of_dvd hd) (hall q (small_base hq h)).1
      · exact h
    obtain ⟨q, m, hq, hqm, e⟩ : ∃ q m, Prm q ∧ q ≤ m ∧ n = q * m := by
      obtain ⟨q0, hq0, m0, e0⟩ := prm_part n h2
      rcases Nat.lt_or_ge m0 q0 with h | h
      · have hm1 : m0 ≠ 1 := by rintro rfl; rw [Nat.mul_one] at e0; exact hnp (e0 ▸ hq0)
        have hm0 : m0 ≠ 0 := by rintro rfl; omega
        obtain ⟨q1, hq1, m1, e1⟩ := prm_part m0 (by omega)
        have hm10 : 0 < m1 := Nat.pos_of_ne_zero (by rintro rfl; omega)
        have l1 : q1 ≤ m0 := by rw [e1]; exact Nat.le_mul_of_pos_right q1 hm10
        have l2 : q0 ≤ q0 * m1 := Nat.le_mul_of_pos_right q0 hm10
        exact ⟨q1, q0 * m1, hq1, by omega, by rw [e0, e1, Nat.mul_left_comm]⟩
      · exact ⟨q0, m0, hq0, h, e0⟩
    subst e
    have h41 := big q hq ⟨m, rfl⟩
    have hlt : q < 4096 := by
      apply Classical.byContradiction
      intro h
      have := Nat.mul_le_mul (show 4096 ≤ q by omega) (show 4096 ≤ m by omega)
      omega
    obtain ⟨D, hD, hrun⟩ := below_row h41 hlt hq
    exact row_no hq h41 hD hrun hqm hn hc
end Go.Proofs.YthomeenmcajmdaaDoor
