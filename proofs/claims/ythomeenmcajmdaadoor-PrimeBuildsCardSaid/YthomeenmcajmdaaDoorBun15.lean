/- What the texts Dot, Ref01 show, in one text. -/
import Derived.Test.YthomeenmcajmdaaDoorBun04
import Derived.Laws.Externs
/- What field.Dot, Div and Norm answer. -/
namespace Go.Proofs.YthomeenmcajmdaaDoor
open Go.RowKit



/-- a step of Dot's two words -/
theorem dot_step {p x y hi lo s : Int} (hp : 2 ≤ p) (hp1 : p ≤ 9223372036854775807) (hx0 : 0 ≤ x) (hx : x < p) (hy0 : 0 ≤ y) (hy : y < p) (hh : hi < p) (hl0 : 0 ≤ lo) (hl : lo ≤ 18446744073709551615)
    (h : (hi * 18446744073709551616 + lo) % p = s % p) :
    0 ≤ x * y / 18446744073709551616 ∧ 0 ≤ x * y % 18446744073709551616 ∧ x * y % 18446744073709551616 ≤ 18446744073709551615 ∧
    0 ≤ (lo + x * y % 18446744073709551616) / 18446744073709551616 ∧ (lo + x * y % 18446744073709551616) / 18446744073709551616 ≤ 1 ∧ 0 ≤ (lo + x * y) % 18446744073709551616 ∧ (lo + x * y) % 18446744073709551616 ≤ 18446744073709551615 ∧
    hi + x * y / 18446744073709551616 + (lo + x * y % 18446744073709551616) / 18446744073709551616 < 2 * p ∧
    (((hi + x * y / 18446744073709551616 + (lo + x * y % 18446744073709551616) / 18446744073709551616) % p) * 18446744073709551616 + (lo + x * y) % 18446744073709551616) % p = (s + x * y) % p := by
  have h1 := Int.mul_nonneg hx0 hy0
  have h2 : x * y ≤ (p - 1) * (p - 1) := Int.mul_le_mul (by omega) (by omega) hy0 (by omega)
  have h3 : (p - 1) * (p - 1) ≤ 9223372036854775806 * (p - 1) := Int.mul_le_mul_of_nonneg_right (by omega) (by omega)
  refine ⟨by omega, by omega, by omega, by omega, by omega, by omega, by omega, by omega, ?_⟩
  rw [← ma_l, mm_l, ma_l]
  have e : (hi + x * y / 18446744073709551616 + (lo + x * y % 18446744073709551616) / 18446744073709551616) * 18446744073709551616 + (lo + x * y) % 18446744073709551616 = (hi * 18446744073709551616 + lo) + x * y := by omega
  rw [e, ← ma_l, h, ma_l]

/-- the sum of the products, place by place -/
def dotZ : List Int → List Int → Int
  | x :: xs, y :: ys => x * y + dotZ xs ys
  | _, _ => 0
theorem dotZ_comm : ∀ xs ys : List Int, dotZ xs ys = dotZ ys xs
  | x :: xs, y :: ys => by rw [dotZ, dotZ, dotZ_comm xs ys, Int.mul_comm]
  | [], [] => rfl
  | [], _ :: _ => rfl
  | _ :: _, [] => rfl
theorem dotZ_cut (k : Nat) : ∀ xs ys : List Int, dotZ (xs.take k) (ys.take k) + dotZ (xs.drop k) (ys.drop k) = dotZ xs ys := by
  induction k with
  | zero => intro xs ys; simp [dotZ]
  | succ k ih =>
    intro xs ys
    match xs, ys with
    | [], ys => simp [dotZ]
    | x :: xs, [] => simp [dotZ]
    | x :: xs, y :: ys =>
      have := ih xs ys
      simp only [List.take_succ_cons, List.drop_succ_cons, dotZ]; omega
theorem dotZ_zero : ∀ (xs : List Int) (n : Nat), dotZ xs (List.replicate n 0) = 0
  | [], n => by cases n <;> simp [dotZ]
  | x :: xs, 0 => by simp [dotZ]
  | x :: xs, n + 1 => by rw [List.replicate_succ, dotZ, dotZ_zero xs n]; simp
theorem dotZ_snoc : ∀ (xs ys : List Int) (x y : Int), xs.length = ys.length → dotZ (xs ++ [x]) (ys ++ [y]) = dotZ xs ys + x * y
  | [], [], x, y, _ => by simp [dotZ]
  | a :: xs, b :: ys, x, y, h => by
    have := dotZ_snoc xs ys x y (by simpa using h)
    simp only [List.cons_append, dotZ, this]; omega
theorem take_snoc (xs : List Int) (k : Nat) (h : k < xs.length) : xs.take (k + 1) = xs.take k ++ [xs.getD k 0] := by
  rw [List.take_succ_eq_append_getElem h]; simp [List.getD, List.getElem?_eq_getElem h]
theorem dotZ_take (xs ys : List Int) (k : Nat) (h : k < xs.length) (h' : k < ys.length) : dotZ (xs.take (k + 1)) (ys.take (k + 1)) = dotZ (xs.take k) (ys.take k) + xs.getD k 0 * ys.getD k 0 := by
  rw [take_snoc xs k h, take_snoc ys k h', dotZ_snoc _ _ _ _ (by simp; omega)]
theorem get_lt {p : Int} {xs : List Int} (h : ∀ x ∈ xs, x < p) {k : Nat} (hk : k < xs.length) : xs.getD k 0 < p := by
  have e : xs.getD k 0 = xs[k] := by simp [List.getD, List.getElem?_eq_getElem hk]
  rw [e]; exact h _ (List.getElem_mem hk)


end Go.Proofs.YthomeenmcajmdaaDoor
/- What the document's own answers for layer 1 are. -/
namespace Go.Proofs.YthomeenmcajmdaaDoor
open Go.RowKit



set_option maxHeartbeats 400000 in
theorem rAdd (p a b r : Int) (w : World) (hp : rightB p = true) (ha0 : 0 ≤ a) (ha : a < p) (hb0 : 0 ≤ b) (hb : b < p) (h : (a + b) % p = r) :
    Calls Tryd.prog 37 #[.int .u64 p, .int .u64 a, .int .u64 b] w fun e w' => e = .returned (.int .u64 r) ∧ w = w' := by
  have hp2 := rightB_true hp
  have hp3 : p ≠ 0 := by omega
  have H := hid h
  clear h hp
  go_enter Tryd.func37, Tryd.ntmps37
  go_wp2_with fail
  go_ret
  exact ⟨ret_int H.out, rfl⟩

theorem half_even {p a b h : Int} (hh : a * (b / 2) % p = h) (hb : b % 2 = 0) : (h + h) % p = a * b % p := by
  rw [← hh, ma_l, ma_r]
  congr 1
  have : b = b / 2 * 2 := by omega
  generalize b / 2 = c at *
  subst this; grind
theorem half_odd {p a b h g : Int} (hh : a * (b / 2) % p = h) (hg : (h + h) % p = g) (hb : b % 2 = 1) : (g + a) % p = a * b % p := by
  rw [← hg, ← hh, ma_l]
  have : b = b / 2 * 2 + 1 := by omega
  generalize b / 2 = c at *
  rw [mod_eq_iff]
  have e := Int.emod_def (a * c) p
  refine ⟨-2 * (a * c / p), ?_⟩
  rw [e, this]; grind
set_option maxHeartbeats 1000000 in
theorem rMul_all (n : Nat) : ∀ (p a b : Int) (w : World), b.toNat ≤ n → rightB p = true → 0 ≤ a → a < p → 0 ≤ b → b ≤ 18446744073709551615 →
    Calls Tryd.prog 29 #[.int .u64 p, .int .u64 a, .int .u64 b] w fun e w' => e = .returned (.int .u64 (a * b % p)) ∧ w = w' := by
  induction n with
  | zero =>
    intro p a b w hn hp ha0 ha hb0 hb
    obtain rfl : b = 0 := by omega
    go_enter Tryd.func29, Tryd.ntmps29
    go_wp2_with fail
    go_ret
    exact ⟨ret_int (by simp), rfl⟩
  | succ n ih =>
    intro p a b w hn hp ha0 ha hb0 hb
    by_cases h0 : b = 0
    · subst h0
      go_enter Tryd.func29, Tryd.ntmps29
      go_wp2_with fail
      go_ret
      exact ⟨ret_int (by simp), rfl⟩
    · have hp2 := rightB_true hp
      have t0 : (b == 0) = false := by simpa using h0
      have Ih := hid ih; clear ih
      obtain ⟨h, eh, h1, h2⟩ := name_mod (a * (b / 2)) hp2.1
      obtain ⟨g, eg, g1, g2⟩ := name_mod (h + h) hp2.1
      by_cases hb2 : b % 2 = 1
      · have t1 : (b % 2 == 1) = true := by simpa using hb2
        have E := hid (half_odd eh eg hb2)
        obtain ⟨r, er, r1, r2⟩ := name_mod (g + a) hp2.1
        have Er := hid er; have Eh := hid eh; have Eg := hid eg; have Hp := hid hp
        rw [er] at E
        clear hp eh eg er hb2 h0
        go_enter Tryd.func29, Tryd.ntmps29
        go_wp2_with fail
        refine (Ih.out p a (b / 2) _ (by omega) Hp.out ha0 ha (by omega) (by omega)).mono ?_
        rw [Eh.out]; rintro _ _ ⟨rfl, rfl⟩
        go_wp2_with fail
        refine (rAdd p h h g _ Hp.out h1 h2 h1 h2 Eg.out).mono ?_; rintro _ _ ⟨rfl, rfl⟩
        go_wp2_with fail
        refine (rAdd p g a r _ Hp.out g1 g2 ha0 ha Er.out).mono ?_; rintro _ _ ⟨rfl, rfl⟩
        go_wp2_with fail
        go_ret
        exact ⟨ret_int E.out, rfl⟩
      · have t1 : (b % 2 == 1) = false := by simpa using hb2
        have E := hid (half_even eh (by omega))
        rw [eg] at E
        have Eh := hid eh; have Eg := hid eg; have Hp := hid hp
        clear hp eh eg hb2 h0
        go_enter Tryd.func29, Tryd.ntmps29
        go_wp2_with fail
        refine (Ih.out p a (b / 2) _ (by omega) Hp.out ha0 ha (by omega) (by omega)).mono ?_
        rw [Eh.out]; rintro _ _ ⟨rfl, rfl⟩
        go_wp2_with fail
        refine (rAdd p h h g _ Hp.out h1 h2 h1 h2 Eg.out).mono ?_; rintro _ _ ⟨rfl, rfl⟩
        go_wp2_with fail
        go_ret
        exact ⟨ret_int E.out, rfl⟩
theorem rMul (p a b r : Int) (w : World) (hp : rightB p = true) (ha0 : 0 ≤ a) (ha : a < p) (hb0 : 0 ≤ b) (hb : b ≤ 18446744073709551615) (h : a * b % p = r) :
    Calls Tryd.prog 29 #[.int .u64 p, .int .u64 a, .int .u64 b] w fun e w' => e = .returned (.int .u64 r) ∧ w = w' :=
  h ▸ rMul_all b.toNat p a b w (Nat.le_refl _) hp ha0 ha hb0 hb

theorem pow_even {p a n h : Int} (h0 : 0 ≤ n) (hh : mpow p a (n / 2) = h) (hn : n % 2 = 0) : h * h % p = mpow p a n := by
  unfold mpow at *
  rw [← hh, mm_l, mm_r, ← Int.pow_add]
  congr 2; omega
theorem pow_odd {p a n h g : Int} (h0 : 0 ≤ n) (hh : mpow p a (n / 2) = h) (hg : h * h % p = g) (hn : n % 2 = 1) : g * a % p = mpow p a n := by
  unfold mpow at *
  rw [← hg, mm_l, ← hh, Int.mul_assoc, mm_l, Int.mul_comm _ a, ← Int.mul_assoc, mm_r, Int.mul_right_comm, ← Int.pow_add, ← Int.pow_succ]
  congr 2; omega
set_option maxHeartbeats 1000000 in
theorem rPow_all (m : Nat) : ∀ (p a n : Int) (w : World), n.toNat ≤ m → rightB p = true → 0 ≤ a → a < p → 0 ≤ n → n ≤ 18446744073709551615 →
    Calls Tryd.prog 21 #[.int .u64 p, .int .u64 a, .int .u64 n] w fun e w' => e = .returned (.int .u64 (mpow p a n)) ∧ w = w' := by
  induction m with
  | zero =>
    intro p a n w hm hp ha0 ha hn0 hn
    obtain rfl : n = 0 := by omega
    have e := hid (mpow_zero a (rightB_true hp).1)
    go_enter Tryd.func21, Tryd.ntmps21
    go_wp2_with fail
    go_ret
    exact ⟨ret_int e.out.symm, rfl⟩
  | succ m ih =>
    intro p a n w hm hp ha0 ha hn0 hn
    by_cases h0 : n = 0
    · subst h0
      have e := hid (mpow_zero a (rightB_true hp).1)
      go_enter Tryd.func21, Tryd.ntmps21
      go_wp2_with fail
      go_ret
      exact ⟨ret_int e.out.symm, rfl⟩
    · have hp2 := rightB_true hp
      have t0 : (n == 0) = false := by simpa using h0
      have Ih := hid ih; clear ih
      obtain ⟨h, eh⟩ : ∃ h, mpow p a (n / 2) = h := ⟨_, rfl⟩
      have hr := mpow_range a (n / 2) hp2.1
      rw [eh] at hr
      obtain ⟨g, eg, g1, g2⟩ := name_mod (h * h) hp2.1
      by_cases hb2 : n % 2 = 1
      · have t1 : (n % 2 == 1) = true := by simpa using hb2
        have E := hid (pow_odd hn0 eh eg hb2)
        obtain ⟨r, er, r1, r2⟩ := name_mod (g * a) hp2.1
        have Er := hid er; have Eh := hid eh; have Eg := hid eg; have Hp := hid hp
        rw [er] at E
        clear hp eh eg er hb2 h0
        go_enter Tryd.func21, Tryd.ntmps21
        go_wp2_with fail
        refine (Ih.out p a (n / 2) _ (by omega) Hp.out ha0 ha (by omega) (by omega)).mono ?_
        rw [Eh.out]; rintro _ _ ⟨rfl, rfl⟩
        go_wp2_with fail
        refine (rMul p h h g _ Hp.out hr.1 hr.2 hr.1 (by omega) Eg.out).mono ?_; rintro _ _ ⟨rfl, rfl⟩
        go_wp2_with fail
        refine (rMul p g a r _ Hp.out g1 g2 ha0 (by omega) Er.out).mono ?_; rintro _ _ ⟨rfl, rfl⟩
        go_wp2_with fail
        go_ret
        exact ⟨ret_int E.out, rfl⟩
      · have t1 : (n % 2 == 1) = false := by simpa using hb2
        have E := hid (pow_even hn0 eh (by omega))
        rw [eg] at E
        have Eh := hid eh; have Eg := hid eg; have Hp := hid hp
        clear hp eh eg hb2 h0
        go_enter Tryd.func21, Tryd.ntmps21
        go_wp2_with fail
        refine (Ih.out p a (n / 2) _ (by omega) Hp.out ha0 ha (by omega) (by omega)).mono ?_
        rw [Eh.out]; rintro _ _ ⟨rfl, rfl⟩
        go_wp2_with fail
        refine (rMul p h h g _ Hp.out hr.1 hr.2 hr.1 (by omega) Eg.out).mono ?_; rintro _ _ ⟨rfl, rfl⟩
        go_wp2_with fail
        go_ret
        exact ⟨ret_int E.out, rfl⟩
theorem rPow (p a n r : Int) (w : World) (hp : rightB p = true) (ha0 : 0 ≤ a) (ha : a < p) (hn0 : 0 ≤ n) (hn : n ≤ 18446744073709551615) (h : mpow p a n = r) :
    Calls Tryd.prog 21 #[.int .u64 p, .int .u64 a, .int .u64 n] w fun e w' => e = .returned (.int .u64 r) ∧ w = w' :=
  h ▸ rPow_all n.toNat p a n w (Nat.le_refl _) hp ha0 ha hn0 hn


theorem sub_mul_le (l n : Int) (hn : 0 < n) (hl : 0 ≤ l) : 0 ≤ l / n * n ∧ l / n * n ≤ l ∧ l - l / n * n = l % n := by
  have h1 := Int.ediv_mul_add_emod l n
  have h2 := Int.emod_nonneg l (show n ≠ 0 by omega)
  have h3 := Int.mul_nonneg (Int.ediv_nonneg hl (by omega) : 0 ≤ l / n) (show 0 ≤ n by omega)
  omega
theorem unitB_gcd {p a : Int} (h : unitB p a = true) : ((Int.gcd p a : Nat) : Int) = 1 := by
  have : Int.gcd p a = 1 := by simpa [unitB] using h
  omega
theorem unitB_gcd' {p a : Int} (h : unitB p a = false) : (((Int.gcd p a : Nat) : Int) == 1) = false := by
  have : ¬ Int.gcd p a = 1 := by simpa [unitB] using h
  simp; omega

end Go.Proofs.YthomeenmcajmdaaDoor
