/- Which numbers layer 3's laws take for primes: of each of them every number but 0 has an inverse. -/
import Derived.Test.YtijpeepdedfhoaaGreatBun05
import Derived.Test.YtijpeepdedfhoaaGreatBun02
namespace Go.Proofs.YtijpeepdedfhoaaGreat
open Go.RowKit

/-- a power modulo n, by halves -/
def powG (n : Nat) : Nat → Nat → Nat → Nat
  | 0, _, _ => 1 % n
  | f + 1, a, t => if Nat.beq t 0 then 1 % n else if Nat.beq (t % 2) 1 then a * powG n f (a * a % n) (t / 2) % n else powG n f (a * a % n) (t / 2)
theorem npow_mod (a n t : Nat) : (a % n) ^ t % n = a ^ t % n := (Nat.pow_mod a t n).symm
theorem powG_eq (n : Nat) : ∀ (f a t : Nat), t < 2 ^ f → powG n f a t = a ^ t % n
  | 0, a, t, h => by
    have : t = 0 := by simpa using h
    subst this; simp [powG]
  | f + 1, a, t, h => by
    have ih := powG_eq n f (a * a % n) (t / 2) (by rw [Nat.pow_succ] at h; omega)
    have e : (a * a % n) ^ (t / 2) % n = a ^ (2 * (t / 2)) % n := by rw [npow_mod, ← Nat.pow_two, ← Nat.pow_mul]
    rw [powG]
    by_cases h0 : t = 0
    · subst h0; simp
    · rw [show Nat.beq t 0 = false by rw [← Bool.not_eq_true, Nat.beq_eq]; exact h0, if_neg Bool.false_ne_true, ih, e]
      by_cases h1 : t % 2 = 1
      · rw [if_pos (by rw [Nat.beq_eq]; exact h1), Nat.mul_mod, Nat.mod_mod, ← Nat.mul_mod]
        congr 1
        conv => rhs; rw [show t = 2 * (t / 2) + 1 by omega, Nat.pow_succ, Nat.mul_comm]
      · rw [show Nat.beq (t % 2) 1 = false by rw [← Bool.not_eq_true, Nat.beq_eq]; exact h1, if_neg Bool.false_ne_true]
        congr 2; omega
/-- a root, by the parts of n - 1: each divisor of a part is tried -/
theorem root_parts {n r : Nat} (fs : List Nat) (hn : 2 < n) (hb : n < 2 ^ 64) (hf : fs.foldl (· * ·) 1 = n - 1) (h1 : powG n 64 r (n - 1) = 1)
    (h2 : ∀ f ∈ fs, ∀ d, d < f + 1 → d < 2 ∨ f % d ≠ 0 ∨ powG n 64 r ((n - 1) / d) ≠ 1) : Root n r := by
  refine root_of hn (by rw [← powG_eq n 64 r (n - 1) (by omega)]; exact h1) fun q hq hd => ?_
  have key : ∀ (fs : List Nat) (m : Nat), q ∣ fs.foldl (· * ·) m → q ∣ m ∨ ∃ f ∈ fs, q ∣ f := by
    intro fs
    induction fs with
    | nil => intro m h; exact .inl h
    | cons f fs ih =>
      intro m h
      rcases ih (m * f) h with h | ⟨g, hg, h⟩
      · rcases prm_mul hq h with h | h
        · exact .inl h
        · exact .inr ⟨f, by simp, h⟩
      · exact .inr ⟨g, by simp [hg], h⟩
  rw [← hf] at hd
  rcases key fs 1 hd with h | ⟨f, hfm, h⟩
  · have := Nat.dvd_one.1 h
    have := hq.1
    omega
  · by_cases f0 : f = 0
    · exfalso
      subst f0
      have hz : ∀ (fs : List Nat) (m : Nat), (m = 0 ∨ 0 ∈ fs) → fs.foldl (· * ·) m = 0 := by
        intro fs
        induction fs with
        | nil => intro m h; simpa using h
        | cons g gs ih =>
          intro m h
          rw [List.foldl_cons]
          refine ih _ ?_
          rcases h with h | h
          · left; rw [h, Nat.zero_mul]
          · rcases List.mem_cons.1 h with h | h
            · left; rw [← h, Nat.mul_zero]
            · exact .inr h
      have := hz fs 1 (.inr hfm)
      omega
    · have hle := Nat.le_of_dvd (by omega) h
      rcases h2 f hfm q (by omega) with h3 | h3 | h3
      · have := hq.1; omega
      · exact absurd (Nat.mod_eq_zero_of_dvd h) h3
      · rw [powG_eq n 64 r _ (Nat.lt_of_le_of_lt (Nat.div_le_self _ _) (by omega))] at h3
        exact h3
theorem fld_root {n r : Nat} (h : Root n r) : Fld (n : Int) := fun a h0 ha => by
  obtain ⟨b, rfl⟩ := Int.eq_ofNat_of_zero_le (show 0 ≤ a by omega)
  have := h.coprime (x := b) (by omega) (by omega)
  simp only [unitB, decide_eq_true_eq]
  exact this
set_option maxRecDepth 100000 in
theorem root31 : Root 2147483647 7 := root_parts [2, 3, 3, 7, 11, 31, 151, 331] (by decide) (by decide) (by decide +kernel) (by decide +kernel) (by decide +kernel)
set_option maxRecDepth 100000 in
theorem root61 : Root 2305843009213693951 37 := root_parts [2, 3, 3, 5, 5, 7, 11, 13, 31, 41, 61, 151, 331, 1321] (by decide) (by decide) (by decide +kernel) (by decide +kernel) (by decide +kernel)
theorem fld_is {p : Int} (h : IsP p) : Fld p := fun a h0 ha => by
  simp only [unitB, decide_eq_true_eq]
  obtain ⟨n, rfl⟩ := Int.eq_ofNat_of_zero_le (show 0 ≤ p by have := h.1; omega)
  obtain ⟨b, rfl⟩ := Int.eq_ofNat_of_zero_le (show 0 ≤ a by omega)
  show Nat.gcd n b = 1
  apply Classical.byContradiction
  intro hg
  obtain ⟨g, hgd⟩ : ∃ g, Nat.gcd n b = g := ⟨_, rfl⟩
  rw [hgd] at hg
  have d1 : g ∣ n := hgd ▸ Nat.gcd_dvd_left n b
  have d2 : g ∣ b := hgd ▸ Nat.gcd_dvd_right n b
  have hgb := Nat.le_of_dvd (by omega) d2
  have hn2 := h.1
  have hg0 : g ≠ 0 := fun e => by rw [e] at d1; have := Nat.eq_zero_of_zero_dvd d1; omega
  obtain ⟨k, hk⟩ := d1
  have hk2 : 2 ≤ k := by
    rcases Nat.lt_or_ge k 2 with h1 | h1
    · have : k = 0 ∨ k = 1 := by omega
      rcases this with rfl | rfl
      · omega
      · omega
    · exact h1
  rcases Nat.le_total g k with hgk | hgk
  · refine h.2 (g : Int) (by omega) ?_ ?_
    · have := Nat.mul_le_mul_left g hgk
      rw [← hk] at this
      exact_mod_cast this
    · rw [hk]
      exact_mod_cast Nat.mul_mod_right g k
  · refine h.2 (k : Int) (by omega) ?_ ?_
    · have := Nat.mul_le_mul_right k hgk
      rw [← hk] at this
      exact_mod_cast this
    · rw [hk]
      exact_mod_cast Nat.mul_mod_left g k

/-- which numbers they take -/
noncomputable def takenB (p : Int) : Bool := decide (p = 2147483647) || decide (p = 2305843009213693951) || (decide (p < 1048576) && isB p)
theorem taken_fld {p : Int} (h : takenB p = true) : Fld p := by
  unfold takenB at h
  simp only [Bool.or_eq_true, Bool.and_eq_true, decide_eq_true_eq] at h
  rcases h with (h | h) | h
  · rw [h]; exact fld_root root31
  · rw [h]; exact fld_root root61
  · exact fld_is ((isB_iff p).1 h.2)
set_option maxHeartbeats 400000 in
theorem prime_any (p : Int) (w : World) (h0 : 0 ≤ p) :
    Calls Tryz.prog 8 #[.int .u64 p] w fun e w' => e = .returned (.bool (takenB p)) ∧ w = w' := by
  obtain ⟨T, hT⟩ : ∃ T, takenB p = T := ⟨_, rfl⟩
  rw [hT]
  unfold takenB at hT
  by_cases h1 : p = 2147483647
  · rw [decide_eq_true h1, Bool.true_or, Bool.true_or] at hT
    subst hT
    subst h1
    go_enter Tryz.func8, Tryz.ntmps8
    go_wp2_with fail
    go_ret
    exact ⟨rfl, rfl⟩
  · rw [decide_eq_false h1, Bool.false_or] at hT
    by_cases h2 : p = 2305843009213693951
    · rw [decide_eq_true h2, Bool.true_or] at hT
      subst hT
      subst h2
      clear h1
      go_enter Tryz.func8, Tryz.ntmps8
      go_wp2_with fail
      go_ret
      exact ⟨rfl, rfl⟩
    · rw [decide_eq_false h2, Bool.false_or] at hT
      have b1 : (p == 2147483647) = false := by rw [beq_eq_false_iff_ne]; exact h1
      have b2 : (p == 2305843009213693951) = false := by rw [beq_eq_false_iff_ne]; exact h2
      clear h1 h2
      by_cases h3 : p < 1048576
      · rw [decide_eq_true h3, Bool.true_and] at hT
        have c1 := hid (Is_as p T w h0 (by omega) hT)
        clear hT
        go_enter Tryz.func8, Tryz.ntmps8
        go_wp2_with (go_at_call 18; refine c1.out.mono ?_; rintro _ _ ⟨rfl, rfl⟩)
        go_ret
        exact ⟨rfl, rfl⟩
      · rw [decide_eq_false h3, Bool.false_and] at hT
        subst hT
        go_enter Tryz.func8, Tryz.ntmps8
        go_wp2_with fail
        go_ret
        exact ⟨rfl, rfl⟩

end Go.Proofs.YtijpeepdedfhoaaGreat
