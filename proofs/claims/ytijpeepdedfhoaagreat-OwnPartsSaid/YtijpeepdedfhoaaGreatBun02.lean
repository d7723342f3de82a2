/- What the texts Base, Pratt show, in one text. -/
import Derived.WalkKit
import Derived.WalkSpells
import Derived.WalkLawsBesides
import Derived.BigQuiet
import Derived.Deep.QuietTactic
/- The smallest tools: facts kept from a walk, what a call answers, words that wrap. -/
namespace Go.Proofs.YtijpeepdedfhoaaGreat
open Go.RowKit

theorem hid {p : Prop} (h : p) : Hid p := h
theorem ret_int {k : IntKind} {a b : Int} (h : a = b) : Ending.returned (.int k a) = .returned (.int k b) := by rw [h]
theorem ret_bool {a b : Bool} (h : a = b) : Ending.returned (.bool a) = .returned (.bool b) := by rw [h]
theorem ret_int2 {k k' : IntKind} {a b c d : Int} (h : a = b) (h' : c = d) : Ending.returned (.tuple #[.int k a, .int k' c]) = .returned (.tuple #[.int k b, .int k' d]) := by rw [h, h']
theorem u64_wrap (n : Int) : IntKind.u64.wrap n = n % 18446744073709551616 := by
  simp [IntKind.wrap, IntKind.bits, IntKind.signed]
end Go.Proofs.YtijpeepdedfhoaaGreat
/- Numbers: parts of primes, powers, and what shows a prime (in plain Lean; nothing of a program). -/
namespace Go.Proofs.YtijpeepdedfhoaaGreat

/-- a prime -/
def Prm (n : Nat) : Prop := 2 ≤ n ∧ ∀ d, d ∣ n → d = 1 ∨ d = n

theorem prm_part : ∀ (n : Nat), 2 ≤ n → ∃ q, Prm q ∧ q ∣ n := by
  intro n
  induction n using Nat.strongRecOn with
  | _ n ih =>
    intro hn
    by_cases h : ∀ d, d ∣ n → d = 1 ∨ d = n
    · exact ⟨n, ⟨hn, h⟩, Nat.dvd_refl n⟩
    · have : ∃ d, d ∣ n ∧ d ≠ 1 ∧ d ≠ n := Classical.byContradiction fun hc => h fun d hd => by
        by_cases h1 : d = 1
        · exact .inl h1
        · by_cases h2 : d = n
          · exact .inr h2
          · exact absurd ⟨d, hd, h1, h2⟩ hc
      obtain ⟨d, hd, h1, h2⟩ := this
      have hle := Nat.le_of_dvd (by omega) hd
      have h0 : d ≠ 0 := by rintro rfl; have := Nat.eq_zero_of_zero_dvd hd; omega
      obtain ⟨q, hq, hqd⟩ := ih d (by omega) (by omega)
      exact ⟨q, hq, Nat.dvd_trans hqd hd⟩

/-- a list without repeats that lies in another one is no longer -/
theorem nodup_le {α : Type} [DecidableEq α] : ∀ (l L : List α), l.Nodup → (∀ x ∈ l, x ∈ L) → l.length ≤ L.length
  | [], L, _, _ => by simp
  | x :: l, L, hn, hs => by
    have hx := hs x (by simp)
    rw [List.nodup_cons] at hn
    have := nodup_le l (L.erase x) hn.2 (fun y hy => (List.mem_erase_of_ne (by rintro rfl; exact hn.1 hy)).2 (hs y (by simp [hy])))
    rw [List.length_erase_of_mem hx] at this
    have h0 : 0 < L.length := List.length_pos_of_mem hx
    simp only [List.length_cons]
    omega

/-- .. and if it is as long, it has all. -/
theorem nodup_all {α : Type} [DecidableEq α] (l L : List α) (hn : l.Nodup) (hs : ∀ x ∈ l, x ∈ L) (hl : L.length ≤ l.length) : ∀ x ∈ L, x ∈ l := by
  intro x hx
  by_cases h : x ∈ l
  · exact h
  · have := nodup_le l (L.erase x) hn (fun y hy => (List.mem_erase_of_ne (by rintro rfl; exact h hy)).2 (hs y hy))
    rw [List.length_erase_of_mem hx] at this
    have h0 : 0 < L.length := List.length_pos_of_mem hx
    omega

theorem nodup_map_range (f : Nat → Nat) : ∀ (n : Nat), (∀ i j, i < j → j < n → f i ≠ f j) → ((List.range n).map f).Nodup := by
  intro n h
  rw [List.nodup_iff_pairwise_ne, List.pairwise_map]
  refine List.Pairwise.imp_of_mem ?_ (List.pairwise_lt_range (n := n))
  intro a b ha hb hab
  exact h a b hab (List.mem_range.1 hb)

section
variable {n r : Nat}
theorem pmod_mul (a b : Nat) : a % n * (b % n) % n = a * b % n := (Nat.mul_mod a b n).symm
theorem pow_one_mul {a k : Nat} (h : a ^ k % n = 1 % n) (j : Nat) : a ^ (k * j) % n = 1 % n := by
  rw [Nat.pow_mul, Nat.pow_mod, h, ← Nat.pow_mod, Nat.one_pow]
theorem pow_add_one {a k : Nat} (h : a ^ k % n = 1 % n) (j : Nat) : a ^ (k + j) % n = a ^ j % n := by
  rw [Nat.pow_add, ← pmod_mul, h, pmod_mul, Nat.one_mul]

/-- the least power above 0 that is 1 divides all of them -/
theorem least_order {m : Nat} (h0 : 0 < m) (h1 : r ^ m % n = 1 % n) :
    ∃ d, 0 < d ∧ r ^ d % n = 1 % n ∧ (∀ k, 0 < k → r ^ k % n = 1 % n → d ≤ k) ∧ ∀ k, r ^ k % n = 1 % n → d ∣ k := by
  have key : ∀ m, 0 < m → r ^ m % n = 1 % n → ∃ d, 0 < d ∧ r ^ d % n = 1 % n ∧ ∀ k, 0 < k → r ^ k % n = 1 % n → d ≤ k := by
    intro m
    induction m using Nat.strongRecOn with
    | _ m ih =>
      intro h0 h1
      by_cases h : ∀ k, 0 < k → r ^ k % n = 1 % n → m ≤ k
      · exact ⟨m, h0, h1, h⟩
      · have : ∃ k, 0 < k ∧ r ^ k % n = 1 % n ∧ k < m := Classical.byContradiction fun hc => h fun k hk hk1 => by
          rcases Nat.lt_or_ge k m with hlt | hge
          · exact absurd ⟨k, hk, hk1, hlt⟩ hc
          · exact hge
        obtain ⟨k, hk, hk1, hlt⟩ := this
        exact ih k hlt hk hk1
  obtain ⟨d, hd, hd1, hmin⟩ := key m h0 h1
  refine ⟨d, hd, hd1, hmin, fun k hk => ?_⟩
  have e : k = d * (k / d) + k % d := (Nat.div_add_mod k d).symm
  have h2 : r ^ (k % d) % n = 1 % n := by
    have := pow_add_one (pow_one_mul hd1 (k / d)) (k % d)
    rw [← this, ← e, hk]
  rcases Nat.eq_zero_or_pos (k % d) with hz | hp
  · exact Nat.dvd_of_mod_eq_zero hz
  · have := hmin _ hp h2
    have := Nat.mod_lt k hd
    omega

/-- what a root that shows n does: its powers are all the numbers from 1 to n - 1, each once -/
structure Root (n r : Nat) : Prop where
  big : 2 < n
  one : r ^ (n - 1) % n = 1
  inj : ∀ i j, i < j → j < n - 1 → r ^ i % n ≠ r ^ j % n
  pos : ∀ k, 0 < r ^ k % n
  all : ∀ x, 0 < x → x < n → ∃ k, k < n - 1 ∧ r ^ k % n = x

theorem root_of (hn : 2 < n) (h1 : r ^ (n - 1) % n = 1) (h2 : ∀ q, Prm q → q ∣ n - 1 → r ^ ((n - 1) / q) % n ≠ 1) : Root n r := by
  have h1n : 1 % n = 1 := Nat.mod_eq_of_lt (by omega)
  obtain ⟨d, hd, hd1, hmin, hdv⟩ := least_order (n := n) (r := r) (m := n - 1) (by omega) (by rw [h1, h1n])
  have hdn : d = n - 1 := by
    obtain ⟨c, hc⟩ := hdv (n - 1) (by rw [h1, h1n])
    rcases Nat.lt_or_ge c 2 with hlt | hge
    · have : c = 0 ∨ c = 1 := by omega
      rcases this with rfl | rfl
      · omega
      · omega
    · exfalso
      obtain ⟨q, hq, c', hc'⟩ := prm_part c hge
      have hqn : n - 1 = q * (d * c') := by rw [hc, hc', Nat.mul_left_comm]
      have hq0 : 0 < q := by have := hq.1; omega
      refine h2 q hq ⟨_, hqn⟩ ?_
      rw [hqn, Nat.mul_div_cancel_left _ hq0, pow_one_mul hd1, h1n]
  subst hdn
  have hpos : ∀ k, 0 < r ^ k % n := by
    intro k
    rcases Nat.eq_zero_or_pos (r ^ k % n) with hz | hp
    · exfalso
      have : r ^ (k * (n - 1)) % n = 1 % n := by rw [Nat.mul_comm]; exact pow_one_mul (by rw [h1, h1n]) k
      have e : r ^ (k * (n - 1)) % n = 0 := by
        rw [Nat.pow_mul, Nat.pow_mod, hz, Nat.zero_pow (by omega), Nat.zero_mod]
      omega
    · exact hp
  have hinj : ∀ i j, i < j → j < n - 1 → r ^ i % n ≠ r ^ j % n := by
    intro i j hij hj he
    have e1 : r ^ (n - 1 - i + i) % n = r ^ (n - 1 - i + j) % n := by
      rw [Nat.pow_add, Nat.pow_add, ← pmod_mul, ← pmod_mul (r ^ (n - 1 - i)) (r ^ j), he]
    rw [show n - 1 - i + i = n - 1 by omega, show n - 1 - i + j = n - 1 + (j - i) by omega, pow_add_one (by rw [h1, h1n]), h1] at e1
    have := hmin (j - i) (by omega) (by rw [← e1, h1n])
    omega
  refine ⟨hn, h1, hinj, hpos, fun x hx0 hxn => ?_⟩
  have hall := nodup_all ((List.range (n - 1)).map fun k => r ^ k % n) (List.range' 1 (n - 1)) (nodup_map_range _ _ hinj)
    (fun y hy => by
      obtain ⟨k, _, rfl⟩ := List.mem_map.1 hy
      have := Nat.mod_lt (r ^ k) (show 0 < n by omega)
      have := hpos k
      rw [List.mem_range'_1]; omega) (by simp) x (by rw [List.mem_range'_1]; omega)
  obtain ⟨k, hk, he⟩ := List.mem_map.1 hall
  exact ⟨k, List.mem_range.1 hk, he⟩

theorem Root.fermat (h : Root n r) {x : Nat} (h0 : 0 < x) (hx : x < n) : x ^ (n - 1) % n = 1 := by
  obtain ⟨k, hk, rfl⟩ := h.all x h0 hx
  have h1n : 1 % n = 1 := Nat.mod_eq_of_lt (by omega)
  rw [← Nat.pow_mod, ← Nat.pow_mul, Nat.mul_comm, pow_one_mul (by rw [h.one, h1n]), h1n]

theorem Root.prm (h : Root n r) : Prm n := by
  have hb := h.big
  refine ⟨by omega, fun d hd => ?_⟩
  have hle := Nat.le_of_dvd (by omega) hd
  have h0 : d ≠ 0 := by rintro rfl; have := Nat.eq_zero_of_zero_dvd hd; omega
  by_cases e : d = n
  · exact .inr e
  · left
    have hf := h.fermat (x := d) (by omega) (by omega)
    have h1 : d ∣ d ^ (n - 1) := Nat.dvd_trans (Nat.dvd_refl d) (by rw [show n - 1 = (n - 2) + 1 by omega, Nat.pow_succ]; exact Nat.dvd_mul_left _ _)
    have h2 : d ∣ d ^ (n - 1) % n := (Nat.dvd_mod_iff hd).2 h1
    rw [hf] at h2
    exact Nat.dvd_one.1 h2

theorem Root.coprime (h : Root n r) {x : Nat} (h0 : 0 < x) (hx : x < n) : Nat.gcd n x = 1 := by
  rcases h.prm.2 _ (Nat.gcd_dvd_left n x) with e | e
  · exact e
  · have := Nat.le_of_dvd h0 (Nat.gcd_dvd_right n x)
    omega
end

/-- what a product of primes divides by -/
theorem prm_mul {q a b : Nat} (h : Prm q) (hd : q ∣ a * b) : q ∣ a ∨ q ∣ b := by
  rcases h.2 _ (Nat.gcd_dvd_left q a) with e | e
  · exact .inr (Nat.Coprime.dvd_of_dvd_mul_left (show Nat.Coprime q a from e) hd)
  · left; rw [← e]; exact Nat.gcd_dvd_right q a
theorem prm_pow {q a : Nat} (h : Prm q) : ∀ k, q ∣ a ^ k → q ∣ a
  | 0, hd => by have := Nat.dvd_one.1 (by simpa using hd); have := h.1; omega
  | k + 1, hd => by
    rw [Nat.pow_succ] at hd
    rcases prm_mul h hd with h1 | h1
    · exact prm_pow h k h1
    · exact h1
theorem prm_eq {p q : Nat} (hp : Prm p) (hq : Prm q) (h : q ∣ p) : q = p := by
  rcases hp.2 _ h with e | e
  · have := hq.1; omega
  · exact e
end Go.Proofs.YtijpeepdedfhoaaGreat
