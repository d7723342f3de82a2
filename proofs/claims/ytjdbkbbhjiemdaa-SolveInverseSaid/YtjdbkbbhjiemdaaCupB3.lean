/- What the texts Is, Pratt, FldP show, in one text. -/
import Derived.Test.YtjdbkbbhjiemdaaField
import Derived.Test.YtjdbkbbhjiemdaaBase
import Derived.Test.YtjdbkbbhjiemdaaFld
/- Whether a number is prime, as the document's own answer tells it: by trial. -/
namespace Go.Proofs.Ytjdbkbbhjiemdaa
open Go.RowKit

/-- no number from 2 on, whose square is no more, divides n -/
def IsP (n : Int) : Prop := 2 ≤ n ∧ ∀ d : Int, 2 ≤ d → d * d ≤ n → n % d ≠ 0

open Classical in
noncomputable def isB (n : Int) : Bool := decide (IsP n)
theorem isB_iff (n : Int) : isB n = true ↔ IsP n := by simp [isB]
theorem isB_no {n : Int} (h : ¬ IsP n) : isB n = false := by simp [isB, h]

set_option maxHeartbeats 1000000 in
theorem Is_any (n : Int) (w : World) (h0 : 0 ≤ n) (h1 : n < 4294967296) :
    Calls Try.prog 37 #[.int .u64 n] w fun e w' => e = .returned (.bool (isB n)) ∧ w = w' := by
  by_cases h2 : n < 2
  · go_enter Try.func37, Try.ntmps37
    go_wp2_with fail
    go_ret
    exact ⟨ret_bool (isB_no (by simp [IsP]; omega)).symm, rfl⟩
  · go_enter Try.func37, Try.ntmps37
    go_wp2_with fail
    go_loop [3] (fun q => ∃ d : Int, q = .int .u64 d ∧ 2 ≤ d ∧ d ≤ 65536 ∧ ∀ c, 2 ≤ c → c < d → n % c ≠ 0) (fun q => (65537 - intOf q).toNat)
    case atStart => exact ⟨2, rfl, by omega, by omega, fun c h1 h2 => by omega⟩
    case round =>
      obtain ⟨d, rfl, hd, hd2, hall⟩ := hrel
      have Ha := hid hall; clear hall
      have hs0 : 0 ≤ d * d := Int.mul_nonneg (by omega) (by omega)
      have hs1 : d * d ≤ 4294967296 := by
        have := Int.mul_le_mul hd2 hd2 (by omega) (by omega)
        simpa using this
      by_cases hle : d * d ≤ n
      · have bb : decide (d * d ≤ n) = true := by simpa using hle
        have hd3 : d < 65536 := by
          apply Classical.byContradiction
          intro h
          have : d = 65536 := by omega
          subst this
          omega
        by_cases hz : n % d = 0
        · have bz : (n % d == 0) = true := by simpa using hz
          have HZ := hid hz; have HL := hid hle
          clear hz hle
          go_wp2_with fail
          go_ret
          exact ⟨ret_bool (isB_no fun h => h.2 d hd HL.out HZ.out).symm, rfl⟩
        · have bz : (n % d == 0) = false := by simpa using hz
          have HZ := hid hz
          clear hz hle
          go_wp2_with fail
          go_round
          case rel => exact ⟨d + 1, rfl, by omega, by omega, fun c h3 h4 => by
            by_cases e : c = d
            · rw [e]; exact HZ.out
            · exact Ha.out c h3 (by omega)⟩
          case measure => simp [intOf]; omega
      · have bb : decide (d * d ≤ n) = false := by simpa using hle
        have HL := hid hle
        clear hle
        go_wp2_with fail
        go_ret
        refine ⟨ret_bool ((isB_iff n).2 ⟨by omega, fun c h3 h4 => ?_⟩).symm, rfl⟩
        rcases Int.lt_or_le c d with h5 | h5
        · exact Ha.out c h3 h5
        · have := Int.mul_le_mul h5 h5 (by omega) (by omega)
          have := HL.out; omega

theorem Is_as (n : Int) (b : Bool) (w : World) (h0 : 0 ≤ n) (h1 : n < 4294967296) (h : isB n = b) :
    Calls Try.prog 37 #[.int .u64 n] w fun e w' => e = .returned (.bool b) ∧ w = w' := h ▸ Is_any n w h0 h1
end Go.Proofs.Ytjdbkbbhjiemdaa
/- Numbers: parts of primes, powers, and what shows a prime (in plain Lean; nothing of a program). -/
namespace Go.Proofs.Ytjdbkbbhjiemdaa

/-- a prime -/
def Prm (n : Nat) : Prop := 2 ≤ n ∧ ∀ d, d ∣ n → d = 1 ∨ d = n

theorem prm_part : ∀ (n : Nat), 2 ≤ n → ∃ q, Prm q ∧ q ∣ n := by
  intro n
  induction n using Nat.strongRecOn with
  | _ n ih =>
    intro hn
    by_cases h : ∀ d, d ∣ n → d = 1 ∨ d = n
    · exact ⟨n, ⟨hn, h⟩, Nat.dvd_refl n⟩
    · have : ∃ d, d ∣ n ∧ d ≠ 1 ∧ d ≠ n := Classical.byContradiction fun hc => h fun d hd => by
        by_cases h1 : d = 1
        · exact .inl h1
        · by_cases h2 : d = n
          · exact .inr h2
          · exact absurd ⟨d, hd, h1, h2⟩ hc
      obtain ⟨d, hd, h1, h2⟩ := this
      have hle := Nat.le_of_dvd (by omega) hd
      have h0 : d ≠ 0 := by rintro rfl; have := Nat.eq_zero_of_zero_dvd hd; omega
      obtain ⟨q, hq, hqd⟩ := ih d (by omega) (by omega)
      exact ⟨q, hq, Nat.dvd_trans hqd hd⟩

/-- a list without repeats that lies in another one is no longer -/
theorem nodup_le {α : Type} [DecidableEq α] : ∀ (l L : List α), l.Nodup → (∀ x ∈ l, x ∈ L) → l.length ≤ L.length
  | [], L, _, _ => by simp
  | x :: l, L, hn, hs => by
    have hx := hs x (by simp)
    rw [List.nodup_cons] at hn
    have := nodup_le l (L.erase x) hn.2 (fun y hy => (List.mem_erase_of_ne (by rintro rfl; exact hn.1 hy)).2 (hs y (by simp [hy])))
    rw [List.length_erase_of_mem hx] at this
    have h0 : 0 < L.length := List.length_pos_of_mem hx
    simp only [List.length_cons]
    omega

/-- .. and if it is as long, it has all. -/
theorem nodup_all {α : Type} [DecidableEq α] (l L : List α) (hn : l.Nodup) (hs : ∀ x ∈ l, x ∈ L) (hl : L.length ≤ l.length) : ∀ x ∈ L, x ∈ l := by
  intro x hx
  by_cases h : x ∈ l
  · exact h
  · have := nodup_le l (L.erase x) hn (fun y hy => (List.mem_erase_of_ne (by rintro rfl; exact h hy)).2 (hs y hy))
    rw [List.length_erase_of_mem hx] at this
    have h0 : 0 < L.length := List.length_pos_of_mem hx
    omega

theorem nodup_map_range (f : Nat → Nat) : ∀ (n : Nat), (∀ i j, i < j → j < n → f i ≠ f j) → ((List.range n).map f).Nodup := by
  intro n h
  rw [List.nodup_iff_pairwise_ne, List.pairwise_map]
  refine List.Pairwise.imp_of_mem ?_ (List.pairwise_lt_range (n := n))
  intro a b ha hb hab
  exact h a b hab (List.mem_range.1 hb)

section
variable {n r : Nat}
theorem pmod_mul (a b : Nat) : a % n * (b % n) % n = a * b % n := (Nat.mul_mod a b n).symm
theorem pow_one_mul {a k : Nat} (h : a ^ k % n = 1 % n) (j : Nat) : a ^ (k * j) % n = 1 % n := by
  rw [Nat.pow_mul, Nat.pow_mod, h, ← Nat.pow_mod, Nat.one_pow]
theorem pow_add_one {a k : Nat} (h : a ^ k % n = 1 % n) (j : Nat) : a ^ (k + j) % n = a ^ j % n := by
  rw [Nat.pow_add, ← pmod_mul, h, pmod_mul, Nat.one_mul]

/-- the least power above 0 that is 1 divides all of them -/
theorem least_order {m : Nat} (h0 : 0 < m) (h1 : r ^ m % n = 1 % n) :
    ∃ d, 0 < d ∧ r ^ d % n = 1 % n ∧ (∀ k, 0 < k → r ^ k % n = 1 % n → d ≤ k) ∧ ∀ k, r ^ k % n = 1 % n → d ∣ k := by
  have key : ∀ m, 0 < m → r ^ m % n = 1 % n → ∃ d, 0 < d ∧ r ^ d % n = 1 % n ∧ ∀ k, 0 < k → r ^ k % n = 1 % n → d ≤ k := by
    intro m
    induction m using Nat.strongRecOn with
    | _ m ih =>
      intro h0 h1
      by_cases h : ∀ k, 0 < k → r ^ k % n = 1 % n → m ≤ k
      · exact ⟨m, h0, h1, h⟩
      · have : ∃ k, 0 < k ∧ r ^ k % n = 1 % n ∧ k < m := Classical.byContradiction fun hc => h fun k hk hk1 => by
          rcases Nat.lt_or_ge k m with hlt | hge
          · exact absurd ⟨k, hk, hk1, hlt⟩ hc
          · exact hge
        obtain ⟨k, hk, hk1, hlt⟩ := this
        exact ih k hlt hk hk1
  obtain ⟨d, hd, hd1, hmin⟩ := key m h0 h1
  refine ⟨d, hd, hd1, hmin, fun k hk => ?_⟩
  have e : k = d * (k / d) + k % d := (Nat.div_add_mod k d).symm
  have h2 : r ^ (k % d) % n = 1 % n := by
    have := pow_add_one (pow_one_mul hd1 (k / d)) (k % d)
    rw [← this, ← e, hk]
  rcases Nat.eq_zero_or_pos (k % d) with hz | hp
  · exact Nat.dvd_of_mod_eq_zero hz
  · have := hmin _ hp h2
    have := Nat.mod_lt k hd
    omega

/-- what a root that shows n does: its powers are all the numbers from 1 to n - 1, each once -/
structure Root (n r : Nat) : Prop where
  big : 2 < n
  one : r ^ (n - 1) % n = 1
  inj : ∀ i j, i < j → j < n - 1 → r ^ i % n ≠ r ^ j % n
  pos : ∀ k, 0 < r ^ k % n
  all : ∀ x, 0 < x → x < n → ∃ k, k < n - 1 ∧ r ^ k % n = x

theorem root_of (hn : 2 < n) (h1 : r ^ (n - 1) % n = 1) (h2 : ∀ q, Prm q → q ∣ n - 1 → r ^ ((n - 1) / q) % n ≠ 1) : Root n r := by
  have h1n : 1 % n = 1 := Nat.mod_eq_of_lt (by omega)
  obtain ⟨d, hd, hd1, hmin, hdv⟩ := least_order (n := n) (r := r) (m := n - 1) (by omega) (by rw [h1, h1n])
  have hdn : d = n - 1 := by
    obtain ⟨c, hc⟩ := hdv (n - 1) (by rw [h1, h1n])
    rcases Nat.lt_or_ge c 2 with hlt | hge
    · have : c = 0 ∨ c = 1 := by omega
      rcases this with rfl | rfl
      · omega
      · omega
    · exfalso
      obtain ⟨q, hq, c', hc'⟩ := prm_part c hge
      have hqn : n - 1 = q * (d * c') := by rw [hc, hc', Nat.mul_left_comm]
      have hq0 : 0 < q := by have := hq.1; omega
      refine h2 q hq ⟨_, hqn⟩ ?_
      rw [hqn, Nat.mul_div_cancel_left _ hq0, pow_one_mul hd1, h1n]
  subst hdn
  have hpos : ∀ k, 0 < r ^ k % n := by
    intro k
    rcases Nat.eq_zero_or_pos (r ^ k % n) with hz | hp
    · exfalso
      have : r ^ (k * (n - 1)) % n = 1 % n := by rw [Nat.mul_comm]; exact pow_one_mul (by rw [h1, h1n]) k
      have e : r ^ (k * (n - 1)) % n = 0 := by
        rw [Nat.pow_mul, Nat.pow_mod, hz, Nat.zero_pow (by omega), Nat.zero_mod]
      omega
    · exact hp
  have hinj : ∀ i j, i < j → j < n - 1 → r ^ i % n ≠ r ^ j % n := by
    intro i j hij hj he
    have e1 : r ^ (n - 1 - i + i) % n = r ^ (n - 1 - i + j) % n := by
      rw [Nat.pow_add, Nat.pow_add, ← pmod_mul, ← pmod_mul (r ^ (n - 1 - i)) (r ^ j), he]
    rw [show n - 1 - i + i = n - 1 by omega, show n - 1 - i + j = n - 1 + (j - i) by omega, pow_add_one (by rw [h1, h1n]), h1] at e1
    have := hmin (j - i) (by omega) (by rw [← e1, h1n])
    omega
  refine ⟨hn, h1, hinj, hpos, fun x hx0 hxn => ?_⟩
  have hall := nodup_all ((List.range (n - 1)).map fun k => r ^ k % n) (List.range' 1 (n - 1)) (nodup_map_range _ _ hinj)
    (fun y hy => by
      obtain ⟨k, _, rfl⟩ := List.mem_map.1 hy
      have := Nat.mod_lt (r ^ k) (show 0 < n by omega)
      have := hpos k
      rw [List.mem_range'_1]; omega) (by simp) x (by rw [List.mem_range'_1]; omega)
  obtain ⟨k, hk, he⟩ := List.mem_map.1 hall
  exact ⟨k, List.mem_range.1 hk, he⟩

theorem Root.fermat (h : Root n r) {x : Nat} (h0 : 0 < x) (hx : x < n) : x ^ (n - 1) % n = 1 := by
  obtain ⟨k, hk, rfl⟩ := h.all x h0 hx
  have h1n : 1 % n = 1 := Nat.mod_eq_of_lt (by omega)
  rw [← Nat.pow_mod, ← Nat.pow_mul, Nat.mul_comm, pow_one_mul (by rw [h.one, h1n]), h1n]

theorem Root.prm (h : Root n r) : Prm n := by
  have hb := h.big
  refine ⟨by omega, fun d hd => ?_⟩
  have hle := Nat.le_of_dvd (by omega) hd
  have h0 : d ≠ 0 := by rintro rfl; have := Nat.eq_zero_of_zero_dvd hd; omega
  by_cases e : d = n
  · exact .inr e
  · left
    have hf := h.fermat (x := d) (by omega) (by omega)
    have h1 : d ∣ d ^ (n - 1) := Nat.dvd_trans (Nat.dvd_refl d) (by rw [show n - 1 = (n - 2) + 1 by omega, Nat.pow_succ]; exact Nat.dvd_mul_left _ _)
    have h2 : d ∣ d ^ (n - 1) % n := (Nat.dvd_mod_iff hd).2 h1
    rw [hf] at h2
    exact Nat.dvd_one.1 h2

theorem Root.coprime (h : Root n r) {x : Nat} (h0 : 0 < x) (hx : x < n) : Nat.gcd n x = 1 := by
  rcases h.prm.2 _ (Nat.gcd_dvd_left n x) with e | e
  · exact e
  · have := Nat.le_of_dvd h0 (Nat.gcd_dvd_right n x)
    omega
end

/-- what a product of primes divides by -/
theorem prm_mul {q a b : Nat} (h : Prm q) (hd : q ∣ a * b) : q ∣ a ∨ q ∣ b := by
  rcases h.2 _ (Nat.gcd_dvd_left q a) with e | e
  · exact .inr (Nat.Coprime.dvd_of_dvd_mul_left (show Nat.Coprime q a from e) hd)
  · left; rw [← e]; exact Nat.gcd_dvd_right q a
theorem prm_pow {q a : Nat} (h : Prm q) : ∀ k, q ∣ a ^ k → q ∣ a
  | 0, hd => by have := Nat.dvd_one.1 (by simpa using hd); have := h.1; omega
  | k + 1, hd => by
    rw [Nat.pow_succ] at hd
    rcases prm_mul h hd with h1 | h1
    · exact prm_pow h k h1
    · exact h1
theorem prm_eq {p q : Nat} (hp : Prm p) (hq : Prm q) (h : q ∣ p) : q = p := by
  rcases hp.2 _ h with e | e
  · have := hq.1; omega
  · exact e
end Go.Proofs.Ytjdbkbbhjiemdaa
/- Which numbers layer 3's laws take for primes: of each of them every number but 0 has an inverse. -/
namespace Go.Proofs.Ytjdbkbbhjiemdaa
open Go.RowKit

/-- a power modulo n, by halves -/
def powG (n : Nat) : Nat → Nat → Nat → Nat
  | 0, _, _ => 1 % n
  | f + 1, a, t => if Nat.beq t 0 then 1 % n else if Nat.beq (t % 2) 1 then a * powG n f (a * a % n) (t / 2) % n else powG n f (a * a % n) (t / 2)
theorem npow_mod (a n t : Nat) : (a % n) ^ t % n = a ^ t % n := (Nat.pow_mod a t n).symm
theorem powG_eq (n : Nat) : ∀ (f a t : Nat), t < 2 ^ f → powG n f a t = a ^ t % n
  | 0, a, t, h => by
    have : t = 0 := by simpa using h
    subst this; simp [powG]
  | f + 1, a, t, h => by
    have ih := powG_eq n f (a * a % n) (t / 2) (by rw [Nat.pow_succ] at h; omega)
    have e : (a * a % n) ^ (t / 2) % n = a ^ (2 * (t / 2)) % n := by rw [npow_mod, ← Nat.pow_two, ← Nat.pow_mul]
    rw [powG]
    by_cases h0 : t = 0
    · subst h0; simp
    · rw [show Nat.beq t 0 = false by rw [← Bool.not_eq_true, Nat.beq_eq]; exact h0, if_neg Bool.false_ne_true, ih, e]
      by_cases h1 : t % 2 = 1
      · rw [if_pos (by rw [Nat.beq_eq]; exact h1), Nat.mul_mod, Nat.mod_mod, ← Nat.mul_mod]
        congr 1
        conv => rhs; rw [show t = 2 * (t / 2) + 1 by omega, Nat.pow_succ, Nat.mul_comm]
      · rw [show Nat.beq (t % 2) 1 = false by rw [← Bool.not_eq_true, Nat.beq_eq]; exact h1, if_neg Bool.false_ne_true]
        congr 2; omega
/-- a root, by the parts of n - 1: each divisor of a part is tried -/
theorem root_parts {n r : Nat} (fs : List Nat) (hn : 2 < n) (hb : n < 2 ^ 64) (hf : fs.foldl (· * ·) 1 = n - 1) (h1 : powG n 64 r (n - 1) = 1)
    (h2 : ∀ f ∈ fs, ∀ d, d < f + 1 → d < 2 ∨ f % d ≠ 0 ∨ powG n 64 r ((n - 1) / d) ≠ 1) : Root n r := by
  refine root_of hn (by rw [← powG_eq n 64 r (n - 1) (by omega)]; exact h1) fun q hq hd => ?_
  have key : ∀ (fs : List Nat) (m : Nat), q ∣ fs.foldl (· * ·) m → q ∣ m ∨ ∃ f ∈ fs, q ∣ f := by
    intro fs
    induction fs with
    | nil => intro m h; exact .inl h
    | cons f fs ih =>
      intro m h
      rcases ih (m * f) h with h | ⟨g, hg, h⟩
      · rcases prm_mul hq h with h | h
        · exact .inl h
        · exact .inr ⟨f, by simp, h⟩
      · exact .inr ⟨g, by simp [hg], h⟩
  rw [← hf] at hd
  rcases key fs 1 hd with h | ⟨f, hfm, h⟩
  · have := Nat.dvd_one.1 h
    have := hq.1
    omega
  · by_cases f0 : f = 0
    · exfalso
      subst f0
      have hz : ∀ (fs : List Nat) (m : Nat), (m = 0 ∨ 0 ∈ fs) → fs.foldl (· * ·) m = 0 := by
        intro fs
        induction fs with
        | nil => intro m h; simpa using h
        | cons g gs ih =>
          intro m h
          rw [List.foldl_cons]
          refine ih _ ?_
          rcases h with h | h
          · left; rw [h, Nat.zero_mul]
          · rcases List.mem_cons.1 h with h | h
            · left; rw [← h, Nat.mul_zero]
            · exact .inr h
      have := hz fs 1 (.inr hfm)
      omega
    · have hle := Nat.le_of_dvd (by omega) h
      rcases h2 f hfm q (by omega) with h3 | h3 | h3
      · have := hq.1; omega
      · exact absurd (Nat.mod_eq_zero_of_dvd h) h3
      · rw [powG_eq n 64 r _ (Nat.lt_of_le_of_lt (Nat.div_le_self _ _) (by omega))] at h3
        exact h3
theorem fld_root {n r : Nat} (h : Root n r) : Fld (n : Int) := fun a h0 ha => by
  obtain ⟨b, rfl⟩ := Int.eq_ofNat_of_zero_le (show 0 ≤ a by omega)
  have := h.coprime (x := b) (by omega) (by omega)
  simp only [unitB, decide_eq_true_eq]
  exact this
set_option maxRecDepth 100000 in
theorem root31 : Root 2147483647 7 := root_parts [2, 3, 3, 7, 11, 31, 151, 331] (by decide) (by decide) (by decide +kernel) (by decide +kernel) (by decide +kernel)
set_option maxRecDepth 100000 in
theorem root61 : Root 2305843009213693951 37 := root_parts [2, 3, 3, 5, 5, 7, 11, 13, 31, 41, 61, 151, 331, 1321] (by decide) (by decide) (by decide +kernel) (by decide +kernel) (by decide +kernel)
theorem fld_is {p : Int} (h : IsP p) : Fld p := fun a h0 ha => by
  simp only [unitB, decide_eq_true_eq]
  obtain ⟨n, rfl⟩ := Int.eq_ofNat_of_zero_le (show 0 ≤ p by have := h.1; omega)
  obtain ⟨b, rfl⟩ := Int.eq_ofNat_of_zero_le (show 0 ≤ a by omega)
  show Nat.gcd n b = 1
  apply Classical.byContradiction
  intro hg
  obtain ⟨g, hgd⟩ : ∃ g, Nat.gcd n b = g := ⟨_, rfl⟩
  rw [hgd] at hg
  have d1 : g ∣ n := hgd ▸ Nat.gcd_dvd_left n b
  have d2 : g ∣ b := hgd ▸ Nat.gcd_dvd_right n b
  have hgb := Nat.le_of_dvd (by omega) d2
  have hn2 := h.1
  have hg0 : g ≠ 0 := fun e => by rw [e] at d1; have := Nat.eq_zero_of_zero_dvd d1; omega
  obtain ⟨k, hk⟩ := d1
  have hk2 : 2 ≤ k := by
    rcases Nat.lt_or_ge k 2 with h1 | h1
    · have : k = 0 ∨ k = 1 := by omega
      rcases this with rfl | rfl
      · omega
      · omega
    · exact h1
  rcases Nat.le_total g k with hgk | hgk
  · refine h.2 (g : Int) (by omega) ?_ ?_
    · have := Nat.mul_le_mul_left g hgk
      rw [← hk] at this
      exact_mod_cast this
    · rw [hk]
      exact_mod_cast Nat.mul_mod_right g k
  · refine h.2 (k : Int) (by omega) ?_ ?_
    · have := Nat.mul_le_mul_right k hgk
      rw [← hk] at this
      exact_mod_cast this
    · rw [hk]
      exact_mod_cast Nat.mul_mod_left g k

/-- which numbers they take -/
noncomputable def takenB (p : Int) : Bool := decide (p = 2147483647) || decide (p = 2305843009213693951) || (decide (p < 1048576) && isB p)
theorem taken_fld {p : Int} (h : takenB p = true) : Fld p := by
  unfold takenB at h
  simp only [Bool.or_eq_true, Bool.and_eq_true, decide_eq_true_eq] at h
  rcases h with (h | h) | h
  · rw [h]; exact fld_root root31
  · rw [h]; exact fld_root root61
  · exact fld_is ((isB_iff p).1 h.2)
set_option maxHeartbeats 400000 in
theorem prime_any (p : Int) (w : World) (h0 : 0 ≤ p) :
    Calls Try.prog 9 #[.int .u64 p] w fun e w' => e = .returned (.bool (takenB p)) ∧ w = w' := by
  obtain ⟨T, hT⟩ : ∃ T, takenB p = T := ⟨_, rfl⟩
  rw [hT]
  unfold takenB at hT
  by_cases h1 : p = 2147483647
  · rw [decide_eq_true h1, Bool.true_or, Bool.true_or] at hT
    subst hT
    subst h1
    go_enter Try.func9, Try.ntmps9
    go_wp2_with fail
    go_ret
    exact ⟨rfl, rfl⟩
  · rw [decide_eq_false h1, Bool.false_or] at hT
    by_cases h2 : p = 2305843009213693951
    · rw [decide_eq_true h2, Bool.true_or] at hT
      subst hT
      subst h2
      clear h1
      go_enter Try.func9, Try.ntmps9
      go_wp2_with fail
      go_ret
      exact ⟨rfl, rfl⟩
    · rw [decide_eq_false h2, Bool.false_or] at hT
      have b1 : (p == 2147483647) = false := by rw [beq_eq_false_iff_ne]; exact h1
      have b2 : (p == 2305843009213693951) = false := by rw [beq_eq_false_iff_ne]; exact h2
      clear h1 h2
      by_cases h3 : p < 1048576
      · rw [decide_eq_true h3, Bool.true_and] at hT
        have c1 := hid (Is_as p T w h0 (by omega) hT)
        clear hT
        go_enter Try.func9, Try.ntmps9
        go_wp2_with (go_at_call 37; refine c1.out.mono ?_; rintro _ _ ⟨rfl, rfl⟩)
        go_ret
        exact ⟨rfl, rfl⟩
      · rw [decide_eq_false h3, Bool.false_and] at hT
        subst hT
        go_enter Try.func9, Try.ntmps9
        go_wp2_with fail
        go_ret
        exact ⟨rfl, rfl⟩

end Go.Proofs.Ytjdbkbbhjiemdaa
