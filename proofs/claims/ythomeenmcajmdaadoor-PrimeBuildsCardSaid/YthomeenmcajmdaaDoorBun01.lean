/- What the texts Base, Pratt, Poly0, Cyclic show, in one text. -/
import Derived.WalkKit
import Derived.WalkSpells
import Derived.WalkLawsBesides
import Derived.BigQuiet
import Derived.Deep.QuietTactic
/- The smallest tools: facts kept from a walk, what a call answers, words that wrap. -/
namespace Go.Proofs.YthomeenmcajmdaaDoor
open Go.RowKit

theorem hid {p : Prop} (h : p) : Hid p := h
theorem ret_int {k : IntKind} {a b : Int} (h : a = b) : Ending.returned (.int k a) = .returned (.int k b) := by rw [h]
theorem ret_bool {a b : Bool} (h : a = b) : Ending.returned (.bool a) = .returned (.bool b) := by rw [h]
theorem ret_int2 {k k' : IntKind} {a b c d : Int} (h : a = b) (h' : c = d) : Ending.returned (.tuple #[.int k a, .int k' c]) = .returned (.tuple #[.int k b, .int k' d]) := by rw [h, h']
theorem u64_wrap (n : Int) : IntKind.u64.wrap n = n % 18446744073709551616 := by
  simp [IntKind.wrap, IntKind.bits, IntKind.signed]
end Go.Proofs.YthomeenmcajmdaaDoor
/- Numbers: parts of primes, powers, and what shows a prime (in plain Lean; nothing of a program). -/
namespace Go.Proofs.YthomeenmcajmdaaDoor

/-- a prime -/
def Prm (n : Nat) : Prop := 2 ≤ n ∧ ∀ d, d ∣ n → d = 1 ∨ d = n

theorem prm_part : ∀ (n : Nat), 2 ≤ n → ∃ q, Prm q ∧ q ∣ n := by
  intro n
  induction n using Nat.strongRecOn with
  | _ n ih =>
    intro hn
    by_cases h : ∀ d, d ∣ n → d = 1 ∨ d = n
    · exact ⟨n, ⟨hn, h⟩, Nat.dvd_refl n⟩
    · have : ∃ d, d ∣ n ∧ d ≠ 1 ∧ d ≠ n := Classical.byContradiction fun hc => h fun d hd => by
        by_cases h1 : d = 1
        · exact .inl h1
        · by_cases h2 : d = n
          · exact .inr h2
          · exact absurd ⟨d, hd, h1, h2⟩ hc
      obtain ⟨d, hd, h1, h2⟩ := this
      have hle := Nat.le_of_dvd (by omega) hd
      have h0 : d ≠ 0 := by rintro rfl; have := Nat.eq_zero_of_zero_dvd hd; omega
      obtain ⟨q, hq, hqd⟩ := ih d (by omega) (by omega)
      exact ⟨q, hq, Nat.dvd_trans hqd hd⟩

/-- a list without repeats that lies in another one is no longer -/
theorem nodup_le {α : Type} [DecidableEq α] : ∀ (l L : List α), l.Nodup → (∀ x ∈ l, x ∈ L) → l.length ≤ L.length
  | [], L, _, _ => by simp
  | x :: l, L, hn, hs => by
    have hx := hs x (by simp)
    rw [List.nodup_cons] at hn
    have := nodup_le l (L.erase x) hn.2 (fun y hy => (List.mem_erase_of_ne (by rintro rfl; exact hn.1 hy)).2 (hs y (by simp [hy])))
    rw [List.length_erase_of_mem hx] at this
    have h0 : 0 < L.length := List.length_pos_of_mem hx
    simp only [List.length_cons]
    omega

/-- .. and if it is as long, it has all. -/
theorem nodup_all {α : Type} [DecidableEq α] (l L : List α) (hn : l.Nodup) (hs : ∀ x ∈ l, x ∈ L) (hl : L.length ≤ l.length) : ∀ x ∈ L, x ∈ l := by
  intro x hx
  by_cases h : x ∈ l
  · exact h
  · have := nodup_le l (L.erase x) hn (fun y hy => (List.mem_erase_of_ne (by rintro rfl; exact h hy)).2 (hs y hy))
    rw [List.length_erase_of_mem hx] at this
    have h0 : 0 < L.length := List.length_pos_of_mem hx
    omega

theorem nodup_map_range (f : Nat → Nat) : ∀ (n : Nat), (∀ i j, i < j → j < n → f i ≠ f j) → ((List.range n).map f).Nodup := by
  intro n h
  rw [List.nodup_iff_pairwise_ne, List.pairwise_map]
  refine List.Pairwise.imp_of_mem ?_ (List.pairwise_lt_range (n := n))
  intro a b ha hb hab
  exact h a b hab (List.mem_range.1 hb)

section
variable {n r : Nat}
theorem pmod_mul (a b : Nat) : a % n * (b % n) % n = a * b % n := (Nat.mul_mod a b n).symm
theorem pow_one_mul {a k : Nat} (h : a ^ k % n = 1 % n) (j : Nat) : a ^ (k * j) % n = 1 % n := by
  rw [Nat.pow_mul, Nat.pow_mod, h, ← Nat.pow_mod, Nat.one_pow]
theorem pow_add_one {a k : Nat} (h : a ^ k % n = 1 % n) (j : Nat) : a ^ (k + j) % n = a ^ j % n := by
  rw [Nat.pow_add, ← pmod_mul, h, pmod_mul, Nat.one_mul]

/-- the least power above 0 that is 1 divides all of them -/
theorem least_order {m : Nat} (h0 : 0 < m) (h1 : r ^ m % n = 1 % n) :
    ∃ d, 0 < d ∧ r ^ d % n = 1 % n ∧ (∀ k, 0 < k → r ^ k % n = 1 % n → d ≤ k) ∧ ∀ k, r ^ k % n = 1 % n → d ∣ k := by
  have key : ∀ m, 0 < m → r ^ m % n = 1 % n → ∃ d, 0 < d ∧ r ^ d % n = 1 % n ∧ ∀ k, 0 < k → r ^ k % n = 1 % n → d ≤ k := by
    intro m
    induction m using Nat.strongRecOn with
    | _ m ih =>
      intro h0 h1
      by_cases h : ∀ k, 0 < k → r ^ k % n = 1 % n → m ≤ k
      · exact ⟨m, h0, h1, h⟩
      · have : ∃ k, 0 < k ∧ r ^ k % n = 1 % n ∧ k < m := Classical.byContradiction fun hc => h fun k hk hk1 => by
          rcases Nat.lt_or_ge k m with hlt | hge
          · exact absurd ⟨k, hk, hk1, hlt⟩ hc
          · exact hge
        obtain ⟨k, hk, hk1, hlt⟩ := this
        exact ih k hlt hk hk1
  obtain ⟨d, hd, hd1, hmin⟩ := key m h0 h1
  refine ⟨d, hd, hd1, hmin, fun k hk => ?_⟩
  have e : k = d * (k / d) + k % d := (Nat.div_add_mod k d).symm
  have h2 : r ^ (k % d) % n = 1 % n := by
    have := pow_add_one (pow_one_mul hd1 (k / d)) (k % d)
    rw [← this, ← e, hk]
  rcases Nat.eq_zero_or_pos (k % d) with hz | hp
  · exact Nat.dvd_of_mod_eq_zero hz
  · have := hmin _ hp h2
    have := Nat.mod_lt k hd
    omega

/-- what a root that shows n does: its powers are all the numbers from 1 to n - 1, each once -/
structure Root (n r : Nat) : Prop where
  big : 2 < n
  one : r ^ (n - 1) % n = 1
  inj : ∀ i j, i < j → j < n - 1 → r ^ i % n ≠ r ^ j % n
  pos : ∀ k, 0 < r ^ k % n
  all : ∀ x, 0 < x → x < n → ∃ k, k < n - 1 ∧ r ^ k % n = x

theorem root_of (hn : 2 < n) (h1 : r ^ (n - 1) % n = 1) (h2 : ∀ q, Prm q → q ∣ n - 1 → r ^ ((n - 1) / q) % n ≠ 1) : Root n r := by
  have h1n : 1 % n = 1 := Nat.mod_eq_of_lt (by omega)
  obtain ⟨d, hd, hd1, hmin, hdv⟩ := least_order (n := n) (r := r) (m := n - 1) (by omega) (by rw [h1, h1n])
  have hdn : d = n - 1 := by
    obtain ⟨c, hc⟩ := hdv (n - 1) (by rw [h1, h1n])
    rcases Nat.lt_or_ge c 2 with hlt | hge
    · have : c = 0 ∨ c = 1 := by omega
      rcases this with rfl | rfl
      · omega
      · omega
    · exfalso
      obtain ⟨q, hq, c', hc'⟩ := prm_part c hge
      have hqn : n - 1 = q * (d * c') := by rw [hc, hc', Nat.mul_left_comm]
      have hq0 : 0 < q := by have := hq.1; omega
      refine h2 q hq ⟨_, hqn⟩ ?_
      rw [hqn, Nat.mul_div_cancel_left _ hq0, pow_one_mul hd1, h1n]
  subst hdn
  have hpos : ∀ k, 0 < r ^ k % n := by
    intro k
    rcases Nat.eq_zero_or_pos (r ^ k % n) with hz | hp
    · exfalso
      have : r ^ (k * (n - 1)) % n = 1 % n := by rw [Nat.mul_comm]; exact pow_one_mul (by rw [h1, h1n]) k
      have e : r ^ (k * (n - 1)) % n = 0 := by
        rw [Nat.pow_mul, Nat.pow_mod, hz, Nat.zero_pow (by omega), Nat.zero_mod]
      omega
    · exact hp
  have hinj : ∀ i j, i < j → j < n - 1 → r ^ i % n ≠ r ^ j % n := by
    intro i j hij hj he
    have e1 : r ^ (n - 1 - i + i) % n = r ^ (n - 1 - i + j) % n := by
      rw [Nat.pow_add, Nat.pow_add, ← pmod_mul, ← pmod_mul (r ^ (n - 1 - i)) (r ^ j), he]
    rw [show n - 1 - i + i = n - 1 by omega, show n - 1 - i + j = n - 1 + (j - i) by omega, pow_add_one (by rw [h1, h1n]), h1] at e1
    have := hmin (j - i) (by omega) (by rw [← e1, h1n])
    omega
  refine ⟨hn, h1, hinj, hpos, fun x hx0 hxn => ?_⟩
  have hall := nodup_all ((List.range (n - 1)).map fun k => r ^ k % n) (List.range' 1 (n - 1)) (nodup_map_range _ _ hinj)
    (fun y hy => by
      obtain ⟨k, _, rfl⟩ := List.mem_map.1 hy
      have := Nat.mod_lt (r ^ k) (show 0 < n by omega)
      have := hpos k
      rw [List.mem_range'_1]; omega) (by simp) x (by rw [List.mem_range'_1]; omega)
  obtain ⟨k, hk, he⟩ := List.mem_map.1 hall
  exact ⟨k, List.mem_range.1 hk, he⟩

theorem Root.fermat (h : Root n r) {x : Nat} (h0 : 0 < x) (hx : x < n) : x ^ (n - 1) % n = 1 := by
  obtain ⟨k, hk, rfl⟩ := h.all x h0 hx
  have h1n : 1 % n = 1 := Nat.mod_eq_of_lt (by omega)
  rw [← Nat.pow_mod, ← Nat.pow_mul, Nat.mul_comm, pow_one_mul (by rw [h.one, h1n]), h1n]

theorem Root.prm (h : Root n r) : Prm n := by
  have hb := h.big
  refine ⟨by omega, fun d hd => ?_⟩
  have hle := Nat.le_of_dvd (by omega) hd
  have h0 : d ≠ 0 := by rintro rfl; have := Nat.eq_zero_of_zero_dvd hd; omega
  by_cases e : d = n
  · exact .inr e
  · left
    have hf := h.fermat (x := d) (by omega) (by omega)
    have h1 : d ∣ d ^ (n - 1) := Nat.dvd_trans (Nat.dvd_refl d) (by rw [show n - 1 = (n - 2) + 1 by omega, Nat.pow_succ]; exact Nat.dvd_mul_left _ _)
    have h2 : d ∣ d ^ (n - 1) % n := (Nat.dvd_mod_iff hd).2 h1
    rw [hf] at h2
    exact Nat.dvd_one.1 h2

theorem Root.coprime (h : Root n r) {x : Nat} (h0 : 0 < x) (hx : x < n) : Nat.gcd n x = 1 := by
  rcases h.prm.2 _ (Nat.gcd_dvd_left n x) with e | e
  · exact e
  · have := Nat.le_of_dvd h0 (Nat.gcd_dvd_right n x)
    omega
end

/-- what a product of primes divides by -/
theorem prm_mul {q a b : Nat} (h : Prm q) (hd : q ∣ a * b) : q ∣ a ∨ q ∣ b := by
  rcases h.2 _ (Nat.gcd_dvd_left q a) with e | e
  · exact .inr (Nat.Coprime.dvd_of_dvd_mul_left (show Nat.Coprime q a from e) hd)
  · left; rw [← e]; exact Nat.gcd_dvd_right q a
theorem prm_pow {q a : Nat} (h : Prm q) : ∀ k, q ∣ a ^ k → q ∣ a
  | 0, hd => by have := Nat.dvd_one.1 (by simpa using hd); have := h.1; omega
  | k + 1, hd => by
    rw [Nat.pow_succ] at hd
    rcases prm_mul h hd with h1 | h1
    · exact prm_pow h k h1
    · exact h1
theorem prm_eq {p q : Nat} (hp : Prm p) (hq : Prm q) (h : q ∣ p) : q = p := by
  rcases hp.2 _ h with e | e
  · have := hq.1; omega
  · exact e
end Go.Proofs.YthomeenmcajmdaaDoor
/- A monic polynomial has at most as many roots modulo a prime as its degree (in plain Lean; nothing of a program). -/
namespace Go.Proofs.YthomeenmcajmdaaDoor

/-- a polynomial's value, its least coefficient first -/
def ev : List Int → Int → Int
  | [], _ => 0
  | c :: cs, x => c + x * ev cs x
def addL : List Int → List Int → List Int
  | [], _ => []
  | c :: cs, [] => c :: cs
  | c :: cs, d :: ds => (c + d) :: addL cs ds
theorem addL_length : ∀ cs ds : List Int, (addL cs ds).length = cs.length
  | [], _ => by simp [addL]
  | c :: cs, [] => by simp [addL]
  | c :: cs, d :: ds => by simp [addL, addL_length cs ds]
theorem ev_addL (x : Int) : ∀ cs ds : List Int, ds.length ≤ cs.length → ev (addL cs ds) x = ev cs x + ev ds x
  | [], [], _ => by simp [addL, ev]
  | [], d :: ds, h => by simp at h
  | c :: cs, [], _ => by simp [addL, ev]
  | c :: cs, d :: ds, h => by
    have := ev_addL x cs ds (by simpa using h)
    simp only [addL, ev, this, Int.mul_add]; omega
theorem addL_last : ∀ cs ds : List Int, ds.length < cs.length → (addL cs ds).getLast? = cs.getLast?
  | [], ds, h => by simp at h
  | c :: cs, [], _ => by simp [addL]
  | [c], d :: ds, h => by simp at h
  | c :: c' :: cs, d :: ds, h => by
    have := addL_last (c' :: cs) ds (by simpa using h)
    have hl := addL_length (c' :: cs) ds
    match e : addL (c' :: cs) ds with
    | [] => rw [e] at hl; simp at hl
    | y :: ys => rw [addL, e, List.getLast?_cons_cons, List.getLast?_cons_cons, ← e, this]
theorem ev_scale (a x : Int) : ∀ ds : List Int, ev (ds.map (a * ·)) x = a * ev ds x
  | [] => by simp [ev]
  | d :: ds => by
    simp only [List.map_cons, ev, ev_scale a x ds, Int.mul_add]
    rw [Int.mul_left_comm]
/-- what is left of a polynomial, less its value at a, by x - a -/
def quo (a : Int) : List Int → List Int
  | [] => []
  | _ :: cs => addL cs ((quo a cs).map (a * ·))
theorem quo_length (a : Int) : ∀ cs : List Int, (quo a cs).length = cs.length - 1
  | [] => rfl
  | c :: cs => by simp [quo, addL_length]
theorem quo_ev (a x : Int) : ∀ cs : List Int, ev cs x - ev cs a = (x - a) * ev (quo a cs) x
  | [] => by simp [ev, quo]
  | c :: cs => by
    have ih := quo_ev a x cs
    rw [quo, ev_addL x _ _ (by rw [List.length_map, quo_length]; omega), ev_scale, ev, ev, Int.mul_add, Int.mul_left_comm, ← ih, Int.sub_mul, Int.mul_sub]
    omega
theorem quo_last (a : Int) (c c' : Int) (cs : List Int) : (quo a (c :: c' :: cs)).getLast? = (c :: c' :: cs).getLast? := by
  rw [quo, addL_last _ _ (by rw [List.length_map, quo_length]; simp), List.getLast?_cons_cons]

theorem prm_dvd_mul {n : Nat} (h : Prm n) {a b : Int} (hd : (n : Int) ∣ a * b) : (n : Int) ∣ a ∨ (n : Int) ∣ b := by
  have h1 := Int.ofNat_dvd_left.1 hd
  rw [Int.natAbs_mul] at h1
  exact (prm_mul h h1).imp Int.ofNat_dvd_left.2 Int.ofNat_dvd_left.2

/-- a monic polynomial of degree d has at most d roots modulo a prime -/
theorem roots_le {n : Nat} (hn : Prm n) : ∀ (d : Nat) (cs rs : List Int), cs.length = d + 1 → cs.getLast? = some 1 → rs.Nodup → (∀ r ∈ rs, 0 ≤ r ∧ r < n ∧ (n : Int) ∣ ev cs r) → rs.length ≤ d
  | 0, [c], rs, _, h1, _, hr => by
    simp at h1; subst h1
    cases rs with
    | nil => simp
    | cons r rs =>
      have := (hr r (by simp)).2.2
      simp [ev] at this
      have h2 := Int.ofNat_dvd_left.1 this
      have h3 := Nat.le_of_dvd (by decide) h2
      have := hn.1
      omega
  | d + 1, c :: c' :: cs, [], _, _, _, _ => by simp
  | d + 1, c :: c' :: cs, a :: rs, hl, h1, hnd, hr => by
    rw [List.nodup_cons] at hnd
    have ha := hr a (by simp)
    have := roots_le hn d (quo a (c :: c' :: cs)) rs (by rw [quo_length]; simp at hl ⊢; omega) (by rw [quo_last]; exact h1) hnd.2 (fun b hb => by
      have hb2 := hr b (by simp [hb])
      refine ⟨hb2.1, hb2.2.1, ?_⟩
      have hd := Int.dvd_sub hb2.2.2 ha.2.2
      rw [quo_ev] at hd
      rcases prm_dvd_mul hn hd with h | h
      · exfalso
        have : b ≠ a := fun e => hnd.1 (e ▸ hb)
        obtain ⟨k, hk⟩ := h
        have hk0 : k = 0 := by
          rcases Int.lt_trichotomy k 0 with h | h | h
          · have := Int.mul_le_mul_of_nonneg_left (show k ≤ -1 by omega) (show (0 : Int) ≤ n by omega)
            omega
          · exact h
          · have := Int.mul_le_mul_of_nonneg_left (show 1 ≤ k by omega) (show (0 : Int) ≤ n by omega)
            omega
        rw [hk0] at hk
        omega
      · exact h)
    simp only [List.length_cons]
    omega

/-- x to the d-th, less 1 -/
def powLess (d : Nat) : List Int := -1 :: (List.replicate (d - 1) 0 ++ [1])
theorem ev_zeros (x : Int) : ∀ k : Nat, ev (List.replicate k 0 ++ [1]) x = x ^ k
  | 0 => by simp [ev]
  | k + 1 => by
    rw [List.replicate_succ, List.cons_append, ev, ev_zeros x k, Int.pow_succ, Int.mul_comm]; omega
theorem ev_powLess (d : Nat) (hd : 1 ≤ d) (x : Int) : ev (powLess d) x = x ^ d - 1 := by
  rw [powLess, ev, ev_zeros, show d = (d - 1) + 1 by omega, Int.pow_succ, Int.mul_comm]
  simp only [Nat.add_sub_cancel]
  omega
/-- of the numbers of a prime at most d have 1 as their d-th power -/
theorem ones_le {n : Nat} (hn : Prm n) (d : Nat) (hd : 1 ≤ d) (rs : List Nat) (hnd : rs.Nodup) (hr : ∀ r ∈ rs, r < n ∧ r ^ d % n = 1) : rs.length ≤ d := by
  have h1 := hn.1
  have := roots_le hn d (powLess d) (rs.map fun r : Nat => (r : Int)) (by simp [powLess]; omega) (by simp [powLess, List.getLast?_cons]) (by
      rw [List.nodup_iff_pairwise_ne, List.pairwise_map]
      exact (List.nodup_iff_pairwise_ne.1 hnd).imp (fun h e => h (by omega))) (fun r hr' => by
    obtain ⟨x, hx, rfl⟩ := List.mem_map.1 hr'
    obtain ⟨a1, a2⟩ := hr x hx
    refine ⟨by omega, by omega, ?_⟩
    rw [ev_powLess d hd]
    have e : (x : Int) ^ d = ((x ^ d : Nat) : Int) := by simp
    have e2 := Nat.div_add_mod (x ^ d) n
    rw [a2] at e2
    refine ⟨((x ^ d / n : Nat) : Int), ?_⟩
    rw [e, ← Int.natCast_mul]
    omega)
  simpa using this
end Go.Proofs.YthomeenmcajmdaaDoor
/- Each prime has a primitive root (in plain Lean; nothing of a program). -/
namespace Go.Proofs.YthomeenmcajmdaaDoor

def prodL : List Nat → Nat
  | [] => 1
  | a :: l => a * prodL l
theorem prodL_perm {l l' : List Nat} (h : l.Perm l') : prodL l = prodL l' := by
  induction h with
  | nil => rfl
  | cons x _ ih => rw [prodL, prodL, ih]
  | swap x y l => rw [prodL, prodL, prodL, prodL, Nat.mul_left_comm]
  | trans _ _ h1 h2 => exact h1.trans h2
theorem prodL_map (x n : Nat) (f : Nat → Nat) : ∀ l : List Nat, prodL (l.map fun i => x * f i % n) % n = x ^ l.length * prodL (l.map f) % n
  | [] => by simp [prodL]
  | i :: l => by
    have ih := prodL_map x n f l
    rw [List.map_cons, List.map_cons, prodL, prodL, List.length_cons, Nat.pow_succ, Nat.mul_mod, ih, Nat.mod_mod, ← Nat.mul_mod]
    congr 1
    ac_rfl
theorem prm_prod {n : Nat} (hn : Prm n) : ∀ l : List Nat, n ∣ prodL l → ∃ y ∈ l, n ∣ y
  | [], h => by
    have := Nat.le_of_dvd (by decide) h
    simp [prodL] at this
    have := hn.1
    omega
  | a :: l, h => by
    rcases prm_mul hn h with h1 | h1
    · exact ⟨a, by simp, h1⟩
    · obtain ⟨y, hy, h2⟩ := prm_prod hn l h1
      exact ⟨y, by simp [hy], h2⟩
theorem mod_eq_dvd {n a b : Nat} (h : a % n = b % n) (hab : a ≤ b) : n ∣ b - a := by
  have h1 := Nat.div_add_mod a n
  have h2 := Nat.div_add_mod b n
  refine ⟨b / n - a / n, ?_⟩
  rw [Nat.mul_sub]
  omega
theorem perm_of {l L : List Nat} (h1 : l.Nodup) (h2 : L.Nodup) (h : ∀ x, x ∈ l ↔ x ∈ L) : l.Perm L := by
  rw [List.perm_iff_count]
  intro x
  rw [h1.count, h2.count]
  by_cases hx : x ∈ l
  · rw [if_pos hx, if_pos ((h x).1 hx)]
  · rw [if_neg hx, if_neg (fun hh => hx ((h x).2 hh))]
/-- Fermat -/
theorem prm_fermat {n x : Nat} (hn : Prm n) (h0 : 0 < x) (hx : x < n) : x ^ (n - 1) % n = 1 := by
  have hn2 := hn.1
  have hxn : ¬ n ∣ x := fun h => by have := Nat.le_of_dvd h0 h; omega
  have hM : ((List.range (n - 1)).map fun i => x * (i + 1) % n).Nodup := nodup_map_range _ _ fun i j hij hj he => by
    have h1 := mod_eq_dvd he (Nat.mul_le_mul_left x (by omega))
    rw [← Nat.mul_sub] at h1
    rcases prm_mul hn h1 with h2 | h2
    · exact hxn h2
    · have := Nat.le_of_dvd (by omega) h2; omega
  have hL : ((List.range (n - 1)).map fun i => i + 1).Nodup := nodup_map_range _ _ fun i j hij hj he => by omega
  have hsub : ∀ y ∈ (List.range (n - 1)).map (fun i => x * (i + 1) % n), y ∈ (List.range (n - 1)).map fun i => i + 1 := by
    intro y hy
    obtain ⟨i, hi, rfl⟩ := List.mem_map.1 hy
    have hi2 := List.mem_range.1 hi
    have hlt := Nat.mod_lt (x * (i + 1)) (show 0 < n by omega)
    have hpos : x * (i + 1) % n ≠ 0 := fun h => by
      rcases prm_mul hn (Nat.dvd_of_mod_eq_zero h) with h2 | h2
      · exact hxn h2
      · have := Nat.le_of_dvd (by omega) h2; omega
    exact List.mem_map.2 ⟨x * (i + 1) % n - 1, List.mem_range.2 (by omega), by omega⟩
  have hall := nodup_all _ _ hM hsub (by simp)
  have hp := prodL_perm (perm_of hM hL fun y => ⟨hsub y, hall y⟩)
  have hm := prodL_map x n (fun i => i + 1) (List.range (n - 1))
  rw [hp, List.length_range] at hm
  generalize hQ : prodL ((List.range (n - 1)).map fun i => i + 1) = Q at hm
  have hQn : ¬ n ∣ Q := fun h => by
    rw [← hQ] at h
    obtain ⟨y, hy, hd⟩ := prm_prod hn _ h
    obtain ⟨i, hi, rfl⟩ := List.mem_map.1 hy
    have := List.mem_range.1 hi
    have := Nat.le_of_dvd (by omega) hd
    omega
  have hxp : 1 ≤ x ^ (n - 1) := Nat.one_le_pow _ _ h0
  have hd := mod_eq_dvd hm (Nat.le_mul_of_pos_left Q hxp)
  rw [show x ^ (n - 1) * Q - Q = (x ^ (n - 1) - 1) * Q by rw [Nat.sub_mul, Nat.one_mul]] at hd
  rcases prm_mul hn hd with h | h
  · obtain ⟨c, hc⟩ := h
    have e : x ^ (n - 1) = 1 + n * c := by omega
    rw [e, Nat.add_mul_mod_self_left, Nat.mod_eq_of_lt (by omega)]
  · exact absurd h hQn

/-- r's order modulo n is D -/
def Ordr (n r D : Nat) : Prop := r ^ D % n = 1 ∧ ∀ q, Prm q → q ∣ D → r ^ (D / q) % n ≠ 1
theorem ordr_one {n : Nat} (hn : 2 ≤ n) : Ordr n 1 1 := ⟨by rw [Nat.pow_one]; exact Nat.mod_eq_of_lt (by omega), fun q hq hd => by have := Nat.le_of_dvd (by decide) hd; have := hq.1; omega⟩
theorem pow_mod' (r n k : Nat) : (r % n) ^ k % n = r ^ k % n := (Nat.pow_mod r k n).symm
/-- what two exponents that share no prime do -/
theorem one_of_two {n c q E : Nat} (hn : 2 ≤ n) (hq : Prm q) (h1 : c ^ q % n = 1) (h2 : c ^ E % n = 1) (hE : ¬ q ∣ E) : c % n = 1 := by
  have h1n : 1 % n = 1 := Nat.mod_eq_of_lt (by omega)
  have hq2 := hq.1
  obtain ⟨d, hd, hd1, _, hdv⟩ := least_order (n := n) (r := c) (m := q) (by omega) (by rw [h1, h1n])
  rcases hq.2 d (hdv q (by rw [h1, h1n])) with e | e
  · rw [e, Nat.pow_one, h1n] at hd1; exact hd1
  · exact absurd (e ▸ hdv E (by rw [h2, h1n])) hE
theorem ordr_mul {n a b D E : Nat} (hn : 2 ≤ n) (ha : Ordr n a D) (hb : Ordr n b E) (hc : ∀ q, Prm q → q ∣ D → ¬ q ∣ E) : Ordr n (a * b % n) (D * E) := by
  have h1n : 1 % n = 1 := Nat.mod_eq_of_lt (by omega)
  have half : ∀ {a b D E q : Nat}, Ordr n a D → Ordr n b E → (Prm q) → q ∣ D → ¬ q ∣ E → (a * b) ^ (D * E / q) % n = 1 → False := by
    intro a b D E q ha hb hq hd hE h
    obtain ⟨k, rfl⟩ := hd
    have hq0 : 0 < q := by have := hq.1; omega
    have e : q * k * E / q = k * E := by rw [Nat.mul_assoc, Nat.mul_div_cancel_left _ hq0]
    have e2 : q * k / q = k := Nat.mul_div_cancel_left _ hq0
    rw [e, Nat.mul_pow, ← pmod_mul] at h
    have hb1 : b ^ (k * E) % n = 1 := by rw [Nat.mul_comm, pow_one_mul (by rw [hb.1, h1n]) k, h1n]
    rw [hb1, Nat.mul_one, Nat.mod_mod, Nat.pow_mul] at h
    have ha1 : (a ^ k) ^ q % n = 1 := by rw [← Nat.pow_mul, Nat.mul_comm]; exact ha.1
    have := one_of_two hn hq ha1 h hE
    have h3 := ha.2 q hq (Nat.dvd_mul_right q k)
    rw [e2] at h3
    exact h3 this
  refine ⟨?_, fun q hq hd h => ?_⟩
  · rw [pow_mod', Nat.mul_pow, ← pmod_mul, pow_one_mul (by rw [ha.1, h1n]) E, Nat.mul_comm D E, pow_one_mul (by rw [hb.1, h1n]) D, h1n, Nat.mul_one, h1n]
  · rw [pow_mod'] at h
    rcases prm_mul hq hd with h1 | h1
    · exact half ha hb hq h1 (hc q hq h1) h
    · refine half hb ha hq h1 (fun h2 => hc q hq h2 h1) ?_
      rw [Nat.mul_comm b a, Nat.mul_comm E D]; exact h
theorem split_pow {q : Nat} (hq : 2 ≤ q) : ∀ D : Nat, 0 < D → ∃ e D', D = q ^ e * D' ∧ ¬ q ∣ D' := by
  intro D
  induction D using Nat.strongRecOn with
  | _ D ih =>
    intro h0
    by_cases hd : q ∣ D
    · obtain ⟨k, rfl⟩ := hd
      have hk : 0 < k := Nat.pos_of_ne_zero (by rintro rfl; simp at h0)
      have hlt : k < q * k := by have := Nat.mul_le_mul_right k hq; omega
      obtain ⟨e, D', h1, h2⟩ := ih k hlt hk
      exact ⟨e + 1, D', by rw [h1, Nat.pow_succ, Nat.mul_comm (q ^ e) q, Nat.mul_assoc], h2⟩
    · exact ⟨0, D, by simp, hd⟩
/-- an element whose order is a prime's power -/
theorem ordr_pow {n q e : Nat} (hn : Prm n) (hq : Prm q) (he : 1 ≤ e) (hd : q ^ e ∣ n - 1) : ∃ r, Ordr n r (q ^ e) := by
  have hn2 := hn.1
  have hq2 := hq.1
  obtain ⟨c, hc⟩ := hd
  have hqe : 0 < q ^ e := Nat.pow_pos (by omega)
  have hc0 : 0 < c := Nat.pos_of_ne_zero (by rintro rfl; simp at hc; omega)
  have hpe : q ^ e = q * q ^ (e - 1) := by conv => lhs; rw [show e = (e - 1) + 1 by omega, Nat.pow_succ, Nat.mul_comm]
  have hd2 : (n - 1) = q * (q ^ (e - 1) * c) := by rw [hc, hpe, Nat.mul_assoc]
  have hk0 : 0 < q ^ (e - 1) * c := Nat.mul_pos (Nat.pow_pos (by omega)) hc0
  obtain ⟨x, hx0, hxn, hx⟩ : ∃ x, 0 < x ∧ x < n ∧ x ^ (q ^ (e - 1) * c) % n ≠ 1 := by
    apply Classical.byContradiction
    intro hno
    have hle := ones_le hn (q ^ (e - 1) * c) hk0 ((List.range (n - 1)).map fun i => i + 1) (nodup_map_range _ _ fun i j a b h => by omega) (fun r hr => by
      obtain ⟨i, hi, rfl⟩ := List.mem_map.1 hr
      have := List.mem_range.1 hi
      refine ⟨by omega, ?_⟩
      apply Classical.byContradiction
      intro h
      exact hno ⟨i + 1, by omega, by omega, h⟩)
    rw [List.length_map, List.length_range] at hle
    have := Nat.mul_le_mul_right (q ^ (e - 1) * c) hq2
    omega
  refine ⟨x ^ c, ?_, fun p hp hpd hone => ?_⟩
  · rw [← Nat.pow_mul, Nat.mul_comm, ← hc]; exact prm_fermat hn hx0 hxn
  · have := prm_eq hq hp (prm_pow hp e hpd)
    subst this
    rw [hpe, Nat.mul_div_cancel_left _ (by omega), ← Nat.pow_mul, Nat.mul_comm] at hone
    exact hx hone
theorem ordr_all {n : Nat} (hn : Prm n) : ∀ D : Nat, 0 < D → D ∣ n - 1 → ∃ r, Ordr n r D := by
  have hn2 := hn.1
  intro D
  induction D using Nat.strongRecOn with
  | _ D ih =>
    intro h0 hd
    by_cases h1 : D = 1
    · subst h1; exact ⟨1, ordr_one hn2⟩
    · obtain ⟨q, hq, hqd⟩ := prm_part D (by omega)
      have hq2 := hq.1
      obtain ⟨e, D', hD, hnd⟩ := split_pow hq2 D h0
      have he : 1 ≤ e := Nat.one_le_iff_ne_zero.2 (by rintro rfl; rw [Nat.pow_zero, Nat.one_mul] at hD; exact hnd (hD ▸ hqd))
      have hD0 : 0 < D' := Nat.pos_of_ne_zero (by rintro rfl; simp at hD; omega)
      have hqe : 2 ≤ q ^ e := Nat.le_trans hq2 (by have := Nat.pow_le_pow_right (show 0 < q by omega) he; simpa using this)
      obtain ⟨b, hb⟩ := ih D' (by rw [hD]; have := Nat.mul_le_mul_right D' hqe; omega) hD0 (Nat.dvd_trans ⟨q ^ e, by rw [hD, Nat.mul_comm]⟩ hd)
      obtain ⟨a, ha⟩ := ordr_pow hn hq he (Nat.dvd_trans ⟨D', hD⟩ hd)
      refine ⟨a * b % n, hD ▸ ordr_mul hn2 ha hb (fun p hp hpd => ?_)⟩
      have := prm_eq hq hp (prm_pow hp e hpd)
      subst this
      exact hnd
/-- each prime above 2 has a primitive root -/
theorem prm_root {n : Nat} (hn : Prm n) (h2 : 2 < n) : ∃ r, 0 < r ∧ r < n ∧ Root n r := by
  obtain ⟨r, h1, h3⟩ := ordr_all hn (n - 1) (by omega) (Nat.dvd_refl _)
  have hR : Root n (r % n) := root_of h2 (by rw [pow_mod']; exact h1) (fun q hq hd => by rw [pow_mod']; exact h3 q hq hd)
  refine ⟨r % n, ?_, Nat.mod_lt _ (by omega), hR⟩
  have := hR.pos 1
  rw [Nat.pow_one, Nat.mod_mod] at this
  exact this
end Go.Proofs.YthomeenmcajmdaaDoor
