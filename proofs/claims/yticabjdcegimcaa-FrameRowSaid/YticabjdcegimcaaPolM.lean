/- Polynomials modulo p as lists of numbers: their series, degrees, division, divisors, values (in plain Lean; nothing of a program). -/
import Derived.Test.YticabjdcegimcaaSer
import Derived.Test.YticabjdcegimcaaField
namespace Go.Proofs.Yticabjdcegimcaa
variable {p : Int}

namespace Ser
/-- no term from n on -/
def low (a : Ser p) (n : Nat) : Prop := ∀ k, n ≤ k → a.co k = 0
/-- a polynomial -/
def poly (a : Ser p) : Prop := ∃ n, a.low n
theorem low.mono {a : Ser p} {m n : Nat} (h : a.low m) (hn : m ≤ n) : a.low n := fun k hk => h k (by omega)
theorem low.add {a b : Ser p} {n : Nat} (h : a.low n) (h' : b.low n) : (a + b).low n := fun k hk => by rw [add_co, h k hk, h' k hk]; simp
theorem low.sub {a b : Ser p} {n : Nat} (h : a.low n) (h' : b.low n) : (a - b).low n := fun k hk => by rw [sub_co, h k hk, h' k hk]; simp
theorem low_zero (n : Nat) : (0 : Ser p).low n := fun k _ => zero_co k
theorem low_C (c : Int) : (C p c).low 1 := fun k hk => by rw [C_co, if_neg (by omega)]
theorem low.zero {a : Ser p} (h : a.low 0) : a = 0 := ext_ fun k => by rw [h k (by omega), zero_co]
/-- the greatest term of a product -/
theorem mul_top {a b : Ser p} {m n : Nat} (h : a.low (m + 1)) (h' : b.low (n + 1)) : (a * b).co (m + n) = a.co m * b.co n % p ∧ (a * b).low (m + n + 1) := by
  refine ⟨?_, fun k hk => ?_⟩
  · rw [mul_co, cv, sm_piece m 1 (by omega) (fun i hi => by rw [h' _ (by omega), Int.mul_zero]) (fun i h1 h2 => by rw [h _ (by omega), Int.zero_mul])]
    simp [sm]
  · rw [mul_co, cv, sm_zero fun i hi => ?_, Int.zero_emod]
    rcases Nat.lt_or_ge i (m + 1) with h1 | h1
    · rw [h' _ (by omega), Int.mul_zero]
    · rw [h _ h1, Int.zero_mul]
theorem low.mul {a b : Ser p} {m n : Nat} (h : a.low m) (h' : b.low n) : (a * b).low (m + n - 1) := by
  cases m with
  | zero => rw [h.zero, zero_mul]; exact low_zero _
  | succ m =>
    cases n with
    | zero => rw [h'.zero, mul_zero]; exact low_zero _
    | succ n => exact (mul_top h h').2.mono (by omega)
theorem poly.add {a b : Ser p} (h : a.poly) (h' : b.poly) : (a + b).poly := by
  obtain ⟨m, h⟩ := h; obtain ⟨n, h'⟩ := h'
  exact ⟨max m n, (h.mono (by omega)).add (h'.mono (by omega))⟩
theorem poly.sub {a b : Ser p} (h : a.poly) (h' : b.poly) : (a - b).poly := by
  obtain ⟨m, h⟩ := h; obtain ⟨n, h'⟩ := h'
  exact ⟨max m n, (h.mono (by omega)).sub (h'.mono (by omega))⟩
theorem poly.mul {a b : Ser p} (h : a.poly) (h' : b.poly) : (a * b).poly := by
  obtain ⟨m, h⟩ := h; obtain ⟨n, h'⟩ := h'
  exact ⟨_, h.mul h'⟩
theorem poly_C (c : Int) : (C p c).poly := ⟨1, low_C c⟩
theorem poly_zero : (0 : Ser p).poly := ⟨0, low_zero 0⟩
theorem poly_one : (1 : Ser p).poly := poly_C 1
/-- who is a polynomial but 0 has a greatest term -/
theorem poly.top {a : Ser p} (h : a.poly) (h0 : a ≠ 0) : ∃ d, a.co d ≠ 0 ∧ a.low (d + 1) := by
  obtain ⟨n, h⟩ := h
  induction n with
  | zero => exact absurd h.zero h0
  | succ n ih =>
    by_cases e : a.co n = 0
    · exact ih fun k hk => by
        rcases Nat.lt_or_ge n k with h1 | h1
        · exact h k (by omega)
        · rw [show k = n by omega]; exact e
    · exact ⟨n, e, h⟩
theorem co_range (a : Ser p) (hp : 2 ≤ p) (k : Nat) : 0 ≤ a.co k ∧ a.co k < p := by rw [← a.ok k]; exact mod_range _ hp
/-- division has one quotient and one rest -/
theorem div_unique {q b r : Ser p} {n : Nat} (hb : b.low (n + 1)) {i : Int} (hi : b.co n * i % p = 1) (hq : q.poly) (hr : r.low n) (h : q * b + r = 0) : q = 0 ∧ r = 0 := by
  have h0 : q = 0 := by
    obtain ⟨m, hm⟩ := hq
    induction m with
    | zero => exact hm.zero
    | succ m ih =>
      refine ih fun k hk => ?_
      rcases Nat.lt_or_ge m k with h1 | h1
      · exact hm k (by omega)
      obtain rfl : k = m := by omega
      have e := congrArg (fun s : Ser p => s.co (k + n)) h
      simp only [add_co, zero_co, (mul_top hm hb).1, hr (k + n) (by omega), Int.add_zero] at e
      rw [Int.emod_emod_of_dvd _ (Int.dvd_refl _)] at e
      have e2 : q.co k * (b.co n * i) % p = 0 := by rw [← Int.mul_assoc, ← mm_l, e]; simp
      rw [← mm_r, hi, Int.mul_one, q.ok] at e2
      exact e2
  refine ⟨h0, ?_⟩
  rw [h0, zero_mul, zero_add] at h
  exact h
end Ser

/-! ### Lists -/
/-- a list's polynomial -/
def pol (p : Int) (xs : List Int) : Ser p := .of p fun k => xs.getD k 0
theorem pol_co (xs : List Int) (k : Nat) : (pol p xs).co k = xs.getD k 0 % p := rfl
theorem getD_over {xs : List Int} {k : Nat} (h : xs.length ≤ k) : xs.getD k 0 = 0 := by simp [List.getD, List.getElem?_eq_none h]
theorem pol_low (xs : List Int) : (pol p xs).low xs.length := fun k hk => by rw [pol_co, getD_over hk]; simp
theorem pol_poly (xs : List Int) : (pol p xs).poly := ⟨_, pol_low xs⟩
theorem pol_nil : pol p [] = 0 := (pol_low []).zero
theorem pol_single (c : Int) : pol p [c] = Ser.C p c := Ser.ext_ fun k => by
  rw [pol_co, Ser.C_co]
  cases k <;> simp
/-- numbers of p -/
def Rng (p : Int) (xs : List Int) : Prop := ∀ x ∈ xs, 0 ≤ x ∧ x < p
theorem Rng.get {xs : List Int} (h : Rng p xs) {k : Nat} (hk : k < xs.length) : 0 ≤ xs.getD k 0 ∧ xs.getD k 0 < p := by
  have e : xs.getD k 0 = xs[k] := by simp [List.getD, List.getElem?_eq_getElem hk]
  rw [e]; exact h _ (List.getElem_mem hk)
theorem Rng.getD {xs : List Int} (h : Rng p xs) (hp : 2 ≤ p) (k : Nat) : 0 ≤ xs.getD k 0 ∧ xs.getD k 0 < p := by
  rcases Nat.lt_or_ge k xs.length with h1 | h1
  · exact h.get h1
  · rw [getD_over h1]; omega
theorem Rng.co {xs : List Int} (h : Rng p xs) (k : Nat) : (pol p xs).co k = xs.getD k 0 := by
  rcases Nat.lt_or_ge k xs.length with h1 | h1
  · exact mod_small (h.get h1).1 (h.get h1).2
  · rw [pol_co, getD_over h1]; simp
theorem Rng.nil : Rng p [] := fun x hx => by simp at hx
theorem Rng.take {xs : List Int} (h : Rng p xs) (n : Nat) : Rng p (xs.take n) := fun x hx => h x (List.mem_of_mem_take hx)
theorem Rng.one {c : Int} (h0 : 0 ≤ c) (h : c < p) : Rng p [c] := fun x hx => by
  obtain rfl : x = c := by simpa using hx
  exact ⟨h0, h⟩
theorem Rng.u64 {xs : List Int} (h : Rng p xs) (hp : p ≤ 9223372036854775807) : U64s xs := fun x hx => by have := h x hx; omega
theorem Rng.has {xs : List Int} (h : Rng p xs) (hp : rightB p = true) : hasB p xs = true := hasB_mk hp fun x hx => (h x hx).2
theorem Rng.of_get {xs : List Int} (h : ∀ k, k < xs.length → 0 ≤ xs.getD k 0 ∧ xs.getD k 0 < p) : Rng p xs := fun x hx => by
  obtain ⟨j, hj, rfl⟩ := List.mem_iff_getElem.1 hx
  have := h j hj
  simpa [List.getD, List.getElem?_eq_getElem hj] using this

/-- a polynomial as it is kept: numbers of p, the last one not 0 -/
structure Pol (p : Int) (xs : List Int) : Prop where
  rng : Rng p xs
  top : 0 < xs.length → xs.getD (xs.length - 1) 0 ≠ 0
theorem Pol.nil : Pol p [] := ⟨Rng.nil, fun h => by simp at h⟩
theorem Pol.one {c : Int} (h0 : 0 < c) (h : c < p) : Pol p [c] := ⟨Rng.one (by omega) h, fun _ => by simp; omega⟩
theorem Pol.len_le {xs : List Int} (h : Pol p xs) {n : Nat} (hl : (pol p xs).low n) : xs.length ≤ n := by
  apply Classical.byContradiction
  intro hn
  have := hl (xs.length - 1) (by omega)
  rw [h.rng.co] at this
  exact h.top (by omega) this
theorem Pol.inj {xs ys : List Int} (h : Pol p xs) (h' : Pol p ys) (e : pol p xs = pol p ys) : xs = ys := by
  have h1 : xs.length ≤ ys.length := h.len_le (e ▸ pol_low ys)
  have h2 : ys.length ≤ xs.length := h'.len_le (e ▸ pol_low xs)
  refine List.ext_getElem (by omega) fun k h3 h4 => ?_
  have := congrArg (fun s : Ser p => s.co k) e
  simp only [h.rng.co, h'.rng.co] at this
  simpa [List.getD, List.getElem?_eq_getElem h3, List.getElem?_eq_getElem h4] using this
theorem Pol.zero {xs : List Int} (h : Pol p xs) (e : pol p xs = 0) : xs = [] := h.inj Pol.nil (by rw [e, pol_nil])
theorem Pol.ne {xs : List Int} (h : Pol p xs) (h0 : xs ≠ []) : pol p xs ≠ 0 := fun e => h0 (h.zero e)
/-- the greatest number of a polynomial -/
def lead (xs : List Int) : Int := xs.getD (xs.length - 1) 0
theorem Pol.lead_ne {xs : List Int} (h : Pol p xs) (h0 : xs ≠ []) : lead xs ≠ 0 := h.top (List.length_pos_iff.2 h0)
theorem Pol.lead_range {xs : List Int} (h : Pol p xs) (h0 : xs ≠ []) : 0 < lead xs ∧ lead xs < p := by
  have h1 := h.rng.get (k := xs.length - 1) (by have := List.length_pos_iff.2 h0; omega)
  have h2 := h.lead_ne h0
  unfold lead at h2 ⊢
  omega
/-- without the noughts at its end -/
theorem Pol.trim {xs : List Int} (hr : Rng p xs) {n : Nat} (hn : n ≤ xs.length) (h0 : ∀ j, n ≤ j → xs.getD j 0 = 0) (ht : 0 < n → xs.getD (n - 1) 0 ≠ 0) : Pol p (xs.take n) ∧ pol p (xs.take n) = pol p xs := by
  have hl : (xs.take n).length = n := by simp; omega
  have hg : ∀ k, (xs.take n).getD k 0 = xs.getD k 0 := fun k => by
    rcases Nat.lt_or_ge k n with h1 | h1
    · simp [List.getD, h1]
    · rw [h0 k h1, getD_over (by omega)]
  refine ⟨⟨hr.take n, fun h => ?_⟩, Ser.of_eq fun k => by rw [hg]⟩
  rw [hl] at h
  rw [hl, hg]
  exact ht h

/-! ### Division by who has an inverse at its top -/
theorem pol_div_unique {q r q' r' : Ser p} {ys : List Int} (hy : Pol p ys) (h0 : ys ≠ []) {i : Int} (hi : lead ys * i % p = 1) (hq : q.poly) (hq' : q'.poly) (hr : r.low (ys.length - 1)) (hr' : r'.low (ys.length - 1))
    (h : q * pol p ys + r = q' * pol p ys + r') : q = q' ∧ r = r' := by
  have hl := List.length_pos_iff.2 h0
  have hb : (pol p ys).low (ys.length - 1 + 1) := (pol_low ys).mono (by omega)
  have e : (q - q') * pol p ys + (r - r') = 0 := by
    have h1 : q - q' + q' = q := Ser.sub_add q q'
    have h2 : r - r' + r' = r := Ser.sub_add r r'
    rw [← h1, ← h2, Ser.add_mul] at h
    refine Ser.add_right_cancel (c := q' * pol p ys + r') (Eq.trans ?_ (h.trans (Ser.zero_add _).symm))
    ac_rfl
  obtain ⟨e1, e2⟩ := Ser.div_unique hb (by rw [hy.rng.co]; exact hi) (hq.sub hq') (hr.sub hr') e
  exact ⟨Ser.eq_of_sub e1, Ser.eq_of_sub e2⟩
/-- who is a multiple of y, and isn't 0, is no shorter -/
theorem len_mul {xs ys : List Int} (hx : Pol p xs) (hx0 : xs ≠ []) (hy : Pol p ys) {i : Int} (hi : lead ys * i % p = 1) {q : Ser p} (hq : q.poly) (h : pol p xs = q * pol p ys) : ys.length ≤ xs.length := by
  by_cases hy0 : ys = []
  · rw [hy0]; simp
  have hl := List.length_pos_iff.2 hy0
  have q0 : q ≠ 0 := fun e => hx.ne hx0 (by rw [h, e, Ser.zero_mul])
  obtain ⟨d, d1, d2⟩ := hq.top q0
  have e := (Ser.mul_top (n := ys.length - 1) d2 ((pol_low ys).mono (by omega))).1
  rw [← h] at e
  apply Classical.byContradiction
  intro hn
  rw [pol_low xs (d + (ys.length - 1)) (by omega), hy.rng.co] at e
  have e2 : q.co d * (lead ys * i) % p = 0 := by rw [← Int.mul_assoc, ← mm_l, show lead ys = ys.getD (ys.length - 1) 0 from rfl, ← e]; simp
  rw [← mm_r, hi, Int.mul_one, q.ok] at e2
  exact d1 e2
end Go.Proofs.Yticabjdcegimcaa
