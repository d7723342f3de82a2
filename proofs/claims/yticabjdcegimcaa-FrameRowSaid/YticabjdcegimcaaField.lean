/- What package field's functions answer. -/
import Derived.Test.YticabjdcegimcaaBits
import Derived.Test.YticabjdcegimcaaKit
import Derived.Test.YticabjdcegimcaaMod
namespace Go.Proofs.Yticabjdcegimcaa
open Go.RowKit

/-- may p be a modulus? -/
def rightB (p : Int) : Bool := decide (2 ≤ p ∧ p ≤ 9223372036854775807)
theorem rightB_true {p : Int} (h : rightB p = true) : 2 ≤ p ∧ p ≤ 9223372036854775807 := by simpa [rightB] using h
theorem rightB_mk {p : Int} (h : 2 ≤ p ∧ p ≤ 9223372036854775807) : rightB p = true := by simpa [rightB] using h
theorem rightB_false {p : Int} (h : ¬ (2 ≤ p ∧ p ≤ 9223372036854775807)) : rightB p = false := by simpa [rightB] using h
/-- may p be one, and are all numbers of it? -/
def hasB (p : Int) (xs : List Int) : Bool := rightB p && xs.all fun x => decide (x < p)
theorem hasB_true {p : Int} {xs : List Int} (h : hasB p xs = true) : rightB p = true ∧ ∀ x ∈ xs, x < p := by
  simpa [hasB] using h
theorem hasB_mk {p : Int} {xs : List Int} (h : rightB p = true) (h' : ∀ x ∈ xs, x < p) : hasB p xs = true := by
  simpa [hasB] using ⟨h, h'⟩
theorem hasB_one {p a : Int} (h : rightB p = true) (h' : a < p) : hasB p [a] = true := hasB_mk h (by simpa using h')
theorem hasB_two {p a b : Int} (h : rightB p = true) (h' : a < p) (h'' : b < p) : hasB p [a, b] = true := hasB_mk h (by simpa using ⟨h', h''⟩)
theorem hasB_no {p : Int} {xs : List Int} (k : Nat) (hk : k < xs.length) (h : p ≤ xs.getD k 0) : hasB p xs = false := by
  cases e : hasB p xs with
  | false => rfl
  | true =>
    have := (hasB_true e).2 (xs.getD k 0) (by simp [List.getD, List.getElem?_eq_getElem hk])
    omega

theorem mod_less {p a : Int} (h0 : 0 ≤ a) (h : a < 2 * p) : a % p = if p ≤ a then a - p else a := by
  split
  · rw [← Int.sub_emod_right, Int.emod_eq_of_lt (by omega) (by omega)]
  · exact Int.emod_eq_of_lt h0 (by omega)

theorem half_lt {p a b : Int} (ha0 : 0 ≤ a) (ha : a ≤ 18446744073709551615) (hb0 : 0 ≤ b) (hb : b ≤ 18446744073709551615) (hp : 0 < p) (h : a < p ∨ b < p) : 0 ≤ a * b / 18446744073709551616 ∧ a * b / 18446744073709551616 < p := by
  have hab := Int.mul_nonneg ha0 hb0
  refine ⟨by omega, ?_⟩
  rcases h with h | h
  · have h1 := Int.mul_le_mul_of_nonneg_left hb ha0
    omega
  · have h1 := Int.mul_le_mul_of_nonneg_right ha hb0
    omega


theorem and_one (n : Int) (h0 : 0 ≤ n) (h : n ≤ 18446744073709551615) : bits .and .u64 n 1 = n % 2 := by
  rw [u64_and n 1 h0 (by omega) (by omega) (by omega)]
  show ((n.toNat &&& 1 : Nat) : Int) = n % 2
  rw [Nat.and_one_is_mod]; omega


/-! ### The same, where the answer has a name already. -/
theorem hasB_sub {p : Int} {xs ys : List Int} (h : hasB p xs = true) (hs : ∀ y ∈ ys, y ∈ xs) : hasB p ys = true :=
  hasB_mk (hasB_true h).1 fun y hy => (hasB_true h).2 y (hs y hy)
theorem hasB_take' {p : Int} {xs : List Int} (h : hasB p xs = true) (n : Nat) : hasB p (xs.take n) = true := hasB_sub h fun _ hy => List.mem_of_mem_take hy
theorem hasB_drop' {p : Int} {xs : List Int} (h : hasB p xs = true) (n : Nat) : hasB p (xs.drop n) = true := hasB_sub h fun _ hy => List.mem_of_mem_drop hy
/-- a number of p, under a name -/
theorem name_mod {p : Int} (a : Int) (hp : 2 ≤ p) : ∃ r, a % p = r ∧ 0 ≤ r ∧ r < p := ⟨_, rfl, mod_range a hp⟩
end Go.Proofs.Yticabjdcegimcaa
