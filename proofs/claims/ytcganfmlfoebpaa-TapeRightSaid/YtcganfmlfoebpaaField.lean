/- What package field's functions answer. -/
import Derived.Test.YtcganfmlfoebpaaBits
import Derived.Test.YtcganfmlfoebpaaKit
import Derived.Test.YtcganfmlfoebpaaMod
namespace Go.Proofs.Ytcganfmlfoebpaa
open Go.RowKit

/-- may p be a modulus? -/
def rightB (p : Int) : Bool := decide (2 ≤ p ∧ p ≤ 9223372036854775807)
theorem rightB_true {p : Int} (h : rightB p = true) : 2 ≤ p ∧ p ≤ 9223372036854775807 := by simpa [rightB] using h
theorem rightB_mk {p : Int} (h : 2 ≤ p ∧ p ≤ 9223372036854775807) : rightB p = true := by simpa [rightB] using h
theorem rightB_false {p : Int} (h : ¬ (2 ≤ p ∧ p ≤ 9223372036854775807)) : rightB p = false := by simpa [rightB] using h
/-- may p be one, and are all numbers of it? -/
def hasB (p : Int) (xs : List Int) : Bool := rightB p && xs.all fun x => decide (x < p)
theorem hasB_true {p : Int} {xs : List Int} (h : hasB p xs = true) : rightB p = true ∧ ∀ x ∈ xs, x < p := by
  simpa [hasB] using h
theorem hasB_mk {p : Int} {xs : List Int} (h : rightB p = true) (h' : ∀ x ∈ xs, x < p) : hasB p xs = true := by
  simpa [hasB] using ⟨h, h'⟩
theorem hasB_one {p a : Int} (h : rightB p = true) (h' : a < p) : hasB p [a] = true := hasB_mk h (by simpa using h')
theorem hasB_two {p a b : Int} (h : rightB p = true) (h' : a < p) (h'' : b < p) : hasB p [a, b] = true := hasB_mk h (by simpa using ⟨h', h''⟩)
theorem hasB_no {p : Int} {xs : List Int} (k : Nat) (hk : k < xs.length) (h : p ≤ xs.getD k 0) : hasB p xs = false := by
  cases e : hasB p xs with
  | false => rfl
  | true =>
    have := (hasB_true e).2 (xs.getD k 0) (by simp [List.getD, List.getElem?_eq_getElem hk])
    omega

set_option maxHeartbeats 400000 in
theorem right_any (p : Int) (w : World) (h0 : 0 ≤ p) (h1 : p ≤ 18446744073709551615) :
    Calls Try.prog 21 #[.int .u64 p] w fun e w' => e = .returned (.bool (rightB p)) ∧ w = w' := by
  by_cases h : 2 ≤ p
  · by_cases h' : p < 9223372036854775808
    all_goals
      go_enter Try.func21, Try.ntmps21
      go_wp2
      go_ret
      exact ⟨ret_bool (by simp [rightB]; omega), rfl⟩
  · go_enter Try.func21, Try.ntmps21
    go_wp2
    go_ret
    exact ⟨ret_bool (by simp [rightB]; omega), rfl⟩

set_option maxHeartbeats 400000 in
theorem has_any (p : Int) (v : Value) (xs : List Int) (w : World) (h0 : 0 ≤ p) (h1 : p ≤ 18446744073709551615) (hv : Ints .u64 w v xs) (hx : U64s xs) :
    Calls Try.prog 22 #[.int .u64 p, v] w fun e w' => e = .returned (.bool (hasB p xs)) ∧ w = w' := by
  obtain ⟨a, cap, rfl, hc1, hc2, hc⟩ := hv
  have Hc := hid hc; clear hc
  have Hx := hid hx; clear hx
  go_enter Try.func22, Try.ntmps22
  go_wp2_with (go_at_call 21; refine (right_any _ _ h0 h1).mono ?_; rintro e w' ⟨rfl, rfl⟩)
  go_loop [9] (fun i => ∃ k : Nat, k ≤ xs.length ∧ i = .int .i64 k ∧ ∀ j, j < k → xs.getD j 0 < p) (fun i => xs.length - (intOf i).toNat)
  case atStart => exact ⟨0, Nat.zero_le _, rfl, by simp⟩
  case round =>
    obtain ⟨k, hk, rfl, hall⟩ := hrel
    have Ha := hid hall; clear hall
    by_cases hlt : k < xs.length
    · obtain ⟨b, off, rfl, hb, hcell⟩ := Hc.out (by omega)
      have g := hcell k hlt
      have hg := U64s.get Hx.out hlt
      clear hcell
      have hn := hasB_no (p := p) k hlt
      generalize hxk : xs.getD k 0 = x at g hg hn
      have Hxk := hid hxk; clear hxk
      have Hn := hid hn; clear hn Hc
      by_cases hp : p ≤ x
      · replace Hn := hid (Hn.out hp)
        go_wp2
        go_ret
        exact ⟨ret_bool (by rw [Hn.out]), rfl⟩
      · go_wp2
        go_round
        case rel => exact ⟨k + 1, by omega, by go_num, fun j hj => by
          by_cases e : j = k
          · rw [e, Hxk.out]; omega
          · exact Ha.out j (by omega)⟩
        case measure => simp [intOf]; omega
    · have hall : ∀ x ∈ xs, x < p := by
        intro x hx
        obtain ⟨j, hj, rfl⟩ := List.mem_iff_getElem.1 hx
        have := Ha.out j (by omega)
        simpa [List.getD, List.getElem?_eq_getElem hj] using this
      have e : hasB p xs = rightB p := by
        unfold hasB
        rw [List.all_eq_true.2 (fun x hx => by simpa using hall x hx), Bool.and_true]
      have He := hid e; clear e hall
      go_wp2_with (go_at_call 21; refine (right_any _ _ h0 h1).mono ?_; rintro e w' ⟨rfl, rfl⟩)
      go_ret
      exact ⟨ret_bool He.out.symm, rfl⟩

theorem mod_less {p a : Int} (h0 : 0 ≤ a) (h : a < 2 * p) : a % p = if p ≤ a then a - p else a := by
  split
  · rw [← Int.sub_emod_right, Int.emod_eq_of_lt (by omega) (by omega)]
  · exact Int.emod_eq_of_lt h0 (by omega)

theorem half_lt {p a b : Int} (ha0 : 0 ≤ a) (ha : a ≤ 18446744073709551615) (hb0 : 0 ≤ b) (hb : b ≤ 18446744073709551615) (hp : 0 < p) (h : a < p ∨ b < p) : 0 ≤ a * b / 18446744073709551616 ∧ a * b / 18446744073709551616 < p := by
  have hab := Int.mul_nonneg ha0 hb0
  refine ⟨by omega, ?_⟩
  rcases h with h | h
  · have h1 := Int.mul_le_mul_of_nonneg_left hb ha0
    omega
  · have h1 := Int.mul_le_mul_of_nonneg_right ha hb0
    omega


theorem has_yes (p : Int) (v : Value) (xs : List Int) (w : World) (hv : Ints .u64 w v xs) (hx : U64s xs) (h : hasB p xs = true) :
    Calls Try.prog 22 #[.int .u64 p, v] w fun e w' => e = .returned (.bool true) ∧ w = w' := by
  have hp := rightB_true (hasB_true h).1
  exact (has_any p v xs w (by omega) (by omega) hv hx).mono fun e w' ⟨he, hw⟩ => ⟨by rw [he, h], hw⟩
theorem has_no (p : Int) (v : Value) (xs : List Int) (w : World) (h0 : 0 ≤ p) (h1 : p ≤ 18446744073709551615) (hv : Ints .u64 w v xs) (hx : U64s xs) (h : hasB p xs = false) :
    Calls Try.prog 22 #[.int .u64 p, v] w fun e w' => e = .returned (.bool false) ∧ w = w' :=
  (has_any p v xs w h0 h1 hv hx).mono fun e w' ⟨he, hw⟩ => ⟨by rw [he, h], hw⟩




theorem and_one (n : Int) (h0 : 0 ≤ n) (h : n ≤ 18446744073709551615) : bits .and .u64 n 1 = n % 2 := by
  rw [u64_and n 1 h0 (by omega) (by omega) (by omega)]
  show ((n.toNat &&& 1 : Nat) : Int) = n % 2
  rw [Nat.and_one_is_mod]; omega


/-! ### The same, where the answer has a name already. -/
theorem hasB_sub {p : Int} {xs ys : List Int} (h : hasB p xs = true) (hs : ∀ y ∈ ys, y ∈ xs) : hasB p ys = true :=
  hasB_mk (hasB_true h).1 fun y hy => (hasB_true h).2 y (hs y hy)
theorem hasB_take' {p : Int} {xs : List Int} (h : hasB p xs = true) (n : Nat) : hasB p (xs.take n) = true := hasB_sub h fun _ hy => List.mem_of_mem_take hy
theorem hasB_drop' {p : Int} {xs : List Int} (h : hasB p xs = true) (n : Nat) : hasB p (xs.drop n) = true := hasB_sub h fun _ hy => List.mem_of_mem_drop hy
/-- a number of p, under a name -/
theorem name_mod {p : Int} (a : Int) (hp : 2 ≤ p) : ∃ r, a % p = r ∧ 0 ≤ r ∧ r < p := ⟨_, rfl, mod_range a hp⟩
end Go.Proofs.Ytcganfmlfoebpaa
