/- What package field's functions answer. -/
import Derived.Test.YtlociefncogjeaaBits
import Derived.Test.YtlociefncogjeaaKit
import Derived.Test.YtlociefncogjeaaMod
namespace Go.Proofs.Ytlociefncogjeaa
open Go.RowKit

/-- may p be a modulus? -/
def rightB (p : Int) : Bool := decide (2 ≤ p ∧ p ≤ 9223372036854775807)
theorem rightB_true {p : Int} (h : rightB p = true) : 2 ≤ p ∧ p ≤ 9223372036854775807 := by simpa [rightB] using h
theorem rightB_mk {p : Int} (h : 2 ≤ p ∧ p ≤ 9223372036854775807) : rightB p = true := by simpa [rightB] using h
theorem rightB_false {p : Int} (h : ¬ (2 ≤ p ∧ p ≤ 9223372036854775807)) : rightB p = false := by simpa [rightB] using h
/-- may p be one, and are all numbers of it? -/
def hasB (p : Int) (xs : List Int) : Bool := rightB p && xs.all fun x => decide (x < p)
theorem hasB_true {p : Int} {xs : List Int} (h : hasB p xs = true) : rightB p = true ∧ ∀ x ∈ xs, x < p := by
  simpa [hasB] using h
theorem hasB_mk {p : Int} {xs : List Int} (h : rightB p = true) (h' : ∀ x ∈ xs, x < p) : hasB p xs = true := by
  simpa [hasB] using ⟨h, h'⟩
theorem hasB_one {p a : Int} (h : rightB p = true) (h' : a < p) : hasB p [a] = true := hasB_mk h (by simpa using h')
theorem hasB_two {p a b : Int} (h : rightB p = true) (h' : a < p) (h'' : b < p) : hasB p [a, b] = true := hasB_mk h (by simpa using ⟨h', h''⟩)
theorem hasB_no {p : Int} {xs : List Int} (k : Nat) (hk : k < xs.length) (h : p ≤ xs.getD k 0) : hasB p xs = false := by
  cases e : hasB p xs with
  | false => rfl
  | true =>
    have := (hasB_true e).2 (xs.getD k 0) (by simp [List.getD, List.getElem?_eq_getElem hk])
    omega

set_option maxHeartbeats 400000 in
theorem right_any (p : Int) (w : World) (h0 : 0 ≤ p) (h1 : p ≤ 18446744073709551615) :
    Calls Try.prog 50 #[.int .u64 p] w fun e w' => e = .returned (.bool (rightB p)) ∧ w = w' := by
  by_cases h : 2 ≤ p
  · by_cases h' : p < 9223372036854775808
    all_goals
      go_enter Try.func50, Try.ntmps50
      go_wp2
      go_ret
      exact ⟨ret_bool (by simp [rightB]; omega), rfl⟩
  · go_enter Try.func50, Try.ntmps50
    go_wp2
    go_ret
    exact ⟨ret_bool (by simp [rightB]; omega), rfl⟩

set_option maxHeartbeats 400000 in
theorem has_any (p : Int) (v : Value) (xs : List Int) (w : World) (h0 : 0 ≤ p) (h1 : p ≤ 18446744073709551615) (hv : Ints .u64 w v xs) (hx : U64s xs) :
    Calls Try.prog 33 #[.int .u64 p, v] w fun e w' => e = .returned (.bool (hasB p xs)) ∧ w = w' := by
  obtain ⟨a, cap, rfl, hc1, hc2, hc⟩ := hv
  have Hc := hid hc; clear hc
  have Hx := hid hx; clear hx
  go_enter Try.func33, Try.ntmps33
  go_wp2_with (go_at_call 50; refine (right_any _ _ h0 h1).mono ?_; rintro e w' ⟨rfl, rfl⟩)
  go_loop [9] (fun i => ∃ k : Nat, k ≤ xs.length ∧ i = .int .i64 k ∧ ∀ j, j < k → xs.getD j 0 < p) (fun i => xs.length - (intOf i).toNat)
  case atStart => exact ⟨0, Nat.zero_le _, rfl, by simp⟩
  case round =>
    obtain ⟨k, hk, rfl, hall⟩ := hrel
    have Ha := hid hall; clear hall
    by_cases hlt : k < xs.length
    · obtain ⟨b, off, rfl, hb, hcell⟩ := Hc.out (by omega)
      have g := hcell k hlt
      have hg := U64s.get Hx.out hlt
      clear hcell
      have hn := hasB_no (p := p) k hlt
      generalize hxk : xs.getD k 0 = x at g hg hn
      have Hxk := hid hxk; clear hxk
      have Hn := hid hn; clear hn Hc
      by_cases hp : p ≤ x
      · replace Hn := hid (Hn.out hp)
        go_wp2
        go_ret
        exact ⟨ret_bool (by rw [Hn.out]), rfl⟩
      · go_wp2
        go_round
        case rel => exact ⟨k + 1, by omega, by go_num, fun j hj => by
          by_cases e : j = k
          · rw [e, Hxk.out]; omega
          · exact Ha.out j (by omega)⟩
        case measure => simp [intOf]; omega
    · have hall : ∀ x ∈ xs, x < p := by
        intro x hx
        obtain ⟨j, hj, rfl⟩ := List.mem_iff_getElem.1 hx
        have := Ha.out j (by omega)
        simpa [List.getD, List.getElem?_eq_getElem hj] using this
      have e : hasB p xs = rightB p := by
        unfold hasB
        rw [List.all_eq_true.2 (fun x hx => by simpa using hall x hx), Bool.and_true]
      have He := hid e; clear e hall
      go_wp2_with (go_at_call 50; refine (right_any _ _ h0 h1).mono ?_; rintro e w' ⟨rfl, rfl⟩)
      go_ret
      exact ⟨ret_bool He.out.symm, rfl⟩

theorem mod_less {p a : Int} (h0 : 0 ≤ a) (h : a < 2 * p) : a % p = if p ≤ a then a - p else a := by
  split
  · rw [← Int.sub_emod_right, Int.emod_eq_of_lt (by omega) (by omega)]
  · exact Int.emod_eq_of_lt h0 (by omega)

set_option maxHeartbeats 400000 in
theorem less_any (p a : Int) (w : World) (hp0 : 0 < p) (hp : p ≤ 9223372036854775807) (ha0 : 0 ≤ a) (ha : a < 2 * p) :
    Calls Try.prog 53 #[.int .u64 p, .int .u64 a] w fun e w' => e = .returned (.int .u64 (a % p)) ∧ w = w' := by
  have hm := mod_less ha0 ha
  by_cases h : p ≤ a
  · rw [if_pos h] at hm
    have Hm := hid hm; clear hm
    go_enter Try.func53, Try.ntmps53
    go_wp2
    go_ret
    exact ⟨ret_int Hm.out.symm, rfl⟩
  · rw [if_neg h] at hm
    have Hm := hid hm; clear hm
    go_enter Try.func53, Try.ntmps53
    go_wp2
    go_ret
    exact ⟨ret_int Hm.out.symm, rfl⟩

set_option maxHeartbeats 400000 in
theorem left_any (p hi lo : Int) (w : World) (h0 : 0 ≤ hi) (h1 : hi < p) (hp : p ≤ 18446744073709551615) (hl0 : 0 ≤ lo) (hl : lo ≤ 18446744073709551615) :
    Calls Try.prog 54 #[.int .u64 p, .int .u64 hi, .int .u64 lo] w fun e w' => e = .returned (.int .u64 ((hi * 18446744073709551616 + lo) % p)) ∧ ∃ n, w' = w.drewN n := by
  by_cases h : 0 < hi
  · go_enter Try.func54, Try.ntmps54
    go_wp2_with (go_at_call 60; refine (div64_hi _ _ _ _ h h1 hp hl0 hl).mono ?_; rintro e w' ⟨rfl, rfl⟩)
    go_ret
    exact ⟨rfl, 0, rfl⟩
  · obtain rfl : hi = 0 := by omega
    go_enter Try.func54, Try.ntmps54
    go_wp2_with (go_at_call 60; refine (div64_lo _ _ _ (by omega) hp hl0 hl).mono ?_; rintro e w' ⟨rfl, n, rfl⟩)
    go_ret
    exact ⟨ret_int (by simp), n, rfl⟩

theorem half_lt {p a b : Int} (ha0 : 0 ≤ a) (ha : a ≤ 18446744073709551615) (hb0 : 0 ≤ b) (hb : b ≤ 18446744073709551615) (hp : 0 < p) (h : a < p ∨ b < p) : 0 ≤ a * b / 18446744073709551616 ∧ a * b / 18446744073709551616 < p := by
  have hab := Int.mul_nonneg ha0 hb0
  refine ⟨by omega, ?_⟩
  rcases h with h | h
  · have h1 := Int.mul_le_mul_of_nonneg_left hb ha0
    omega
  · have h1 := Int.mul_le_mul_of_nonneg_right ha hb0
    omega

set_option maxHeartbeats 400000 in
theorem times_any (p a b : Int) (w : World) (hp0 : 0 < p) (hp : p ≤ 18446744073709551615) (ha0 : 0 ≤ a) (ha : a ≤ 18446744073709551615) (hb0 : 0 ≤ b) (hb : b ≤ 18446744073709551615) (h : a < p ∨ b < p) :
    Calls Try.prog 57 #[.int .u64 p, .int .u64 a, .int .u64 b] w fun e w' => e = .returned (.int .u64 (a * b % p)) ∧ ∃ n, w' = w.drewN n := by
  have hh := half_lt ha0 ha hb0 hb hp0 h
  have h2 : 0 ≤ a * b % 18446744073709551616 ∧ a * b % 18446744073709551616 ≤ 18446744073709551615 := by omega
  have h3 := Int.ediv_mul_add_emod (a * b) 18446744073709551616
  have H3 := hid h3; clear h3
  go_enter Try.func57, Try.ntmps57
  go_wp2_with (first
    | (go_at_call 51; refine (mul64_any _ _ _ ha0 ha hb0 hb).mono ?_; rintro e w' ⟨rfl, rfl⟩)
    | (go_at_call 54; refine (left_any _ _ _ _ hh.1 hh.2 hp h2.1 h2.2).mono ?_; rintro e w' ⟨rfl, n, rfl⟩))
  go_ret
  exact ⟨ret_int (by rw [H3.out]), n, rfl⟩

theorem has_yes (p : Int) (v : Value) (xs : List Int) (w : World) (hv : Ints .u64 w v xs) (hx : U64s xs) (h : hasB p xs = true) :
    Calls Try.prog 33 #[.int .u64 p, v] w fun e w' => e = .returned (.bool true) ∧ w = w' := by
  have hp := rightB_true (hasB_true h).1
  exact (has_any p v xs w (by omega) (by omega) hv hx).mono fun e w' ⟨he, hw⟩ => ⟨by rw [he, h], hw⟩
theorem has_no (p : Int) (v : Value) (xs : List Int) (w : World) (h0 : 0 ≤ p) (h1 : p ≤ 18446744073709551615) (hv : Ints .u64 w v xs) (hx : U64s xs) (h : hasB p xs = false) :
    Calls Try.prog 33 #[.int .u64 p, v] w fun e w' => e = .returned (.bool false) ∧ w = w' :=
  (has_any p v xs w h0 h1 hv hx).mono fun e w' ⟨he, hw⟩ => ⟨by rw [he, h], hw⟩

set_option maxHeartbeats 400000 in
theorem add_yes (p a b : Int) (w : World) (hp : rightB p = true) (ha0 : 0 ≤ a) (ha : a < p) (hb0 : 0 ≤ b) (hb : b < p) :
    Calls Try.prog 47 #[.int .u64 p, .int .u64 a, .int .u64 b] w (Ret (.tuple #[.int .u64 ((a + b) % p), .int .i64 0]) w) := by
  have hp2 := rightB_true hp
  have hh := hid (hasB_two hp ha hb)
  clear hp
  go_enter Try.func47, Try.ntmps47
  go_wp2_with fail
  refine (has_yes _ _ [a, b] _ Ints.new2 (U64s.cons (by omega) (by omega) (U64s.one (by omega) (by omega))) hh.out).mono ?_
  rintro e w' ⟨rfl, rfl⟩
  go_wp2_with fail
  refine (less_any _ _ _ (by omega) (by omega) (by omega) (by omega)).mono ?_; rintro e w' ⟨rfl, rfl⟩
  go_wp2_with fail
  go_ret2
  exact ⟨rfl, (by repeat (first | exact Ext.refl _ | assumption | refine Ext.drew ?_ | refine Ext.drewN ?_ _ | refine Ext.alloc ?_ _ | refine Ext.trans ?_ (by assumption)))⟩
set_option maxHeartbeats 400000 in
theorem add_no (p a b : Int) (w : World) (hp0 : 0 ≤ p) (hp : p ≤ 18446744073709551615) (ha0 : 0 ≤ a) (ha : a ≤ 18446744073709551615) (hb0 : 0 ≤ b) (hb : b ≤ 18446744073709551615) (h : hasB p [a, b] = false) :
    Calls Try.prog 47 #[.int .u64 p, .int .u64 a, .int .u64 b] w (Ret (.tuple #[.int .u64 0, .int .i64 1]) w) := by
  have hh := hid h
  clear h
  go_enter Try.func47, Try.ntmps47
  go_wp2_with fail
  refine (has_no _ _ [a, b] _ hp0 hp Ints.new2 (U64s.cons ha0 ha (U64s.one hb0 hb)) hh.out).mono ?_
  rintro e w' ⟨rfl, rfl⟩
  go_wp2_with fail
  go_ret2
  exact ⟨rfl, (by repeat (first | exact Ext.refl _ | assumption | refine Ext.drew ?_ | refine Ext.drewN ?_ _ | refine Ext.alloc ?_ _ | refine Ext.trans ?_ (by assumption)))⟩


set_option maxHeartbeats 400000 in
theorem mul_yes (p a b : Int) (w : World) (hp : rightB p = true) (ha0 : 0 ≤ a) (ha : a < p) (hb0 : 0 ≤ b) (hb : b < p) :
    Calls Try.prog 46 #[.int .u64 p, .int .u64 a, .int .u64 b] w (Ret (.tuple #[.int .u64 (a * b % p), .int .i64 0]) w) := by
  have hp2 := rightB_true hp
  have hh := hid (hasB_two hp ha hb)
  clear hp
  go_enter Try.func46, Try.ntmps46
  go_wp2_with fail
  refine (has_yes _ _ [a, b] _ Ints.new2 (U64s.cons (by omega) (by omega) (U64s.one (by omega) (by omega))) hh.out).mono ?_
  rintro e w' ⟨rfl, rfl⟩
  go_wp2_with fail
  refine (times_any _ _ _ _ (by omega) (by omega) (by omega) (by omega) (by omega) (by omega) (.inl ha)).mono ?_; rintro e w' ⟨rfl, n, rfl⟩
  go_wp2_with fail
  go_ret2
  exact ⟨rfl, (by repeat (first | exact Ext.refl _ | assumption | refine Ext.drew ?_ | refine Ext.drewN ?_ _ | refine Ext.alloc ?_ _ | refine Ext.trans ?_ (by assumption)))⟩
set_option maxHeartbeats 400000 in
theorem mul_no (p a b : Int) (w : World) (hp0 : 0 ≤ p) (hp : p ≤ 18446744073709551615) (ha0 : 0 ≤ a) (ha : a ≤ 18446744073709551615) (hb0 : 0 ≤ b) (hb : b ≤ 18446744073709551615) (h : hasB p [a, b] = false) :
    Calls Try.prog 46 #[.int .u64 p, .int .u64 a, .int .u64 b] w (Ret (.tuple #[.int .u64 0, .int .i64 1]) w) := by
  have hh := hid h
  clear h
  go_enter Try.func46, Try.ntmps46
  go_wp2_with fail
  refine (has_no _ _ [a, b] _ hp0 hp Ints.new2 (U64s.cons ha0 ha (U64s.one hb0 hb)) hh.out).mono ?_
  rintro e w' ⟨rfl, rfl⟩
  go_wp2_with fail
  go_ret2
  exact ⟨rfl, (by repeat (first | exact Ext.refl _ | assumption | refine Ext.drew ?_ | refine Ext.drewN ?_ _ | refine Ext.alloc ?_ _ | refine Ext.trans ?_ (by assumption)))⟩

theorem and_one (n : Int) (h0 : 0 ≤ n) (h : n ≤ 18446744073709551615) : bits .and .u64 n 1 = n % 2 := by
  rw [u64_and n 1 h0 (by omega) (by omega) (by omega)]
  show ((n.toNat &&& 1 : Nat) : Int) = n % 2
  rw [Nat.and_one_is_mod]; omega


/-! ### The same, where the answer has a name already. -/
theorem add_as (p a b r : Int) (w : World) (hp : rightB p = true) (ha0 : 0 ≤ a) (ha : a < p) (hb0 : 0 ≤ b) (hb : b < p) (h : (a + b) % p = r) :
    Calls Try.prog 47 #[.int .u64 p, .int .u64 a, .int .u64 b] w (Ret (.tuple #[.int .u64 r, .int .i64 0]) w) := h ▸ add_yes p a b w hp ha0 ha hb0 hb
theorem mul_as (p a b r : Int) (w : World) (hp : rightB p = true) (ha0 : 0 ≤ a) (ha : a < p) (hb0 : 0 ≤ b) (hb : b < p) (h : a * b % p = r) :
    Calls Try.prog 46 #[.int .u64 p, .int .u64 a, .int .u64 b] w (Ret (.tuple #[.int .u64 r, .int .i64 0]) w) := h ▸ mul_yes p a b w hp ha0 ha hb0 hb
theorem hasB_sub {p : Int} {xs ys : List Int} (h : hasB p xs = true) (hs : ∀ y ∈ ys, y ∈ xs) : hasB p ys = true :=
  hasB_mk (hasB_true h).1 fun y hy => (hasB_true h).2 y (hs y hy)
theorem hasB_take' {p : Int} {xs : List Int} (h : hasB p xs = true) (n : Nat) : hasB p (xs.take n) = true := hasB_sub h fun _ hy => List.mem_of_mem_take hy
theorem hasB_drop' {p : Int} {xs : List Int} (h : hasB p xs = true) (n : Nat) : hasB p (xs.drop n) = true := hasB_sub h fun _ hy => List.mem_of_mem_drop hy
/-- a number of p, under a name -/
theorem name_mod {p : Int} (a : Int) (hp : 2 ≤ p) : ∃ r, a % p = r ∧ 0 ≤ r ∧ r < p := ⟨_, rfl, mod_range a hp⟩
end Go.Proofs.Ytlociefncogjeaa
