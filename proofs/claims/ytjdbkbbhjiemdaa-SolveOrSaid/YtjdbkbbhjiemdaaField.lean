/- What package field's functions answer. -/
import Derived.Test.YtjdbkbbhjiemdaaBits
import Derived.Test.YtjdbkbbhjiemdaaKit
import Derived.Test.YtjdbkbbhjiemdaaMod
namespace Go.Proofs.Ytjdbkbbhjiemdaa
open Go.RowKit

/-- may p be a modulus? -/
def rightB (p : Int) : Bool := decide (2 ≤ p ∧ p ≤ 9223372036854775807)
theorem rightB_true {p : Int} (h : rightB p = true) : 2 ≤ p ∧ p ≤ 9223372036854775807 := by simpa [rightB] using h
theorem rightB_mk {p : Int} (h : 2 ≤ p ∧ p ≤ 9223372036854775807) : rightB p = true := by simpa [rightB] using h
theorem rightB_false {p : Int} (h : ¬ (2 ≤ p ∧ p ≤ 9223372036854775807)) : rightB p = false := by simpa [rightB] using h
/-- may p be one, and are all numbers of it? -/
def hasB (p : Int) (xs : List Int) : Bool := rightB p && xs.all fun x => decide (x < p)
theorem hasB_true {p : Int} {xs : List Int} (h : hasB p xs = true) : rightB p = true ∧ ∀ x ∈ xs, x < p := by
  simpa [hasB] using h
theorem hasB_mk {p : Int} {xs : List Int} (h : rightB p = true) (h' : ∀ x ∈ xs, x < p) : hasB p xs = true := by
  simpa [hasB] using ⟨h, h'⟩
theorem hasB_one {p a : Int} (h : rightB p = true) (h' : a < p) : hasB p [a] = true := hasB_mk h (by simpa using h')
theorem hasB_two {p a b : Int} (h : rightB p = true) (h' : a < p) (h'' : b < p) : hasB p [a, b] = true := hasB_mk h (by simpa using ⟨h', h''⟩)
theorem hasB_no {p : Int} {xs : List Int} (k : Nat) (hk : k < xs.length) (h : p ≤ xs.getD k 0) : hasB p xs = false := by
  cases e : hasB p xs with
  | false => rfl
  | true =>
    have := (hasB_true e).2 (xs.getD k 0) (by simp [List.getD, List.getElem?_eq_getElem hk])
    omega

set_option maxHeartbeats 400000 in
theorem right_any (p : Int) (w : World) (h0 : 0 ≤ p) (h1 : p ≤ 18446744073709551615) :
    Calls Try.prog 56 #[.int .u64 p] w fun e w' => e = .returned (.bool (rightB p)) ∧ w = w' := by
  by_cases h : 2 ≤ p
  · by_cases h' : p < 9223372036854775808
    all_goals
      go_enter Try.func56, Try.ntmps56
      go_wp2
      go_ret
      exact ⟨ret_bool (by simp [rightB]; omega), rfl⟩
  · go_enter Try.func56, Try.ntmps56
    go_wp2
    go_ret
    exact ⟨ret_bool (by simp [rightB]; omega), rfl⟩

set_option maxHeartbeats 400000 in
theorem has_any (p : Int) (v : Value) (xs : List Int) (w : World) (h0 : 0 ≤ p) (h1 : p ≤ 18446744073709551615) (hv : Ints .u64 w v xs) (hx : U64s xs) :
    Calls Try.prog 24 #[.int .u64 p, v] w fun e w' => e = .returned (.bool (hasB p xs)) ∧ w = w' := by
  obtain ⟨a, cap, rfl, hc1, hc2, hc⟩ := hv
  have Hc := hid hc; clear hc
  have Hx := hid hx; clear hx
  go_enter Try.func24, Try.ntmps24
  go_wp2_with (go_at_call 56; refine (right_any _ _ h0 h1).mono ?_; rintro e w' ⟨rfl, rfl⟩)
  go_loop [9] (fun i => ∃ k : Nat, k ≤ xs.length ∧ i = .int .i64 k ∧ ∀ j, j < k → xs.getD j 0 < p) (fun i => xs.length - (intOf i).toNat)
  case atStart => exact ⟨0, Nat.zero_le _, rfl, by simp⟩
  case round =>
    obtain ⟨k, hk, rfl, hall⟩ := hrel
    have Ha := hid hall; clear hall
    by_cases hlt : k < xs.length
    · obtain ⟨b, off, rfl, hb, hcell⟩ := Hc.out (by omega)
      have g := hcell k hlt
      have hg := U64s.get Hx.out hlt
      clear hcell
      have hn := hasB_no (p := p) k hlt
      generalize hxk : xs.getD k 0 = x at g hg hn
      have Hxk := hid hxk; clear hxk
      have Hn := hid hn; clear hn Hc
      by_cases hp : p ≤ x
      · replace Hn := hid (Hn.out hp)
        go_wp2
        go_ret
        exact ⟨ret_bool (by rw [Hn.out]), rfl⟩
      · go_wp2
        go_round
        case rel => exact ⟨k + 1, by omega, by go_num, fun j hj => by
          by_cases e : j = k
          · rw [e, Hxk.out]; omega
          · exact Ha.out j (by omega)⟩
        case measure => simp [intOf]; omega
    · have hall : ∀ x ∈ xs, x < p := by
        intro x hx
        obtain ⟨j, hj, rfl⟩ := List.mem_iff_getElem.1 hx
        have := Ha.out j (by omega)
        simpa [List.getD, List.getElem?_eq_getElem hj] using this
      have e : hasB p xs = rightB p := by
        unfold hasB
        rw [List.all_eq_true.2 (fun x hx => by simpa using hall x hx), Bool.and_true]
      have He := hid e; clear e hall
      go_wp2_with (go_at_call 56; refine (right_any _ _ h0 h1).mono ?_; rintro e w' ⟨rfl, rfl⟩)
      go_ret
      exact ⟨ret_bool He.out.symm, rfl⟩

theorem mod_less {p a : Int} (h0 : 0 ≤ a) (h : a < 2 * p) : a % p = if p ≤ a then a - p else a := by
  split
  · rw [← Int.sub_emod_right, Int.emod_eq_of_lt (by omega) (by omega)]
  · exact Int.emod_eq_of_lt h0 (by omega)

set_option maxHeartbeats 400000 in
theorem less_any (p a : Int) (w : World) (hp0 : 0 < p) (hp : p ≤ 9223372036854775807) (ha0 : 0 ≤ a) (ha : a < 2 * p) :
    Calls Try.prog 62 #[.int .u64 p, .int .u64 a] w fun e w' => e = .returned (.int .u64 (a % p)) ∧ w = w' := by
  have hm := mod_less ha0 ha
  by_cases h : p ≤ a
  · rw [if_pos h] at hm
    have Hm := hid hm; clear hm
    go_enter Try.func62, Try.ntmps62
    go_wp2
    go_ret
    exact ⟨ret_int Hm.out.symm, rfl⟩
  · rw [if_neg h] at hm
    have Hm := hid hm; clear hm
    go_enter Try.func62, Try.ntmps62
    go_wp2
    go_ret
    exact ⟨ret_int Hm.out.symm, rfl⟩

set_option maxHeartbeats 400000 in
theorem left_any (p hi lo : Int) (w : World) (h0 : 0 ≤ hi) (h1 : hi < p) (hp : p ≤ 18446744073709551615) (hl0 : 0 ≤ lo) (hl : lo ≤ 18446744073709551615) :
    Calls Try.prog 63 #[.int .u64 p, .int .u64 hi, .int .u64 lo] w fun e w' => e = .returned (.int .u64 ((hi * 18446744073709551616 + lo) % p)) ∧ ∃ n, w' = w.drewN n := by
  by_cases h : 0 < hi
  · go_enter Try.func63, Try.ntmps63
    go_wp2_with (go_at_call 80; refine (div64_hi _ _ _ _ h h1 hp hl0 hl).mono ?_; rintro e w' ⟨rfl, rfl⟩)
    go_ret
    exact ⟨rfl, 0, rfl⟩
  · obtain rfl : hi = 0 := by omega
    go_enter Try.func63, Try.ntmps63
    go_wp2_with (go_at_call 80; refine (div64_lo _ _ _ (by omega) hp hl0 hl).mono ?_; rintro e w' ⟨rfl, n, rfl⟩)
    go_ret
    exact ⟨ret_int (by simp), n, rfl⟩

theorem half_lt {p a b : Int} (ha0 : 0 ≤ a) (ha : a ≤ 18446744073709551615) (hb0 : 0 ≤ b) (hb : b ≤ 18446744073709551615) (hp : 0 < p) (h : a < p ∨ b < p) : 0 ≤ a * b / 18446744073709551616 ∧ a * b / 18446744073709551616 < p := by
  have hab := Int.mul_nonneg ha0 hb0
  refine ⟨by omega, ?_⟩
  rcases h with h | h
  · have h1 := Int.mul_le_mul_of_nonneg_left hb ha0
    omega
  · have h1 := Int.mul_le_mul_of_nonneg_right ha hb0
    omega

set_option maxHeartbeats 400000 in
theorem times_any (p a b : Int) (w : World) (hp0 : 0 < p) (hp : p ≤ 18446744073709551615) (ha0 : 0 ≤ a) (ha : a ≤ 18446744073709551615) (hb0 : 0 ≤ b) (hb : b ≤ 18446744073709551615) (h : a < p ∨ b < p) :
    Calls Try.prog 71 #[.int .u64 p, .int .u64 a, .int .u64 b] w fun e w' => e = .returned (.int .u64 (a * b % p)) ∧ ∃ n, w' = w.drewN n := by
  have hh := half_lt ha0 ha hb0 hb hp0 h
  have h2 : 0 ≤ a * b % 18446744073709551616 ∧ a * b % 18446744073709551616 ≤ 18446744073709551615 := by omega
  have h3 := Int.ediv_mul_add_emod (a * b) 18446744073709551616
  have H3 := hid h3; clear h3
  go_enter Try.func71, Try.ntmps71
  go_wp2_with (first
    | (go_at_call 60; refine (mul64_any _ _ _ ha0 ha hb0 hb).mono ?_; rintro e w' ⟨rfl, rfl⟩)
    | (go_at_call 63; refine (left_any _ _ _ _ hh.1 hh.2 hp h2.1 h2.2).mono ?_; rintro e w' ⟨rfl, n, rfl⟩))
  go_ret
  exact ⟨ret_int (by rw [H3.out]), n, rfl⟩

theorem has_yes (p : Int) (v : Value) (xs : List Int) (w : World) (hv : Ints .u64 w v xs) (hx : U64s xs) (h : hasB p xs = true) :
    Calls Try.prog 24 #[.int .u64 p, v] w fun e w' => e = .returned (.bool true) ∧ w = w' := by
  have hp := rightB_true (hasB_true h).1
  exact (has_any p v xs w (by omega) (by omega) hv hx).mono fun e w' ⟨he, hw⟩ => ⟨by rw [he, h], hw⟩
theorem has_no (p : Int) (v : Value) (xs : List Int) (w : World) (h0 : 0 ≤ p) (h1 : p ≤ 18446744073709551615) (hv : Ints .u64 w v xs) (hx : U64s xs) (h : hasB p xs = false) :
    Calls Try.prog 24 #[.int .u64 p, v] w fun e w' => e = .returned (.bool false) ∧ w = w' :=
  (has_any p v xs w h0 h1 hv hx).mono fun e w' ⟨he, hw⟩ => ⟨by rw [he, h], hw⟩

set_option maxHeartbeats 400000 in
theorem add_yes (p a b : Int) (w : World) (hp : rightB p = true) (ha0 : 0 ≤ a) (ha : a < p) (hb0 : 0 ≤ b) (hb : b < p) :
    Calls Try.prog 36 #[.int .u64 p, .int .u64 a, .int .u64 b] w (Ret (.tuple #[.int .u64 ((a + b) % p), .int .i64 0]) w) := by
  have hp2 := rightB_true hp
  have hh := hid (hasB_two hp ha hb)
  clear hp
  go_enter Try.func36, Try.ntmps36
  go_wp2_with fail
  refine (has_yes _ _ [a, b] _ Ints.new2 (U64s.cons (by omega) (by omega) (U64s.one (by omega) (by omega))) hh.out).mono ?_
  rintro e w' ⟨rfl, rfl⟩
  go_wp2_with fail
  refine (less_any _ _ _ (by omega) (by omega) (by omega) (by omega)).mono ?_; rintro e w' ⟨rfl, rfl⟩
  go_wp2_with fail
  go_ret2
  exact ⟨rfl, (by repeat (first | exact Ext.refl _ | assumption | refine Ext.drew ?_ | refine Ext.drewN ?_ _ | refine Ext.alloc ?_ _ | refine Ext.trans ?_ (by assumption)))⟩
set_option maxHeartbeats 400000 in
theorem add_no (p a b : Int) (w : World) (hp0 : 0 ≤ p) (hp : p ≤ 18446744073709551615) (ha0 : 0 ≤ a) (ha : a ≤ 18446744073709551615) (hb0 : 0 ≤ b) (hb : b ≤ 18446744073709551615) (h : hasB p [a, b] = false) :
    Calls Try.prog 36 #[.int .u64 p, .int .u64 a, .int .u64 b] w (Ret (.tuple #[.int .u64 0, .int .i64 1]) w) := by
  have hh := hid h
  clear h
  go_enter Try.func36, Try.ntmps36
  go_wp2_with fail
  refine (has_no _ _ [a, b] _ hp0 hp Ints.new2 (U64s.cons ha0 ha (U64s.one hb0 hb)) hh.out).mono ?_
  rintro e w' ⟨rfl, rfl⟩
  go_wp2_with fail
  go_ret2
  exact ⟨rfl, (by repeat (first | exact Ext.refl _ | assumption | refine Ext.drew ?_ | refine Ext.drewN ?_ _ | refine Ext.alloc ?_ _ | refine Ext.trans ?_ (by assumption)))⟩

set_option maxHeartbeats 400000 in
theorem sub_yes (p a b : Int) (w : World) (hp : rightB p = true) (ha0 : 0 ≤ a) (ha : a < p) (hb0 : 0 ≤ b) (hb : b < p) :
    Calls Try.prog 68 #[.int .u64 p, .int .u64 a, .int .u64 b] w (Ret (.tuple #[.int .u64 ((a - b) % p), .int .i64 0]) w) := by
  have hp2 := rightB_true hp
  have hh := hid (hasB_two hp ha hb)
  have e1 : (a + p - b) % p = (a - b) % p := by rw [show a + p - b = a - b + p by omega, Int.add_emod_right]
  have E1 := hid e1; clear e1
  clear hp
  go_enter Try.func68, Try.ntmps68
  go_wp2_with fail
  refine (has_yes _ _ [a, b] _ Ints.new2 (U64s.cons (by omega) (by omega) (U64s.one (by omega) (by omega))) hh.out).mono ?_
  rintro e w' ⟨rfl, rfl⟩
  go_wp2_with fail
  refine (less_any _ _ _ (by omega) (by omega) (by omega) (by omega)).mono ?_; rintro e w' ⟨rfl, rfl⟩
  go_wp2_with fail
  go_ret2
  exact ⟨by rw [← E1.out]; rfl, (by repeat (first | exact Ext.refl _ | assumption | refine Ext.drew ?_ | refine Ext.drewN ?_ _ | refine Ext.alloc ?_ _ | refine Ext.trans ?_ (by assumption)))⟩
set_option maxHeartbeats 400000 in
theorem sub_no (p a b : Int) (w : World) (hp0 : 0 ≤ p) (hp : p ≤ 18446744073709551615) (ha0 : 0 ≤ a) (ha : a ≤ 18446744073709551615) (hb0 : 0 ≤ b) (hb : b ≤ 18446744073709551615) (h : hasB p [a, b] = false) :
    Calls Try.prog 68 #[.int .u64 p, .int .u64 a, .int .u64 b] w (Ret (.tuple #[.int .u64 0, .int .i64 1]) w) := by
  have hh := hid h
  clear h
  go_enter Try.func68, Try.ntmps68
  go_wp2_with fail
  refine (has_no _ _ [a, b] _ hp0 hp Ints.new2 (U64s.cons ha0 ha (U64s.one hb0 hb)) hh.out).mono ?_
  rintro e w' ⟨rfl, rfl⟩
  go_wp2_with fail
  go_ret2
  exact ⟨rfl, (by repeat (first | exact Ext.refl _ | assumption | refine Ext.drew ?_ | refine Ext.drewN ?_ _ | refine Ext.alloc ?_ _ | refine Ext.trans ?_ (by assumption)))⟩

set_option maxHeartbeats 400000 in
theorem mul_yes (p a b : Int) (w : World) (hp : rightB p = true) (ha0 : 0 ≤ a) (ha : a < p) (hb0 : 0 ≤ b) (hb : b < p) :
    Calls Try.prog 66 #[.int .u64 p, .int .u64 a, .int .u64 b] w (Ret (.tuple #[.int .u64 (a * b % p), .int .i64 0]) w) := by
  have hp2 := rightB_true hp
  have hh := hid (hasB_two hp ha hb)
  clear hp
  go_enter Try.func66, Try.ntmps66
  go_wp2_with fail
  refine (has_yes _ _ [a, b] _ Ints.new2 (U64s.cons (by omega) (by omega) (U64s.one (by omega) (by omega))) hh.out).mono ?_
  rintro e w' ⟨rfl, rfl⟩
  go_wp2_with fail
  refine (times_any _ _ _ _ (by omega) (by omega) (by omega) (by omega) (by omega) (by omega) (.inl ha)).mono ?_; rintro e w' ⟨rfl, n, rfl⟩
  go_wp2_with fail
  go_ret2
  exact ⟨rfl, (by repeat (first | exact Ext.refl _ | assumption | refine Ext.drew ?_ | refine Ext.drewN ?_ _ | refine Ext.alloc ?_ _ | refine Ext.trans ?_ (by assumption)))⟩
set_option maxHeartbeats 400000 in
theorem mul_no (p a b : Int) (w : World) (hp0 : 0 ≤ p) (hp : p ≤ 18446744073709551615) (ha0 : 0 ≤ a) (ha : a ≤ 18446744073709551615) (hb0 : 0 ≤ b) (hb : b ≤ 18446744073709551615) (h : hasB p [a, b] = false) :
    Calls Try.prog 66 #[.int .u64 p, .int .u64 a, .int .u64 b] w (Ret (.tuple #[.int .u64 0, .int .i64 1]) w) := by
  have hh := hid h
  clear h
  go_enter Try.func66, Try.ntmps66
  go_wp2_with fail
  refine (has_no _ _ [a, b] _ hp0 hp Ints.new2 (U64s.cons ha0 ha (U64s.one hb0 hb)) hh.out).mono ?_
  rintro e w' ⟨rfl, rfl⟩
  go_wp2_with fail
  go_ret2
  exact ⟨rfl, (by repeat (first | exact Ext.refl _ | assumption | refine Ext.drew ?_ | refine Ext.drewN ?_ _ | refine Ext.alloc ?_ _ | refine Ext.trans ?_ (by assumption)))⟩

theorem and_one (n : Int) (h0 : 0 ≤ n) (h : n ≤ 18446744073709551615) : bits .and .u64 n 1 = n % 2 := by
  rw [u64_and n 1 h0 (by omega) (by omega) (by omega)]
  show ((n.toNat &&& 1 : Nat) : Int) = n % 2
  rw [Nat.and_one_is_mod]; omega


set_option maxHeartbeats 400000 in
theorem inv_both (p a : Int) (w : World) (hp : rightB p = true) (ha0 : 0 ≤ a) (ha : a < p) :
    Calls Try.prog 34 #[.int .u64 p, .int .u64 a] w (Ret (if unitB p a then .tuple #[.int .u64 (minv p a), .int .i64 0] else .tuple #[.int .u64 0, .int .i64 5]) w) := by
  have hp2 := rightB_true hp
  have hh := hid (hasB_one hp ha)
  clear hp
  generalize hR : (if unitB p a then Value.tuple #[.int .u64 (minv p a), .int .i64 0] else .tuple #[.int .u64 0, .int .i64 5]) = R
  have HR := hid hR; clear hR
  go_enter Try.func34, Try.ntmps34
  go_wp2_with fail
  refine (has_yes _ _ [a] _ Ints.new1 (U64s.one (by omega) (by omega)) hh.out).mono ?_
  rintro e w' ⟨rfl, rfl⟩
  go_wp2_with fail
  go_loopw [6, 7, 8, 9] (fun v6 v7 v8 v9 wr => ∃ l n s t : Int, v6 = .int .u64 l ∧ v7 = .int .u64 n ∧ v8 = .int .u64 s ∧ v9 = .int .u64 t ∧ 0 < l ∧ l ≤ p ∧ 0 ≤ n ∧ n < l ∧ 0 ≤ s ∧ s < p ∧ 0 ≤ t ∧ t < p ∧
    a * s % p = l % p ∧ a * t % p = n % p ∧ Int.gcd l n = Int.gcd p a ∧ Ext w wr) (fun _ v7 _ _ _ => (intOf v7).toNat)
  case atStart => exact ⟨p, a, 0, 1, rfl, rfl, rfl, rfl, by omega, by omega, ha0, ha, by omega, by omega, by omega, by omega, by simp, by simp, rfl, (by repeat (first | exact Ext.refl _ | assumption | refine Ext.drew ?_ | refine Ext.drewN ?_ _ | refine Ext.alloc ?_ _ | refine Ext.trans ?_ (by assumption)))⟩
  case round =>
    obtain ⟨l, n, s, t, rfl, rfl, rfl, rfl, hl0, hl, hn0, hn, hs0, hs, ht0, ht, h1, h2, h3, hw⟩ := hrel
    have H1 := hid h1; have H2 := hid h2; have H3 := hid h3; clear h1 h2 h3
    by_cases h0 : 0 < n
    · have hq0 : 0 ≤ l / n := Int.ediv_nonneg (by omega) (by omega)
      have hq1 : l / n ≤ l := Int.ediv_le_self _ (by omega)
      have hm := Int.emod_nonneg l (show n ≠ 0 by omega)
      have hm2 := Int.emod_lt_of_pos l h0
      have hn1 : n ≠ 0 := by omega
      have r1 := mod_range (l / n * t) hp2.1
      have r2 := mod_range (s + p - l / n * t) hp2.1
      have e1 : (s + p - l / n * t) % p = (s - l / n * t) % p := by rw [show s + p - l / n * t = s - l / n * t + p by omega, Int.add_emod_right]
      have E1 := hid e1; clear e1
      have hrd := inv_round H1.out H2.out
      rw [← E1.out] at hrd
      have Hrd := hid hrd; clear hrd
      have hgs := gcd_step (a := l) (b := n) (by omega) hn0
      have Hgs := hid hgs; clear hgs
      go_wp2_with fail
      go_quiet (fail)
      go_wp2_with fail
      refine (times_any p _ _ _ (by omega) (by omega) (by omega) (by omega) (by omega) (by omega) (.inr ht)).mono ?_
      rintro e w' ⟨rfl, m, rfl⟩
      go_wp2_with fail
      refine (less_any p _ _ (by omega) (by omega) (by omega) (by omega)).mono ?_
      rintro e w' ⟨rfl, rfl⟩
      go_wp2_with fail
      go_roundw
      case rel => exact ⟨_, _, _, _, rfl, rfl, rfl, rfl, h0, by omega, hm, hm2, ht0, ht, r2.1, r2.2, H2.out, Hrd.out, by rw [Hgs.out, H3.out], (by repeat (first | exact Ext.refl _ | assumption | refine Ext.drew ?_ | refine Ext.drewN ?_ _ | refine Ext.alloc ?_ _ | refine Ext.trans ?_ (by assumption)))⟩
      case measure => simp [intOf]; omega
    · obtain rfl : n = 0 := by omega
      have h4 := inv_last (p := p) (a := a) (by omega) H3.out
      by_cases h1 : l = 1
      · subst h1
        have h5 := minv_eq hs0 hs (H1.out.trans (mod_small (by omega) (by omega)))
        rw [h4] at HR
        have h6 := HR.out
        rw [h5] at h6
        simp only [decide_true, if_true] at h6
        clear h4 h5
        have H6 := hid h6; clear h6
        go_wp2_with fail
        go_ret2
        exact ⟨by rw [← H6.out]; rfl, (by repeat (first | exact Ext.refl _ | assumption | refine Ext.drew ?_ | refine Ext.drewN ?_ _ | refine Ext.alloc ?_ _ | refine Ext.trans ?_ (by assumption)))⟩
      · have h6 := HR.out
        rw [h4, decide_eq_false h1] at h6
        simp only [Bool.false_eq_true, if_false] at h6
        clear h4
        have H6 := hid h6; clear h6
        have t1 : (l == 1) = false := by simpa using h1
        go_wp2_with fail
        go_ret2
        exact ⟨by rw [← H6.out]; rfl, (by repeat (first | exact Ext.refl _ | assumption | refine Ext.drew ?_ | refine Ext.drewN ?_ _ | refine Ext.alloc ?_ _ | refine Ext.trans ?_ (by assumption)))⟩
theorem inv_yes (p a : Int) (w : World) (hp : rightB p = true) (ha0 : 0 ≤ a) (ha : a < p) (hu : unitB p a = true) :
    Calls Try.prog 34 #[.int .u64 p, .int .u64 a] w (Ret (.tuple #[.int .u64 (minv p a), .int .i64 0]) w) := by
  have := inv_both p a w hp ha0 ha
  rwa [hu, if_pos rfl] at this
theorem inv_zero (p a : Int) (w : World) (hp : rightB p = true) (ha0 : 0 ≤ a) (ha : a < p) (hu : unitB p a = false) :
    Calls Try.prog 34 #[.int .u64 p, .int .u64 a] w (Ret (.tuple #[.int .u64 0, .int .i64 5]) w) := by
  have := inv_both p a w hp ha0 ha
  rwa [hu, if_neg (by decide)] at this
theorem inv_no (p a : Int) (w : World) (hp0 : 0 ≤ p) (hp : p ≤ 18446744073709551615) (ha0 : 0 ≤ a) (ha : a ≤ 18446744073709551615) (h : hasB p [a] = false) :
    Calls Try.prog 34 #[.int .u64 p, .int .u64 a] w (Ret (.tuple #[.int .u64 0, .int .i64 1]) w) := by
  have hh := hid h
  clear h
  go_enter Try.func34, Try.ntmps34
  go_wp2_with fail
  refine (has_no _ _ [a] _ hp0 hp Ints.new1 (U64s.one ha0 ha) hh.out).mono ?_
  rintro e w' ⟨rfl, rfl⟩
  go_wp2_with fail
  go_ret2
  exact ⟨rfl, (by repeat (first | exact Ext.refl _ | assumption | refine Ext.drew ?_ | refine Ext.drewN ?_ _ | refine Ext.alloc ?_ _ | refine Ext.trans ?_ (by assumption)))⟩
/-! ### The same, where the answer has a name already. -/
theorem add_as (p a b r : Int) (w : World) (hp : rightB p = true) (ha0 : 0 ≤ a) (ha : a < p) (hb0 : 0 ≤ b) (hb : b < p) (h : (a + b) % p = r) :
    Calls Try.prog 36 #[.int .u64 p, .int .u64 a, .int .u64 b] w (Ret (.tuple #[.int .u64 r, .int .i64 0]) w) := h ▸ add_yes p a b w hp ha0 ha hb0 hb
theorem sub_as (p a b r : Int) (w : World) (hp : rightB p = true) (ha0 : 0 ≤ a) (ha : a < p) (hb0 : 0 ≤ b) (hb : b < p) (h : (a - b) % p = r) :
    Calls Try.prog 68 #[.int .u64 p, .int .u64 a, .int .u64 b] w (Ret (.tuple #[.int .u64 r, .int .i64 0]) w) := h ▸ sub_yes p a b w hp ha0 ha hb0 hb
theorem mul_as (p a b r : Int) (w : World) (hp : rightB p = true) (ha0 : 0 ≤ a) (ha : a < p) (hb0 : 0 ≤ b) (hb : b < p) (h : a * b % p = r) :
    Calls Try.prog 66 #[.int .u64 p, .int .u64 a, .int .u64 b] w (Ret (.tuple #[.int .u64 r, .int .i64 0]) w) := h ▸ mul_yes p a b w hp ha0 ha hb0 hb
theorem inv_as (p a r : Int) (w : World) (hp : rightB p = true) (ha0 : 0 ≤ a) (ha : a < p) (hu : unitB p a = true) (h : minv p a = r) :
    Calls Try.prog 34 #[.int .u64 p, .int .u64 a] w (Ret (.tuple #[.int .u64 r, .int .i64 0]) w) := h ▸ inv_yes p a w hp ha0 ha hu
theorem hasB_sub {p : Int} {xs ys : List Int} (h : hasB p xs = true) (hs : ∀ y ∈ ys, y ∈ xs) : hasB p ys = true :=
  hasB_mk (hasB_true h).1 fun y hy => (hasB_true h).2 y (hs y hy)
theorem hasB_take' {p : Int} {xs : List Int} (h : hasB p xs = true) (n : Nat) : hasB p (xs.take n) = true := hasB_sub h fun _ hy => List.mem_of_mem_take hy
theorem hasB_drop' {p : Int} {xs : List Int} (h : hasB p xs = true) (n : Nat) : hasB p (xs.drop n) = true := hasB_sub h fun _ hy => List.mem_of_mem_drop hy
/-- a number of p, under a name -/
theorem name_mod {p : Int} (a : Int) (hp : 2 ≤ p) : ∃ r, a % p = r ∧ 0 ≤ r ∧ r < p := ⟨_, rfl, mod_range a hp⟩
end Go.Proofs.Ytjdbkbbhjiemdaa
