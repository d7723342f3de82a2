/- What the texts Field, PolM, Fld, Same, Is, FldP show, in one text. -/
import Derived.Test.YtdfkojbfgodegaaBun03
import Derived.Test.YtdfkojbfgodegaaBun04
import Derived.Test.YtdfkojbfgodegaaBun01
import Derived.Test.YtdfkojbfgodegaaBun02
/- What package field's functions answer. -/
namespace Go.Proofs.Ytdfkojbfgodegaa
open Go.RowKit

/-- may p be a modulus? -/
def rightB (p : Int) : Bool := decide (2 ≤ p ∧ p ≤ 9223372036854775807)
theorem rightB_true {p : Int} (h : rightB p = true) : 2 ≤ p ∧ p ≤ 9223372036854775807 := by simpa [rightB] using h
theorem rightB_mk {p : Int} (h : 2 ≤ p ∧ p ≤ 9223372036854775807) : rightB p = true := by simpa [rightB] using h
theorem rightB_false {p : Int} (h : ¬ (2 ≤ p ∧ p ≤ 9223372036854775807)) : rightB p = false := by simpa [rightB] using h
/-- may p be one, and are all numbers of it? -/
def hasB (p : Int) (xs : List Int) : Bool := rightB p && xs.all fun x => decide (x < p)
theorem hasB_true {p : Int} {xs : List Int} (h : hasB p xs = true) : rightB p = true ∧ ∀ x ∈ xs, x < p := by
  simpa [hasB] using h
theorem hasB_mk {p : Int} {xs : List Int} (h : rightB p = true) (h' : ∀ x ∈ xs, x < p) : hasB p xs = true := by
  simpa [hasB] using ⟨h, h'⟩
theorem hasB_one {p a : Int} (h : rightB p = true) (h' : a < p) : hasB p [a] = true := hasB_mk h (by simpa using h')
theorem hasB_two {p a b : Int} (h : rightB p = true) (h' : a < p) (h'' : b < p) : hasB p [a, b] = true := hasB_mk h (by simpa using ⟨h', h''⟩)
theorem hasB_no {p : Int} {xs : List Int} (k : Nat) (hk : k < xs.length) (h : p ≤ xs.getD k 0) : hasB p xs = false := by
  cases e : hasB p xs with
  | false => rfl
  | true =>
    have := (hasB_true e).2 (xs.getD k 0) (by simp [List.getD, List.getElem?_eq_getElem hk])
    omega

set_option maxHeartbeats 400000 in
theorem right_any (p : Int) (w : World) (h0 : 0 ≤ p) (h1 : p ≤ 18446744073709551615) :
    Calls Try.prog 47 #[.int .u64 p] w fun e w' => e = .returned (.bool (rightB p)) ∧ w = w' := by
  by_cases h : 2 ≤ p
  · by_cases h' : p < 9223372036854775808
    all_goals
      go_enter Try.func47, Try.ntmps47
      go_wp2
      go_ret
      exact ⟨ret_bool (by simp [rightB]; omega), rfl⟩
  · go_enter Try.func47, Try.ntmps47
    go_wp2
    go_ret
    exact ⟨ret_bool (by simp [rightB]; omega), rfl⟩

set_option maxHeartbeats 400000 in
theorem has_any (p : Int) (v : Value) (xs : List Int) (w : World) (h0 : 0 ≤ p) (h1 : p ≤ 18446744073709551615) (hv : Ints .u64 w v xs) (hx : U64s xs) :
    Calls Try.prog 28 #[.int .u64 p, v] w fun e w' => e = .returned (.bool (hasB p xs)) ∧ w = w' := by
  obtain ⟨a, cap, rfl, hc1, hc2, hc⟩ := hv
  have Hc := hid hc; clear hc
  have Hx := hid hx; clear hx
  go_enter Try.func28, Try.ntmps28
  go_wp2_with (go_at_call 47; refine (right_any _ _ h0 h1).mono ?_; rintro e w' ⟨rfl, rfl⟩)
  go_loop [9] (fun i => ∃ k : Nat, k ≤ xs.length ∧ i = .int .i64 k ∧ ∀ j, j < k → xs.getD j 0 < p) (fun i => xs.length - (intOf i).toNat)
  case atStart => exact ⟨0, Nat.zero_le _, rfl, by simp⟩
  case round =>
    obtain ⟨k, hk, rfl, hall⟩ := hrel
    have Ha := hid hall; clear hall
    by_cases hlt : k < xs.length
    · obtain ⟨b, off, rfl, hb, hcell⟩ := Hc.out (by omega)
      have g := hcell k hlt
      have hg := U64s.get Hx.out hlt
      clear hcell
      have hn := hasB_no (p := p) k hlt
      generalize hxk : xs.getD k 0 = x at g hg hn
      have Hxk := hid hxk; clear hxk
      have Hn := hid hn; clear hn Hc
      by_cases hp : p ≤ x
      · replace Hn := hid (Hn.out hp)
        go_wp2
        go_ret
        exact ⟨ret_bool (by rw [Hn.out]), rfl⟩
      · go_wp2
        go_round
        case rel => exact ⟨k + 1, by omega, by go_num, fun j hj => by
          by_cases e : j = k
          · rw [e, Hxk.out]; omega
          · exact Ha.out j (by omega)⟩
        case measure => simp [intOf]; omega
    · have hall : ∀ x ∈ xs, x < p := by
        intro x hx
        obtain ⟨j, hj, rfl⟩ := List.mem_iff_getElem.1 hx
        have := Ha.out j (by omega)
        simpa [List.getD, List.getElem?_eq_getElem hj] using this
      have e : hasB p xs = rightB p := by
        unfold hasB
        rw [List.all_eq_true.2 (fun x hx => by simpa using hall x hx), Bool.and_true]
      have He := hid e; clear e hall
      go_wp2_with (go_at_call 47; refine (right_any _ _ h0 h1).mono ?_; rintro e w' ⟨rfl, rfl⟩)
      go_ret
      exact ⟨ret_bool He.out.symm, rfl⟩

theorem mod_less {p a : Int} (h0 : 0 ≤ a) (h : a < 2 * p) : a % p = if p ≤ a then a - p else a := by
  split
  · rw [← Int.sub_emod_right, Int.emod_eq_of_lt (by omega) (by omega)]
  · exact Int.emod_eq_of_lt h0 (by omega)

set_option maxHeartbeats 400000 in
theorem less_any (p a : Int) (w : World) (hp0 : 0 < p) (hp : p ≤ 9223372036854775807) (ha0 : 0 ≤ a) (ha : a < 2 * p) :
    Calls Try.prog 52 #[.int .u64 p, .int .u64 a] w fun e w' => e = .returned (.int .u64 (a % p)) ∧ w = w' := by
  have hm := mod_less ha0 ha
  by_cases h : p ≤ a
  · rw [if_pos h] at hm
    have Hm := hid hm; clear hm
    go_enter Try.func52, Try.ntmps52
    go_wp2
    go_ret
    exact ⟨ret_int Hm.out.symm, rfl⟩
  · rw [if_neg h] at hm
    have Hm := hid hm; clear hm
    go_enter Try.func52, Try.ntmps52
    go_wp2
    go_ret
    exact ⟨ret_int Hm.out.symm, rfl⟩

set_option maxHeartbeats 400000 in
theorem left_any (p hi lo : Int) (w : World) (h0 : 0 ≤ hi) (h1 : hi < p) (hp : p ≤ 18446744073709551615) (hl0 : 0 ≤ lo) (hl : lo ≤ 18446744073709551615) :
    Calls Try.prog 53 #[.int .u64 p, .int .u64 hi, .int .u64 lo] w fun e w' => e = .returned (.int .u64 ((hi * 18446744073709551616 + lo) % p)) ∧ ∃ n, w' = w.drewN n := by
  by_cases h : 0 < hi
  · go_enter Try.func53, Try.ntmps53
    go_wp2_with (go_at_call 69; refine (div64_hi _ _ _ _ h h1 hp hl0 hl).mono ?_; rintro e w' ⟨rfl, rfl⟩)
    go_ret
    exact ⟨rfl, 0, rfl⟩
  · obtain rfl : hi = 0 := by omega
    go_enter Try.func53, Try.ntmps53
    go_wp2_with (go_at_call 69; refine (div64_lo _ _ _ (by omega) hp hl0 hl).mono ?_; rintro e w' ⟨rfl, n, rfl⟩)
    go_ret
    exact ⟨ret_int (by simp), n, rfl⟩

theorem half_lt {p a b : Int} (ha0 : 0 ≤ a) (ha : a ≤ 18446744073709551615) (hb0 : 0 ≤ b) (hb : b ≤ 18446744073709551615) (hp : 0 < p) (h : a < p ∨ b < p) : 0 ≤ a * b / 18446744073709551616 ∧ a * b / 18446744073709551616 < p := by
  have hab := Int.mul_nonneg ha0 hb0
  refine ⟨by omega, ?_⟩
  rcases h with h | h
  · have h1 := Int.mul_le_mul_of_nonneg_left hb ha0
    omega
  · have h1 := Int.mul_le_mul_of_nonneg_right ha hb0
    omega

set_option maxHeartbeats 400000 in
theorem times_any (p a b : Int) (w : World) (hp0 : 0 < p) (hp : p ≤ 18446744073709551615) (ha0 : 0 ≤ a) (ha : a ≤ 18446744073709551615) (hb0 : 0 ≤ b) (hb : b ≤ 18446744073709551615) (h : a < p ∨ b < p) :
    Calls Try.prog 63 #[.int .u64 p, .int .u64 a, .int .u64 b] w fun e w' => e = .returned (.int .u64 (a * b % p)) ∧ ∃ n, w' = w.drewN n := by
  have hh := half_lt ha0 ha hb0 hb hp0 h
  have h2 : 0 ≤ a * b % 18446744073709551616 ∧ a * b % 18446744073709551616 ≤ 18446744073709551615 := by omega
  have h3 := Int.ediv_mul_add_emod (a * b) 18446744073709551616
  have H3 := hid h3; clear h3
  go_enter Try.func63, Try.ntmps63
  go_wp2_with (first
    | (go_at_call 50; refine (mul64_any _ _ _ ha0 ha hb0 hb).mono ?_; rintro e w' ⟨rfl, rfl⟩)
    | (go_at_call 53; refine (left_any _ _ _ _ hh.1 hh.2 hp h2.1 h2.2).mono ?_; rintro e w' ⟨rfl, n, rfl⟩))
  go_ret
  exact ⟨ret_int (by rw [H3.out]), n, rfl⟩

theorem has_yes (p : Int) (v : Value) (xs : List Int) (w : World) (hv : Ints .u64 w v xs) (hx : U64s xs) (h : hasB p xs = true) :
    Calls Try.prog 28 #[.int .u64 p, v] w fun e w' => e = .returned (.bool true) ∧ w = w' := by
  have hp := rightB_true (hasB_true h).1
  exact (has_any p v xs w (by omega) (by omega) hv hx).mono fun e w' ⟨he, hw⟩ => ⟨by rw [he, h], hw⟩
theorem has_no (p : Int) (v : Value) (xs : List Int) (w : World) (h0 : 0 ≤ p) (h1 : p ≤ 18446744073709551615) (hv : Ints .u64 w v xs) (hx : U64s xs) (h : hasB p xs = false) :
    Calls Try.prog 28 #[.int .u64 p, v] w fun e w' => e = .returned (.bool false) ∧ w = w' :=
  (has_any p v xs w h0 h1 hv hx).mono fun e w' ⟨he, hw⟩ => ⟨by rw [he, h], hw⟩


set_option maxHeartbeats 400000 in
theorem sub_yes (p a b : Int) (w : World) (hp : rightB p = true) (ha0 : 0 ≤ a) (ha : a < p) (hb0 : 0 ≤ b) (hb : b < p) :
    Calls Try.prog 43 #[.int .u64 p, .int .u64 a, .int .u64 b] w (Ret (.tuple #[.int .u64 ((a - b) % p), .int .i64 0]) w) := by
  have hp2 := rightB_true hp
  have hh := hid (hasB_two hp ha hb)
  have e1 : (a + p - b) % p = (a - b) % p := by rw [show a + p - b = a - b + p by omega, Int.add_emod_right]
  have E1 := hid e1; clear e1
  clear hp
  go_enter Try.func43, Try.ntmps43
  go_wp2_with fail
  refine (has_yes _ _ [a, b] _ Ints.new2 (U64s.cons (by omega) (by omega) (U64s.one (by omega) (by omega))) hh.out).mono ?_
  rintro e w' ⟨rfl, rfl⟩
  go_wp2_with fail
  refine (less_any _ _ _ (by omega) (by omega) (by omega) (by omega)).mono ?_; rintro e w' ⟨rfl, rfl⟩
  go_wp2_with fail
  go_ret2
  exact ⟨by rw [← E1.out]; rfl, (by repeat (first | exact Ext.refl _ | assumption | refine Ext.drew ?_ | refine Ext.drewN ?_ _ | refine Ext.alloc ?_ _ | refine Ext.trans ?_ (by assumption)))⟩
set_option maxHeartbeats 400000 in
theorem sub_no (p a b : Int) (w : World) (hp0 : 0 ≤ p) (hp : p ≤ 18446744073709551615) (ha0 : 0 ≤ a) (ha : a ≤ 18446744073709551615) (hb0 : 0 ≤ b) (hb : b ≤ 18446744073709551615) (h : hasB p [a, b] = false) :
    Calls Try.prog 43 #[.int .u64 p, .int .u64 a, .int .u64 b] w (Ret (.tuple #[.int .u64 0, .int .i64 1]) w) := by
  have hh := hid h
  clear h
  go_enter Try.func43, Try.ntmps43
  go_wp2_with fail
  refine (has_no _ _ [a, b] _ hp0 hp Ints.new2 (U64s.cons ha0 ha (U64s.one hb0 hb)) hh.out).mono ?_
  rintro e w' ⟨rfl, rfl⟩
  go_wp2_with fail
  go_ret2
  exact ⟨rfl, (by repeat (first | exact Ext.refl _ | assumption | refine Ext.drew ?_ | refine Ext.drewN ?_ _ | refine Ext.alloc ?_ _ | refine Ext.trans ?_ (by assumption)))⟩

set_option maxHeartbeats 400000 in
theorem mul_yes (p a b : Int) (w : World) (hp : rightB p = true) (ha0 : 0 ≤ a) (ha : a < p) (hb0 : 0 ≤ b) (hb : b < p) :
    Calls Try.prog 41 #[.int .u64 p, .int .u64 a, .int .u64 b] w (Ret (.tuple #[.int .u64 (a * b % p), .int .i64 0]) w) := by
  have hp2 := rightB_true hp
  have hh := hid (hasB_two hp ha hb)
  clear hp
  go_enter Try.func41, Try.ntmps41
  go_wp2_with fail
  refine (has_yes _ _ [a, b] _ Ints.new2 (U64s.cons (by omega) (by omega) (U64s.one (by omega) (by omega))) hh.out).mono ?_
  rintro e w' ⟨rfl, rfl⟩
  go_wp2_with fail
  refine (times_any _ _ _ _ (by omega) (by omega) (by omega) (by omega) (by omega) (by omega) (.inl ha)).mono ?_; rintro e w' ⟨rfl, n, rfl⟩
  go_wp2_with fail
  go_ret2
  exact ⟨rfl, (by repeat (first | exact Ext.refl _ | assumption | refine Ext.drew ?_ | refine Ext.drewN ?_ _ | refine Ext.alloc ?_ _ | refine Ext.trans ?_ (by assumption)))⟩
set_option maxHeartbeats 400000 in
theorem mul_no (p a b : Int) (w : World) (hp0 : 0 ≤ p) (hp : p ≤ 18446744073709551615) (ha0 : 0 ≤ a) (ha : a ≤ 18446744073709551615) (hb0 : 0 ≤ b) (hb : b ≤ 18446744073709551615) (h : hasB p [a, b] = false) :
    Calls Try.prog 41 #[.int .u64 p, .int .u64 a, .int .u64 b] w (Ret (.tuple #[.int .u64 0, .int .i64 1]) w) := by
  have hh := hid h
  clear h
  go_enter Try.func41, Try.ntmps41
  go_wp2_with fail
  refine (has_no _ _ [a, b] _ hp0 hp Ints.new2 (U64s.cons ha0 ha (U64s.one hb0 hb)) hh.out).mono ?_
  rintro e w' ⟨rfl, rfl⟩
  go_wp2_with fail
  go_ret2
  exact ⟨rfl, (by repeat (first | exact Ext.refl _ | assumption | refine Ext.drew ?_ | refine Ext.drewN ?_ _ | refine Ext.alloc ?_ _ | refine Ext.trans ?_ (by assumption)))⟩

theorem and_one (n : Int) (h0 : 0 ≤ n) (h : n ≤ 18446744073709551615) : bits .and .u64 n 1 = n % 2 := by
  rw [u64_and n 1 h0 (by omega) (by omega) (by omega)]
  show ((n.toNat &&& 1 : Nat) : Int) = n % 2
  rw [Nat.and_one_is_mod]; omega


set_option maxHeartbeats 400000 in
theorem inv_both (p a : Int) (w : World) (hp : rightB p = true) (ha0 : 0 ≤ a) (ha : a < p) :
    Calls Try.prog 71 #[.int .u64 p, .int .u64 a] w (Ret (if unitB p a then .tuple #[.int .u64 (minv p a), .int .i64 0] else .tuple #[.int .u64 0, .int .i64 5]) w) := by
  have hp2 := rightB_true hp
  have hh := hid (hasB_one hp ha)
  clear hp
  generalize hR : (if unitB p a then Value.tuple #[.int .u64 (minv p a), .int .i64 0] else .tuple #[.int .u64 0, .int .i64 5]) = R
  have HR := hid hR; clear hR
  go_enter Try.func71, Try.ntmps71
  go_wp2_with fail
  refine (has_yes _ _ [a] _ Ints.new1 (U64s.one (by omega) (by omega)) hh.out).mono ?_
  rintro e w' ⟨rfl, rfl⟩
  go_wp2_with fail
  go_loopw [6, 7, 8, 9] (fun v6 v7 v8 v9 wr => ∃ l n s t : Int, v6 = .int .u64 l ∧ v7 = .int .u64 n ∧ v8 = .int .u64 s ∧ v9 = .int .u64 t ∧ 0 < l ∧ l ≤ p ∧ 0 ≤ n ∧ n < l ∧ 0 ≤ s ∧ s < p ∧ 0 ≤ t ∧ t < p ∧
    a * s % p = l % p ∧ a * t % p = n % p ∧ Int.gcd l n = Int.gcd p a ∧ Ext w wr) (fun _ v7 _ _ _ => (intOf v7).toNat)
  case atStart => exact ⟨p, a, 0, 1, rfl, rfl, rfl, rfl, by omega, by omega, ha0, ha, by omega, by omega, by omega, by omega, by simp, by simp, rfl, (by repeat (first | exact Ext.refl _ | assumption | refine Ext.drew ?_ | refine Ext.drewN ?_ _ | refine Ext.alloc ?_ _ | refine Ext.trans ?_ (by assumption)))⟩
  case round =>
    obtain ⟨l, n, s, t, rfl, rfl, rfl, rfl, hl0, hl, hn0, hn, hs0, hs, ht0, ht, h1, h2, h3, hw⟩ := hrel
    have H1 := hid h1; have H2 := hid h2; have H3 := hid h3; clear h1 h2 h3
    by_cases h0 : 0 < n
    · have hq0 : 0 ≤ l / n := Int.ediv_nonneg (by omega) (by omega)
      have hq1 : l / n ≤ l := Int.ediv_le_self _ (by omega)
      have hm := Int.emod_nonneg l (show n ≠ 0 by omega)
      have hm2 := Int.emod_lt_of_pos l h0
      have hn1 : n ≠ 0 := by omega
      have r1 := mod_range (l / n * t) hp2.1
      have r2 := mod_range (s + p - l / n * t) hp2.1
      have e1 : (s + p - l / n * t) % p = (s - l / n * t) % p := by rw [show s + p - l / n * t = s - l / n * t + p by omega, Int.add_emod_right]
      have E1 := hid e1; clear e1
      have hrd := inv_round H1.out H2.out
      rw [← E1.out] at hrd
      have Hrd := hid hrd; clear hrd
      have hgs := gcd_step (a := l) (b := n) (by omega) hn0
      have Hgs := hid hgs; clear hgs
      go_wp2_with fail
      go_quiet (fail)
      go_wp2_with fail
      refine (times_any p _ _ _ (by omega) (by omega) (by omega) (by omega) (by omega) (by omega) (.inr ht)).mono ?_
      rintro e w' ⟨rfl, m, rfl⟩
      go_wp2_with fail
      refine (less_any p _ _ (by omega) (by omega) (by omega) (by omega)).mono ?_
      rintro e w' ⟨rfl, rfl⟩
      go_wp2_with fail
      go_roundw
      case rel => exact ⟨_, _, _, _, rfl, rfl, rfl, rfl, h0, by omega, hm, hm2, ht0, ht, r2.1, r2.2, H2.out, Hrd.out, by rw [Hgs.out, H3.out], (by repeat (first | exact Ext.refl _ | assumption | refine Ext.drew ?_ | refine Ext.drewN ?_ _ | refine Ext.alloc ?_ _ | refine Ext.trans ?_ (by assumption)))⟩
      case measure => simp [intOf]; omega
    · obtain rfl : n = 0 := by omega
      have h4 := inv_last (p := p) (a := a) (by omega) H3.out
      by_cases h1 : l = 1
      · subst h1
        have h5 := minv_eq hs0 hs (H1.out.trans (mod_small (by omega) (by omega)))
        rw [h4] at HR
        have h6 := HR.out
        rw [h5] at h6
        simp only [decide_true, if_true] at h6
        clear h4 h5
        have H6 := hid h6; clear h6
        go_wp2_with fail
        go_ret2
        exact ⟨by rw [← H6.out]; rfl, (by repeat (first | exact Ext.refl _ | assumption | refine Ext.drew ?_ | refine Ext.drewN ?_ _ | refine Ext.alloc ?_ _ | refine Ext.trans ?_ (by assumption)))⟩
      · have h6 := HR.out
        rw [h4, decide_eq_false h1] at h6
        simp only [Bool.false_eq_true, if_false] at h6
        clear h4
        have H6 := hid h6; clear h6
        have t1 : (l == 1) = false := by simpa using h1
        go_wp2_with fail
        go_ret2
        exact ⟨by rw [← H6.out]; rfl, (by repeat (first | exact Ext.refl _ | assumption | refine Ext.drew ?_ | refine Ext.drewN ?_ _ | refine Ext.alloc ?_ _ | refine Ext.trans ?_ (by assumption)))⟩
theorem inv_yes (p a : Int) (w : World) (hp : rightB p = true) (ha0 : 0 ≤ a) (ha : a < p) (hu : unitB p a = true) :
    Calls Try.prog 71 #[.int .u64 p, .int .u64 a] w (Ret (.tuple #[.int .u64 (minv p a), .int .i64 0]) w) := by
  have := inv_both p a w hp ha0 ha
  rwa [hu, if_pos rfl] at this
theorem inv_zero (p a : Int) (w : World) (hp : rightB p = true) (ha0 : 0 ≤ a) (ha : a < p) (hu : unitB p a = false) :
    Calls Try.prog 71 #[.int .u64 p, .int .u64 a] w (Ret (.tuple #[.int .u64 0, .int .i64 5]) w) := by
  have := inv_both p a w hp ha0 ha
  rwa [hu, if_neg (by decide)] at this
theorem inv_no (p a : Int) (w : World) (hp0 : 0 ≤ p) (hp : p ≤ 18446744073709551615) (ha0 : 0 ≤ a) (ha : a ≤ 18446744073709551615) (h : hasB p [a] = false) :
    Calls Try.prog 71 #[.int .u64 p, .int .u64 a] w (Ret (.tuple #[.int .u64 0, .int .i64 1]) w) := by
  have hh := hid h
  clear h
  go_enter Try.func71, Try.ntmps71
  go_wp2_with fail
  refine (has_no _ _ [a] _ hp0 hp Ints.new1 (U64s.one ha0 ha) hh.out).mono ?_
  rintro e w' ⟨rfl, rfl⟩
  go_wp2_with fail
  go_ret2
  exact ⟨rfl, (by repeat (first | exact Ext.refl _ | assumption | refine Ext.drew ?_ | refine Ext.drewN ?_ _ | refine Ext.alloc ?_ _ | refine Ext.trans ?_ (by assumption)))⟩
/-! ### The same, where the answer has a name already. -/
theorem sub_as (p a b r : Int) (w : World) (hp : rightB p = true) (ha0 : 0 ≤ a) (ha : a < p) (hb0 : 0 ≤ b) (hb : b < p) (h : (a - b) % p = r) :
    Calls Try.prog 43 #[.int .u64 p, .int .u64 a, .int .u64 b] w (Ret (.tuple #[.int .u64 r, .int .i64 0]) w) := h ▸ sub_yes p a b w hp ha0 ha hb0 hb
theorem mul_as (p a b r : Int) (w : World) (hp : rightB p = true) (ha0 : 0 ≤ a) (ha : a < p) (hb0 : 0 ≤ b) (hb : b < p) (h : a * b % p = r) :
    Calls Try.prog 41 #[.int .u64 p, .int .u64 a, .int .u64 b] w (Ret (.tuple #[.int .u64 r, .int .i64 0]) w) := h ▸ mul_yes p a b w hp ha0 ha hb0 hb
theorem inv_as (p a r : Int) (w : World) (hp : rightB p = true) (ha0 : 0 ≤ a) (ha : a < p) (hu : unitB p a = true) (h : minv p a = r) :
    Calls Try.prog 71 #[.int .u64 p, .int .u64 a] w (Ret (.tuple #[.int .u64 r, .int .i64 0]) w) := h ▸ inv_yes p a w hp ha0 ha hu
theorem hasB_sub {p : Int} {xs ys : List Int} (h : hasB p xs = true) (hs : ∀ y ∈ ys, y ∈ xs) : hasB p ys = true :=
  hasB_mk (hasB_true h).1 fun y hy => (hasB_true h).2 y (hs y hy)
theorem hasB_take' {p : Int} {xs : List Int} (h : hasB p xs = true) (n : Nat) : hasB p (xs.take n) = true := hasB_sub h fun _ hy => List.mem_of_mem_take hy
theorem hasB_drop' {p : Int} {xs : List Int} (h : hasB p xs = true) (n : Nat) : hasB p (xs.drop n) = true := hasB_sub h fun _ hy => List.mem_of_mem_drop hy
/-- a number of p, under a name -/
theorem name_mod {p : Int} (a : Int) (hp : 2 ≤ p) : ∃ r, a % p = r ∧ 0 ≤ r ∧ r < p := ⟨_, rfl, mod_range a hp⟩
end Go.Proofs.Ytdfkojbfgodegaa
/- Polynomials modulo p as lists of numbers: their series, degrees, division, divisors, values (in plain Lean; nothing of a program). -/
namespace Go.Proofs.Ytdfkojbfgodegaa
variable {p : Int}

namespace Ser
/-- no term from n on -/
def low (a : Ser p) (n : Nat) : Prop := ∀ k, n ≤ k → a.co k = 0
/-- a polynomial -/
def poly (a : Ser p) : Prop := ∃ n, a.low n
theorem low.mono {a : Ser p} {m n : Nat} (h : a.low m) (hn : m ≤ n) : a.low n := fun k hk => h k (by omega)
theorem low.add {a b : Ser p} {n : Nat} (h : a.low n) (h' : b.low n) : (a + b).low n := fun k hk => by rw [add_co, h k hk, h' k hk]; simp
theorem low.sub {a b : Ser p} {n : Nat} (h : a.low n) (h' : b.low n) : (a - b).low n := fun k hk => by rw [sub_co, h k hk, h' k hk]; simp
theorem low_zero (n : Nat) : (0 : Ser p).low n := fun k _ => zero_co k
theorem low_C (c : Int) : (C p c).low 1 := fun k hk => by rw [C_co, if_neg (by omega)]
theorem low.zero {a : Ser p} (h : a.low 0) : a = 0 := ext_ fun k => by rw [h k (by omega), zero_co]
/-- the greatest term of a product -/
theorem mul_top {a b : Ser p} {m n : Nat} (h : a.low (m + 1)) (h' : b.low (n + 1)) : (a * b).co (m + n) = a.co m * b.co n % p ∧ (a * b).low (m + n + 1) := by
  refine ⟨?_, fun k hk => ?_⟩
  · rw [mul_co, cv, sm_piece m 1 (by omega) (fun i hi => by rw [h' _ (by omega), Int.mul_zero]) (fun i h1 h2 => by rw [h _ (by omega), Int.zero_mul])]
    simp [sm]
  · rw [mul_co, cv, sm_zero fun i hi => ?_, Int.zero_emod]
    rcases Nat.lt_or_ge i (m + 1) with h1 | h1
    · rw [h' _ (by omega), Int.mul_zero]
    · rw [h _ h1, Int.zero_mul]
theorem low.mul {a b : Ser p} {m n : Nat} (h : a.low m) (h' : b.low n) : (a * b).low (m + n - 1) := by
  cases m with
  | zero => rw [h.zero, zero_mul]; exact low_zero _
  | succ m =>
    cases n with
    | zero => rw [h'.zero, mul_zero]; exact low_zero _
    | succ n => exact (mul_top h h').2.mono (by omega)
theorem poly.add {a b : Ser p} (h : a.poly) (h' : b.poly) : (a + b).poly := by
  obtain ⟨m, h⟩ := h; obtain ⟨n, h'⟩ := h'
  exact ⟨max m n, (h.mono (by omega)).add (h'.mono (by omega))⟩
theorem poly.sub {a b : Ser p} (h : a.poly) (h' : b.poly) : (a - b).poly := by
  obtain ⟨m, h⟩ := h; obtain ⟨n, h'⟩ := h'
  exact ⟨max m n, (h.mono (by omega)).sub (h'.mono (by omega))⟩
theorem poly.mul {a b : Ser p} (h : a.poly) (h' : b.poly) : (a * b).poly := by
  obtain ⟨m, h⟩ := h; obtain ⟨n, h'⟩ := h'
  exact ⟨_, h.mul h'⟩
theorem poly_C (c : Int) : (C p c).poly := ⟨1, low_C c⟩
theorem poly_zero : (0 : Ser p).poly := ⟨0, low_zero 0⟩
theorem poly_one : (1 : Ser p).poly := poly_C 1
/-- who is a polynomial but 0 has a greatest term -/
theorem poly.top {a : Ser p} (h : a.poly) (h0 : a ≠ 0) : ∃ d, a.co d ≠ 0 ∧ a.low (d + 1) := by
  obtain ⟨n, h⟩ := h
  induction n with
  | zero => exact absurd h.zero h0
  | succ n ih =>
    by_cases e : a.co n = 0
    · exact ih fun k hk => by
        rcases Nat.lt_or_ge n k with h1 | h1
        · exact h k (by omega)
        · rw [show k = n by omega]; exact e
    · exact ⟨n, e, h⟩
theorem co_range (a : Ser p) (hp : 2 ≤ p) (k : Nat) : 0 ≤ a.co k ∧ a.co k < p := by rw [← a.ok k]; exact mod_range _ hp
/-- division has one quotient and one rest -/
theorem div_unique {q b r : Ser p} {n : Nat} (hb : b.low (n + 1)) {i : Int} (hi : b.co n * i % p = 1) (hq : q.poly) (hr : r.low n) (h : q * b + r = 0) : q = 0 ∧ r = 0 := by
  have h0 : q = 0 := by
    obtain ⟨m, hm⟩ := hq
    induction m with
    | zero => exact hm.zero
    | succ m ih =>
      refine ih fun k hk => ?_
      rcases Nat.lt_or_ge m k with h1 | h1
      · exact hm k (by omega)
      obtain rfl : k = m := by omega
      have e := congrArg (fun s : Ser p => s.co (k + n)) h
      simp only [add_co, zero_co, (mul_top hm hb).1, hr (k + n) (by omega), Int.add_zero] at e
      rw [Int.emod_emod_of_dvd _ (Int.dvd_refl _)] at e
      have e2 : q.co k * (b.co n * i) % p = 0 := by rw [← Int.mul_assoc, ← mm_l, e]; simp
      rw [← mm_r, hi, Int.mul_one, q.ok] at e2
      exact e2
  refine ⟨h0, ?_⟩
  rw [h0, zero_mul, zero_add] at h
  exact h
end Ser

/-! ### Lists -/
/-- a list's polynomial -/
def pol (p : Int) (xs : List Int) : Ser p := .of p fun k => xs.getD k 0
theorem pol_co (xs : List Int) (k : Nat) : (pol p xs).co k = xs.getD k 0 % p := rfl
theorem getD_over {xs : List Int} {k : Nat} (h : xs.length ≤ k) : xs.getD k 0 = 0 := by simp [List.getD, List.getElem?_eq_none h]
theorem pol_low (xs : List Int) : (pol p xs).low xs.length := fun k hk => by rw [pol_co, getD_over hk]; simp
theorem pol_poly (xs : List Int) : (pol p xs).poly := ⟨_, pol_low xs⟩
theorem pol_nil : pol p [] = 0 := (pol_low []).zero
theorem pol_single (c : Int) : pol p [c] = Ser.C p c := Ser.ext_ fun k => by
  rw [pol_co, Ser.C_co]
  cases k <;> simp
/-- numbers of p -/
def Rng (p : Int) (xs : List Int) : Prop := ∀ x ∈ xs, 0 ≤ x ∧ x < p
theorem Rng.get {xs : List Int} (h : Rng p xs) {k : Nat} (hk : k < xs.length) : 0 ≤ xs.getD k 0 ∧ xs.getD k 0 < p := by
  have e : xs.getD k 0 = xs[k] := by simp [List.getD, List.getElem?_eq_getElem hk]
  rw [e]; exact h _ (List.getElem_mem hk)
theorem Rng.getD {xs : List Int} (h : Rng p xs) (hp : 2 ≤ p) (k : Nat) : 0 ≤ xs.getD k 0 ∧ xs.getD k 0 < p := by
  rcases Nat.lt_or_ge k xs.length with h1 | h1
  · exact h.get h1
  · rw [getD_over h1]; omega
theorem Rng.co {xs : List Int} (h : Rng p xs) (k : Nat) : (pol p xs).co k = xs.getD k 0 := by
  rcases Nat.lt_or_ge k xs.length with h1 | h1
  · exact mod_small (h.get h1).1 (h.get h1).2
  · rw [pol_co, getD_over h1]; simp
theorem Rng.nil : Rng p [] := fun x hx => by simp at hx
theorem Rng.take {xs : List Int} (h : Rng p xs) (n : Nat) : Rng p (xs.take n) := fun x hx => h x (List.mem_of_mem_take hx)
theorem Rng.one {c : Int} (h0 : 0 ≤ c) (h : c < p) : Rng p [c] := fun x hx => by
  obtain rfl : x = c := by simpa using hx
  exact ⟨h0, h⟩
theorem Rng.u64 {xs : List Int} (h : Rng p xs) (hp : p ≤ 9223372036854775807) : U64s xs := fun x hx => by have := h x hx; omega
theorem Rng.has {xs : List Int} (h : Rng p xs) (hp : rightB p = true) : hasB p xs = true := hasB_mk hp fun x hx => (h x hx).2
theorem Rng.of_get {xs : List Int} (h : ∀ k, k < xs.length → 0 ≤ xs.getD k 0 ∧ xs.getD k 0 < p) : Rng p xs := fun x hx => by
  obtain ⟨j, hj, rfl⟩ := List.mem_iff_getElem.1 hx
  have := h j hj
  simpa [List.getD, List.getElem?_eq_getElem hj] using this

/-- a polynomial as it is kept: numbers of p, the last one not 0 -/
structure Pol (p : Int) (xs : List Int) : Prop where
  rng : Rng p xs
  top : 0 < xs.length → xs.getD (xs.length - 1) 0 ≠ 0
theorem Pol.nil : Pol p [] := ⟨Rng.nil, fun h => by simp at h⟩
theorem Pol.one {c : Int} (h0 : 0 < c) (h : c < p) : Pol p [c] := ⟨Rng.one (by omega) h, fun _ => by simp; omega⟩
theorem Pol.len_le {xs : List Int} (h : Pol p xs) {n : Nat} (hl : (pol p xs).low n) : xs.length ≤ n := by
  apply Classical.byContradiction
  intro hn
  have := hl (xs.length - 1) (by omega)
  rw [h.rng.co] at this
  exact h.top (by omega) this
theorem Pol.inj {xs ys : List Int} (h : Pol p xs) (h' : Pol p ys) (e : pol p xs = pol p ys) : xs = ys := by
  have h1 : xs.length ≤ ys.length := h.len_le (e ▸ pol_low ys)
  have h2 : ys.length ≤ xs.length := h'.len_le (e ▸ pol_low xs)
  refine List.ext_getElem (by omega) fun k h3 h4 => ?_
  have := congrArg (fun s : Ser p => s.co k) e
  simp only [h.rng.co, h'.rng.co] at this
  simpa [List.getD, List.getElem?_eq_getElem h3, List.getElem?_eq_getElem h4] using this
theorem Pol.zero {xs : List Int} (h : Pol p xs) (e : pol p xs = 0) : xs = [] := h.inj Pol.nil (by rw [e, pol_nil])
theorem Pol.ne {xs : List Int} (h : Pol p xs) (h0 : xs ≠ []) : pol p xs ≠ 0 := fun e => h0 (h.zero e)
/-- the greatest number of a polynomial -/
def lead (xs : List Int) : Int := xs.getD (xs.length - 1) 0
theorem Pol.lead_ne {xs : List Int} (h : Pol p xs) (h0 : xs ≠ []) : lead xs ≠ 0 := h.top (List.length_pos_iff.2 h0)
theorem Pol.lead_range {xs : List Int} (h : Pol p xs) (h0 : xs ≠ []) : 0 < lead xs ∧ lead xs < p := by
  have h1 := h.rng.get (k := xs.length - 1) (by have := List.length_pos_iff.2 h0; omega)
  have h2 := h.lead_ne h0
  unfold lead at h2 ⊢
  omega
/-- without the noughts at its end -/
theorem Pol.trim {xs : List Int} (hr : Rng p xs) {n : Nat} (hn : n ≤ xs.length) (h0 : ∀ j, n ≤ j → xs.getD j 0 = 0) (ht : 0 < n → xs.getD (n - 1) 0 ≠ 0) : Pol p (xs.take n) ∧ pol p (xs.take n) = pol p xs := by
  have hl : (xs.take n).length = n := by simp; omega
  have hg : ∀ k, (xs.take n).getD k 0 = xs.getD k 0 := fun k => by
    rcases Nat.lt_or_ge k n with h1 | h1
    · simp [List.getD, h1]
    · rw [h0 k h1, getD_over (by omega)]
  refine ⟨⟨hr.take n, fun h => ?_⟩, Ser.of_eq fun k => by rw [hg]⟩
  rw [hl] at h
  rw [hl, hg]
  exact ht h

/-! ### Division by who has an inverse at its top -/
theorem pol_div_unique {q r q' r' : Ser p} {ys : List Int} (hy : Pol p ys) (h0 : ys ≠ []) {i : Int} (hi : lead ys * i % p = 1) (hq : q.poly) (hq' : q'.poly) (hr : r.low (ys.length - 1)) (hr' : r'.low (ys.length - 1))
    (h : q * pol p ys + r = q' * pol p ys + r') : q = q' ∧ r = r' := by
  have hl := List.length_pos_iff.2 h0
  have hb : (pol p ys).low (ys.length - 1 + 1) := (pol_low ys).mono (by omega)
  have e : (q - q') * pol p ys + (r - r') = 0 := by
    have h1 : q - q' + q' = q := Ser.sub_add q q'
    have h2 : r - r' + r' = r := Ser.sub_add r r'
    rw [← h1, ← h2, Ser.add_mul] at h
    refine Ser.add_right_cancel (c := q' * pol p ys + r') (Eq.trans ?_ (h.trans (Ser.zero_add _).symm))
    ac_rfl
  obtain ⟨e1, e2⟩ := Ser.div_unique hb (by rw [hy.rng.co]; exact hi) (hq.sub hq') (hr.sub hr') e
  exact ⟨Ser.eq_of_sub e1, Ser.eq_of_sub e2⟩
/-- who is a multiple of y, and isn't 0, is no shorter -/
theorem len_mul {xs ys : List Int} (hx : Pol p xs) (hx0 : xs ≠ []) (hy : Pol p ys) {i : Int} (hi : lead ys * i % p = 1) {q : Ser p} (hq : q.poly) (h : pol p xs = q * pol p ys) : ys.length ≤ xs.length := by
  by_cases hy0 : ys = []
  · rw [hy0]; simp
  have hl := List.length_pos_iff.2 hy0
  have q0 : q ≠ 0 := fun e => hx.ne hx0 (by rw [h, e, Ser.zero_mul])
  obtain ⟨d, d1, d2⟩ := hq.top q0
  have e := (Ser.mul_top (n := ys.length - 1) d2 ((pol_low ys).mono (by omega))).1
  rw [← h] at e
  apply Classical.byContradiction
  intro hn
  rw [pol_low xs (d + (ys.length - 1)) (by omega), hy.rng.co] at e
  have e2 : q.co d * (lead ys * i) % p = 0 := by rw [← Int.mul_assoc, ← mm_l, show lead ys = ys.getD (ys.length - 1) 0 from rfl, ← e]; simp
  rw [← mm_r, hi, Int.mul_one, q.ok] at e2
  exact d1 e2
end Go.Proofs.Ytdfkojbfgodegaa
/- Fields: every number but 0 has an inverse. -/
namespace Go.Proofs.Ytdfkojbfgodegaa

/-- every number but 0 has an inverse -/
def Fld (p : Int) : Prop := ∀ a, 0 < a → a < p → unitB p a = true
theorem Fld.unit_lead {p : Int} (h : Fld p) {xs : List Int} (hx : Pol p xs) (h0 : xs ≠ []) : unitB p (lead xs) = true := h _ (hx.lead_range h0).1 (hx.lead_range h0).2

theorem list_ext {xs ys : List Int} (hl : xs.length = ys.length) (h : ∀ j, j < xs.length → xs.getD j 0 = ys.getD j 0) : xs = ys := by
  refine List.ext_getElem hl fun j h1 h2 => ?_
  have := h j h1
  simpa [List.getD, List.getElem?_eq_getElem h1, List.getElem?_eq_getElem h2] using this
end Go.Proofs.Ytdfkojbfgodegaa
/- The document's own answer to: are two lists the same? -/
namespace Go.Proofs.Ytdfkojbfgodegaa
open Go.RowKit

/-! ### Are two lists the same? -/
end Go.Proofs.Ytdfkojbfgodegaa
/- Whether a number is prime, as the document's own answer tells it: by trial. -/
namespace Go.Proofs.Ytdfkojbfgodegaa
open Go.RowKit

/-- no number from 2 on, whose square is no more, divides n -/
def IsP (n : Int) : Prop := 2 ≤ n ∧ ∀ d : Int, 2 ≤ d → d * d ≤ n → n % d ≠ 0

open Classical in
noncomputable def isB (n : Int) : Bool := decide (IsP n)
theorem isB_iff (n : Int) : isB n = true ↔ IsP n := by simp [isB]
theorem isB_no {n : Int} (h : ¬ IsP n) : isB n = false := by simp [isB, h]

set_option maxHeartbeats 1000000 in
theorem Is_any (n : Int) (w : World) (h0 : 0 ≤ n) (h1 : n < 4294967296) :
    Calls Try.prog 19 #[.int .u64 n] w fun e w' => e = .returned (.bool (isB n)) ∧ w = w' := by
  by_cases h2 : n < 2
  · go_enter Try.func19, Try.ntmps19
    go_wp2_with fail
    go_ret
    exact ⟨ret_bool (isB_no (by simp [IsP]; omega)).symm, rfl⟩
  · go_enter Try.func19, Try.ntmps19
    go_wp2_with fail
    go_loop [3] (fun q => ∃ d : Int, q = .int .u64 d ∧ 2 ≤ d ∧ d ≤ 65536 ∧ ∀ c, 2 ≤ c → c < d → n % c ≠ 0) (fun q => (65537 - intOf q).toNat)
    case atStart => exact ⟨2, rfl, by omega, by omega, fun c h1 h2 => by omega⟩
    case round =>
      obtain ⟨d, rfl, hd, hd2, hall⟩ := hrel
      have Ha := hid hall; clear hall
      have hs0 : 0 ≤ d * d := Int.mul_nonneg (by omega) (by omega)
      have hs1 : d * d ≤ 4294967296 := by
        have := Int.mul_le_mul hd2 hd2 (by omega) (by omega)
        simpa using this
      by_cases hle : d * d ≤ n
      · have bb : decide (d * d ≤ n) = true := by simpa using hle
        have hd3 : d < 65536 := by
          apply Classical.byContradiction
          intro h
          have : d = 65536 := by omega
          subst this
          omega
        by_cases hz : n % d = 0
        · have bz : (n % d == 0) = true := by simpa using hz
          have HZ := hid hz; have HL := hid hle
          clear hz hle
          go_wp2_with fail
          go_ret
          exact ⟨ret_bool (isB_no fun h => h.2 d hd HL.out HZ.out).symm, rfl⟩
        · have bz : (n % d == 0) = false := by simpa using hz
          have HZ := hid hz
          clear hz hle
          go_wp2_with fail
          go_round
          case rel => exact ⟨d + 1, rfl, by omega, by omega, fun c h3 h4 => by
            by_cases e : c = d
            · rw [e]; exact HZ.out
            · exact Ha.out c h3 (by omega)⟩
          case measure => simp [intOf]; omega
      · have bb : decide (d * d ≤ n) = false := by simpa using hle
        have HL := hid hle
        clear hle
        go_wp2_with fail
        go_ret
        refine ⟨ret_bool ((isB_iff n).2 ⟨by omega, fun c h3 h4 => ?_⟩).symm, rfl⟩
        rcases Int.lt_or_le c d with h5 | h5
        · exact Ha.out c h3 h5
        · have := Int.mul_le_mul h5 h5 (by omega) (by omega)
          have := HL.out; omega

theorem Is_as (n : Int) (b : Bool) (w : World) (h0 : 0 ≤ n) (h1 : n < 4294967296) (h : isB n = b) :
    Calls Try.prog 19 #[.int .u64 n] w fun e w' => e = .returned (.bool b) ∧ w = w' := h ▸ Is_any n w h0 h1
end Go.Proofs.Ytdfkojbfgodegaa
/- Which numbers layer 3's laws take for primes: of each of them every number but 0 has an inverse. -/
namespace Go.Proofs.Ytdfkojbfgodegaa
open Go.RowKit

/-- a power modulo n, by halves -/
def powG (n : Nat) : Nat → Nat → Nat → Nat
  | 0, _, _ => 1 % n
  | f + 1, a, t => if Nat.beq t 0 then 1 % n else if Nat.beq (t % 2) 1 then a * powG n f (a * a % n) (t / 2) % n else powG n f (a * a % n) (t / 2)
theorem npow_mod (a n t : Nat) : (a % n) ^ t % n = a ^ t % n := (Nat.pow_mod a t n).symm
theorem powG_eq (n : Nat) : ∀ (f a t : Nat), t < 2 ^ f → powG n f a t = a ^ t % n
  | 0, a, t, h => by
    have : t = 0 := by simpa using h
    subst this; simp [powG]
  | f + 1, a, t, h => by
    have ih := powG_eq n f (a * a % n) (t / 2) (by rw [Nat.pow_succ] at h; omega)
    have e : (a * a % n) ^ (t / 2) % n = a ^ (2 * (t / 2)) % n := by rw [npow_mod, ← Nat.pow_two, ← Nat.pow_mul]
    rw [powG]
    by_cases h0 : t = 0
    · subst h0; simp
    · rw [show Nat.beq t 0 = false by rw [← Bool.not_eq_true, Nat.beq_eq]; exact h0, if_neg Bool.false_ne_true, ih, e]
      by_cases h1 : t % 2 = 1
      · rw [if_pos (by rw [Nat.beq_eq]; exact h1), Nat.mul_mod, Nat.mod_mod, ← Nat.mul_mod]
        congr 1
        conv => rhs; rw [show t = 2 * (t / 2) + 1 by omega, Nat.pow_succ, Nat.mul_comm]
      · rw [show Nat.beq (t % 2) 1 = false by rw [← Bool.not_eq_true, Nat.beq_eq]; exact h1, if_neg Bool.false_ne_true]
        congr 2; omega
/-- a root, by the parts of n - 1: each divisor of a part is tried -/
theorem root_parts {n r : Nat} (fs : List Nat) (hn : 2 < n) (hb : n < 2 ^ 64) (hf : fs.foldl (· * ·) 1 = n - 1) (h1 : powG n 64 r (n - 1) = 1)
    (h2 : ∀ f ∈ fs, ∀ d, d < f + 1 → d < 2 ∨ f % d ≠ 0 ∨ powG n 64 r ((n - 1) / d) ≠ 1) : Root n r := by
  refine root_of hn (by rw [← powG_eq n 64 r (n - 1) (by omega)]; exact h1) fun q hq hd => ?_
  have key : ∀ (fs : List Nat) (m : Nat), q ∣ fs.foldl (· * ·) m → q ∣ m ∨ ∃ f ∈ fs, q ∣ f := by
    intro fs
    induction fs with
    | nil => intro m h; exact .inl h
    | cons f fs ih =>
      intro m h
      rcases ih (m * f) h with h | ⟨g, hg, h⟩
      · rcases prm_mul hq h with h | h
        · exact .inl h
        · exact .inr ⟨f, by simp, h⟩
      · exact .inr ⟨g, by simp [hg], h⟩
  rw [← hf] at hd
  rcases key fs 1 hd with h | ⟨f, hfm, h⟩
  · have := Nat.dvd_one.1 h
    have := hq.1
    omega
  · by_cases f0 : f = 0
    · exfalso
      subst f0
      have hz : ∀ (fs : List Nat) (m : Nat), (m = 0 ∨ 0 ∈ fs) → fs.foldl (· * ·) m = 0 := by
        intro fs
        induction fs with
        | nil => intro m h; simpa using h
        | cons g gs ih =>
          intro m h
          rw [List.foldl_cons]
          refine ih _ ?_
          rcases h with h | h
          · left; rw [h, Nat.zero_mul]
          · rcases List.mem_cons.1 h with h | h
            · left; rw [← h, Nat.mul_zero]
            · exact .inr h
      have := hz fs 1 (.inr hfm)
      omega
    · have hle := Nat.le_of_dvd (by omega) h
      rcases h2 f hfm q (by omega) with h3 | h3 | h3
      · have := hq.1; omega
      · exact absurd (Nat.mod_eq_zero_of_dvd h) h3
      · rw [powG_eq n 64 r _ (Nat.lt_of_le_of_lt (Nat.div_le_self _ _) (by omega))] at h3
        exact h3
theorem fld_root {n r : Nat} (h : Root n r) : Fld (n : Int) := fun a h0 ha => by
  obtain ⟨b, rfl⟩ := Int.eq_ofNat_of_zero_le (show 0 ≤ a by omega)
  have := h.coprime (x := b) (by omega) (by omega)
  simp only [unitB, decide_eq_true_eq]
  exact this
set_option maxRecDepth 100000 in
theorem root31 : Root 2147483647 7 := root_parts [2, 3, 3, 7, 11, 31, 151, 331] (by decide) (by decide) (by decide +kernel) (by decide +kernel) (by decide +kernel)
set_option maxRecDepth 100000 in
theorem root61 : Root 2305843009213693951 37 := root_parts [2, 3, 3, 5, 5, 7, 11, 13, 31, 41, 61, 151, 331, 1321] (by decide) (by decide) (by decide +kernel) (by decide +kernel) (by decide +kernel)
theorem fld_is {p : Int} (h : IsP p) : Fld p := fun a h0 ha => by
  simp only [unitB, decide_eq_true_eq]
  obtain ⟨n, rfl⟩ := Int.eq_ofNat_of_zero_le (show 0 ≤ p by have := h.1; omega)
  obtain ⟨b, rfl⟩ := Int.eq_ofNat_of_zero_le (show 0 ≤ a by omega)
  show Nat.gcd n b = 1
  apply Classical.byContradiction
  intro hg
  obtain ⟨g, hgd⟩ : ∃ g, Nat.gcd n b = g := ⟨_, rfl⟩
  rw [hgd] at hg
  have d1 : g ∣ n := hgd ▸ Nat.gcd_dvd_left n b
  have d2 : g ∣ b := hgd ▸ Nat.gcd_dvd_right n b
  have hgb := Nat.le_of_dvd (by omega) d2
  have hn2 := h.1
  have hg0 : g ≠ 0 := fun e => by rw [e] at d1; have := Nat.eq_zero_of_zero_dvd d1; omega
  obtain ⟨k, hk⟩ := d1
  have hk2 : 2 ≤ k := by
    rcases Nat.lt_or_ge k 2 with h1 | h1
    · have : k = 0 ∨ k = 1 := by omega
      rcases this with rfl | rfl
      · omega
      · omega
    · exact h1
  rcases Nat.le_total g k with hgk | hgk
  · refine h.2 (g : Int) (by omega) ?_ ?_
    · have := Nat.mul_le_mul_left g hgk
      rw [← hk] at this
      exact_mod_cast this
    · rw [hk]
      exact_mod_cast Nat.mul_mod_right g k
  · refine h.2 (k : Int) (by omega) ?_ ?_
    · have := Nat.mul_le_mul_right k hgk
      rw [← hk] at this
      exact_mod_cast this
    · rw [hk]
      exact_mod_cast Nat.mul_mod_left g k

/-- which numbers they take -/
noncomputable def takenB (p : Int) : Bool := decide (p = 2147483647) || decide (p = 2305843009213693951) || (decide (p < 1048576) && isB p)
theorem taken_fld {p : Int} (h : takenB p = true) : Fld p := by
  unfold takenB at h
  simp only [Bool.or_eq_true, Bool.and_eq_true, decide_eq_true_eq] at h
  rcases h with (h | h) | h
  · rw [h]; exact fld_root root31
  · rw [h]; exact fld_root root61
  · exact fld_is ((isB_iff p).1 h.2)
set_option maxHeartbeats 400000 in
theorem prime_any (p : Int) (w : World) (h0 : 0 ≤ p) :
    Calls Try.prog 7 #[.int .u64 p] w fun e w' => e = .returned (.bool (takenB p)) ∧ w = w' := by
  obtain ⟨T, hT⟩ : ∃ T, takenB p = T := ⟨_, rfl⟩
  rw [hT]
  unfold takenB at hT
  by_cases h1 : p = 2147483647
  · rw [decide_eq_true h1, Bool.true_or, Bool.true_or] at hT
    subst hT
    subst h1
    go_enter Try.func7, Try.ntmps7
    go_wp2_with fail
    go_ret
    exact ⟨rfl, rfl⟩
  · rw [decide_eq_false h1, Bool.false_or] at hT
    by_cases h2 : p = 2305843009213693951
    · rw [decide_eq_true h2, Bool.true_or] at hT
      subst hT
      subst h2
      clear h1
      go_enter Try.func7, Try.ntmps7
      go_wp2_with fail
      go_ret
      exact ⟨rfl, rfl⟩
    · rw [decide_eq_false h2, Bool.false_or] at hT
      have b1 : (p == 2147483647) = false := by rw [beq_eq_false_iff_ne]; exact h1
      have b2 : (p == 2305843009213693951) = false := by rw [beq_eq_false_iff_ne]; exact h2
      clear h1 h2
      by_cases h3 : p < 1048576
      · rw [decide_eq_true h3, Bool.true_and] at hT
        have c1 := hid (Is_as p T w h0 (by omega) hT)
        clear hT
        go_enter Try.func7, Try.ntmps7
        go_wp2_with (go_at_call 19; refine c1.out.mono ?_; rintro _ _ ⟨rfl, rfl⟩)
        go_ret
        exact ⟨rfl, rfl⟩
      · rw [decide_eq_false h3, Bool.false_and] at hT
        subst hT
        go_enter Try.func7, Try.ntmps7
        go_wp2_with fail
        go_ret
        exact ⟨rfl, rfl⟩

end Go.Proofs.Ytdfkojbfgodegaa
