/- What the texts Field, PolM, Fld, Same, PolyA, Massey, Is show, in one text. -/
import Derived.Test.YtijpeepdedfhoaaGreatBun03
import Derived.Test.YtijpeepdedfhoaaGreatBun04
import Derived.Test.YtijpeepdedfhoaaGreatBun01
/- What package field's functions answer. -/
namespace Go.Proofs.YtijpeepdedfhoaaGreat
open Go.RowKit

/-- may p be a modulus? -/
def rightB (p : Int) : Bool := decide (2 ≤ p ∧ p ≤ 9223372036854775807)
theorem rightB_true {p : Int} (h : rightB p = true) : 2 ≤ p ∧ p ≤ 9223372036854775807 := by simpa [rightB] using h
theorem rightB_mk {p : Int} (h : 2 ≤ p ∧ p ≤ 9223372036854775807) : rightB p = true := by simpa [rightB] using h
theorem rightB_false {p : Int} (h : ¬ (2 ≤ p ∧ p ≤ 9223372036854775807)) : rightB p = false := by simpa [rightB] using h
/-- may p be one, and are all numbers of it? -/
def hasB (p : Int) (xs : List Int) : Bool := rightB p && xs.all fun x => decide (x < p)
theorem hasB_true {p : Int} {xs : List Int} (h : hasB p xs = true) : rightB p = true ∧ ∀ x ∈ xs, x < p := by
  simpa [hasB] using h
theorem hasB_mk {p : Int} {xs : List Int} (h : rightB p = true) (h' : ∀ x ∈ xs, x < p) : hasB p xs = true := by
  simpa [hasB] using ⟨h, h'⟩
theorem hasB_one {p a : Int} (h : rightB p = true) (h' : a < p) : hasB p [a] = true := hasB_mk h (by simpa using h')
theorem hasB_two {p a b : Int} (h : rightB p = true) (h' : a < p) (h'' : b < p) : hasB p [a, b] = true := hasB_mk h (by simpa using ⟨h', h''⟩)
theorem hasB_no {p : Int} {xs : List Int} (k : Nat) (hk : k < xs.length) (h : p ≤ xs.getD k 0) : hasB p xs = false := by
  cases e : hasB p xs with
  | false => rfl
  | true =>
    have := (hasB_true e).2 (xs.getD k 0) (by simp [List.getD, List.getElem?_eq_getElem hk])
    omega

set_option maxHeartbeats 400000 in
theorem right_any (p : Int) (w : World) (h0 : 0 ≤ p) (h1 : p ≤ 18446744073709551615) :
    Calls Tryz.prog 71 #[.int .u64 p] w fun e w' => e = .returned (.bool (rightB p)) ∧ w = w' := by
  by_cases h : 2 ≤ p
  · by_cases h' : p < 9223372036854775808
    all_goals
      go_enter Tryz.func71, Tryz.ntmps71
      go_wp2
      go_ret
      exact ⟨ret_bool (by simp [rightB]; omega), rfl⟩
  · go_enter Tryz.func71, Tryz.ntmps71
    go_wp2
    go_ret
    exact ⟨ret_bool (by simp [rightB]; omega), rfl⟩

set_option maxHeartbeats 400000 in
theorem has_any (p : Int) (v : Value) (xs : List Int) (w : World) (h0 : 0 ≤ p) (h1 : p ≤ 18446744073709551615) (hv : Ints .u64 w v xs) (hx : U64s xs) :
    Calls Tryz.prog 30 #[.int .u64 p, v] w fun e w' => e = .returned (.bool (hasB p xs)) ∧ w = w' := by
  obtain ⟨a, cap, rfl, hc1, hc2, hc⟩ := hv
  have Hc := hid hc; clear hc
  have Hx := hid hx; clear hx
  go_enter Tryz.func30, Tryz.ntmps30
  go_wp2_with (go_at_call 71; refine (right_any _ _ h0 h1).mono ?_; rintro e w' ⟨rfl, rfl⟩)
  go_loop [9] (fun i => ∃ k : Nat, k ≤ xs.length ∧ i = .int .i64 k ∧ ∀ j, j < k → xs.getD j 0 < p) (fun i => xs.length - (intOf i).toNat)
  case atStart => exact ⟨0, Nat.zero_le _, rfl, by simp⟩
  case round =>
    obtain ⟨k, hk, rfl, hall⟩ := hrel
    have Ha := hid hall; clear hall
    by_cases hlt : k < xs.length
    · obtain ⟨b, off, rfl, hb, hcell⟩ := Hc.out (by omega)
      have g := hcell k hlt
      have hg := U64s.get Hx.out hlt
      clear hcell
      have hn := hasB_no (p := p) k hlt
      generalize hxk : xs.getD k 0 = x at g hg hn
      have Hxk := hid hxk; clear hxk
      have Hn := hid hn; clear hn Hc
      by_cases hp : p ≤ x
      · replace Hn := hid (Hn.out hp)
        go_wp2
        go_ret
        exact ⟨ret_bool (by rw [Hn.out]), rfl⟩
      · go_wp2
        go_round
        case rel => exact ⟨k + 1, by omega, by go_num, fun j hj => by
          by_cases e : j = k
          · rw [e, Hxk.out]; omega
          · exact Ha.out j (by omega)⟩
        case measure => simp [intOf]; omega
    · have hall : ∀ x ∈ xs, x < p := by
        intro x hx
        obtain ⟨j, hj, rfl⟩ := List.mem_iff_getElem.1 hx
        have := Ha.out j (by omega)
        simpa [List.getD, List.getElem?_eq_getElem hj] using this
      have e : hasB p xs = rightB p := by
        unfold hasB
        rw [List.all_eq_true.2 (fun x hx => by simpa using hall x hx), Bool.and_true]
      have He := hid e; clear e hall
      go_wp2_with (go_at_call 71; refine (right_any _ _ h0 h1).mono ?_; rintro e w' ⟨rfl, rfl⟩)
      go_ret
      exact ⟨ret_bool He.out.symm, rfl⟩

theorem mod_less {p a : Int} (h0 : 0 ≤ a) (h : a < 2 * p) : a % p = if p ≤ a then a - p else a := by
  split
  · rw [← Int.sub_emod_right, Int.emod_eq_of_lt (by omega) (by omega)]
  · exact Int.emod_eq_of_lt h0 (by omega)

set_option maxHeartbeats 400000 in
theorem less_any (p a : Int) (w : World) (hp0 : 0 < p) (hp : p ≤ 9223372036854775807) (ha0 : 0 ≤ a) (ha : a < 2 * p) :
    Calls Tryz.prog 102 #[.int .u64 p, .int .u64 a] w fun e w' => e = .returned (.int .u64 (a % p)) ∧ w = w' := by
  have hm := mod_less ha0 ha
  by_cases h : p ≤ a
  · rw [if_pos h] at hm
    have Hm := hid hm; clear hm
    go_enter Tryz.func102, Tryz.ntmps102
    go_wp2
    go_ret
    exact ⟨ret_int Hm.out.symm, rfl⟩
  · rw [if_neg h] at hm
    have Hm := hid hm; clear hm
    go_enter Tryz.func102, Tryz.ntmps102
    go_wp2
    go_ret
    exact ⟨ret_int Hm.out.symm, rfl⟩

set_option maxHeartbeats 400000 in
theorem left_any (p hi lo : Int) (w : World) (h0 : 0 ≤ hi) (h1 : hi < p) (hp : p ≤ 18446744073709551615) (hl0 : 0 ≤ lo) (hl : lo ≤ 18446744073709551615) :
    Calls Tryz.prog 103 #[.int .u64 p, .int .u64 hi, .int .u64 lo] w fun e w' => e = .returned (.int .u64 ((hi * 18446744073709551616 + lo) % p)) ∧ ∃ n, w' = w.drewN n := by
  by_cases h : 0 < hi
  · go_enter Tryz.func103, Tryz.ntmps103
    go_wp2_with (go_at_call 114; refine (div64_hi _ _ _ _ h h1 hp hl0 hl).mono ?_; rintro e w' ⟨rfl, rfl⟩)
    go_ret
    exact ⟨rfl, 0, rfl⟩
  · obtain rfl : hi = 0 := by omega
    go_enter Tryz.func103, Tryz.ntmps103
    go_wp2_with (go_at_call 114; refine (div64_lo _ _ _ (by omega) hp hl0 hl).mono ?_; rintro e w' ⟨rfl, n, rfl⟩)
    go_ret
    exact ⟨ret_int (by simp), n, rfl⟩

theorem half_lt {p a b : Int} (ha0 : 0 ≤ a) (ha : a ≤ 18446744073709551615) (hb0 : 0 ≤ b) (hb : b ≤ 18446744073709551615) (hp : 0 < p) (h : a < p ∨ b < p) : 0 ≤ a * b / 18446744073709551616 ∧ a * b / 18446744073709551616 < p := by
  have hab := Int.mul_nonneg ha0 hb0
  refine ⟨by omega, ?_⟩
  rcases h with h | h
  · have h1 := Int.mul_le_mul_of_nonneg_left hb ha0
    omega
  · have h1 := Int.mul_le_mul_of_nonneg_right ha hb0
    omega

set_option maxHeartbeats 400000 in
theorem times_any (p a b : Int) (w : World) (hp0 : 0 < p) (hp : p ≤ 18446744073709551615) (ha0 : 0 ≤ a) (ha : a ≤ 18446744073709551615) (hb0 : 0 ≤ b) (hb : b ≤ 18446744073709551615) (h : a < p ∨ b < p) :
    Calls Tryz.prog 107 #[.int .u64 p, .int .u64 a, .int .u64 b] w fun e w' => e = .returned (.int .u64 (a * b % p)) ∧ ∃ n, w' = w.drewN n := by
  have hh := half_lt ha0 ha hb0 hb hp0 h
  have h2 : 0 ≤ a * b % 18446744073709551616 ∧ a * b % 18446744073709551616 ≤ 18446744073709551615 := by omega
  have h3 := Int.ediv_mul_add_emod (a * b) 18446744073709551616
  have H3 := hid h3; clear h3
  go_enter Tryz.func107, Tryz.ntmps107
  go_wp2_with (first
    | (go_at_call 100; refine (mul64_any _ _ _ ha0 ha hb0 hb).mono ?_; rintro e w' ⟨rfl, rfl⟩)
    | (go_at_call 103; refine (left_any _ _ _ _ hh.1 hh.2 hp h2.1 h2.2).mono ?_; rintro e w' ⟨rfl, n, rfl⟩))
  go_ret
  exact ⟨ret_int (by rw [H3.out]), n, rfl⟩

theorem has_yes (p : Int) (v : Value) (xs : List Int) (w : World) (hv : Ints .u64 w v xs) (hx : U64s xs) (h : hasB p xs = true) :
    Calls Tryz.prog 30 #[.int .u64 p, v] w fun e w' => e = .returned (.bool true) ∧ w = w' := by
  have hp := rightB_true (hasB_true h).1
  exact (has_any p v xs w (by omega) (by omega) hv hx).mono fun e w' ⟨he, hw⟩ => ⟨by rw [he, h], hw⟩
theorem has_no (p : Int) (v : Value) (xs : List Int) (w : World) (h0 : 0 ≤ p) (h1 : p ≤ 18446744073709551615) (hv : Ints .u64 w v xs) (hx : U64s xs) (h : hasB p xs = false) :
    Calls Tryz.prog 30 #[.int .u64 p, v] w fun e w' => e = .returned (.bool false) ∧ w = w' :=
  (has_any p v xs w h0 h1 hv hx).mono fun e w' ⟨he, hw⟩ => ⟨by rw [he, h], hw⟩

set_option maxHeartbeats 400000 in
theorem add_yes (p a b : Int) (w : World) (hp : rightB p = true) (ha0 : 0 ≤ a) (ha : a < p) (hb0 : 0 ≤ b) (hb : b < p) :
    Calls Tryz.prog 83 #[.int .u64 p, .int .u64 a, .int .u64 b] w (Ret (.tuple #[.int .u64 ((a + b) % p), .int .i64 0]) w) := by
  have hp2 := rightB_true hp
  have hh := hid (hasB_two hp ha hb)
  clear hp
  go_enter Tryz.func83, Tryz.ntmps83
  go_wp2_with fail
  refine (has_yes _ _ [a, b] _ Ints.new2 (U64s.cons (by omega) (by omega) (U64s.one (by omega) (by omega))) hh.out).mono ?_
  rintro e w' ⟨rfl, rfl⟩
  go_wp2_with fail
  refine (less_any _ _ _ (by omega) (by omega) (by omega) (by omega)).mono ?_; rintro e w' ⟨rfl, rfl⟩
  go_wp2_with fail
  go_ret2
  exact ⟨rfl, (by repeat (first | exact Ext.refl _ | assumption | refine Ext.drew ?_ | refine Ext.drewN ?_ _ | refine Ext.alloc ?_ _ | refine Ext.trans ?_ (by assumption)))⟩
set_option maxHeartbeats 400000 in
theorem add_no (p a b : Int) (w : World) (hp0 : 0 ≤ p) (hp : p ≤ 18446744073709551615) (ha0 : 0 ≤ a) (ha : a ≤ 18446744073709551615) (hb0 : 0 ≤ b) (hb : b ≤ 18446744073709551615) (h : hasB p [a, b] = false) :
    Calls Tryz.prog 83 #[.int .u64 p, .int .u64 a, .int .u64 b] w (Ret (.tuple #[.int .u64 0, .int .i64 1]) w) := by
  have hh := hid h
  clear h
  go_enter Tryz.func83, Tryz.ntmps83
  go_wp2_with fail
  refine (has_no _ _ [a, b] _ hp0 hp Ints.new2 (U64s.cons ha0 ha (U64s.one hb0 hb)) hh.out).mono ?_
  rintro e w' ⟨rfl, rfl⟩
  go_wp2_with fail
  go_ret2
  exact ⟨rfl, (by repeat (first | exact Ext.refl _ | assumption | refine Ext.drew ?_ | refine Ext.drewN ?_ _ | refine Ext.alloc ?_ _ | refine Ext.trans ?_ (by assumption)))⟩

set_option maxHeartbeats 400000 in
theorem sub_yes (p a b : Int) (w : World) (hp : rightB p = true) (ha0 : 0 ≤ a) (ha : a < p) (hb0 : 0 ≤ b) (hb : b < p) :
    Calls Tryz.prog 89 #[.int .u64 p, .int .u64 a, .int .u64 b] w (Ret (.tuple #[.int .u64 ((a - b) % p), .int .i64 0]) w) := by
  have hp2 := rightB_true hp
  have hh := hid (hasB_two hp ha hb)
  have e1 : (a + p - b) % p = (a - b) % p := by rw [show a + p - b = a - b + p by omega, Int.add_emod_right]
  have E1 := hid e1; clear e1
  clear hp
  go_enter Tryz.func89, Tryz.ntmps89
  go_wp2_with fail
  refine (has_yes _ _ [a, b] _ Ints.new2 (U64s.cons (by omega) (by omega) (U64s.one (by omega) (by omega))) hh.out).mono ?_
  rintro e w' ⟨rfl, rfl⟩
  go_wp2_with fail
  refine (less_any _ _ _ (by omega) (by omega) (by omega) (by omega)).mono ?_; rintro e w' ⟨rfl, rfl⟩
  go_wp2_with fail
  go_ret2
  exact ⟨by rw [← E1.out]; rfl, (by repeat (first | exact Ext.refl _ | assumption | refine Ext.drew ?_ | refine Ext.drewN ?_ _ | refine Ext.alloc ?_ _ | refine Ext.trans ?_ (by assumption)))⟩
set_option maxHeartbeats 400000 in
theorem sub_no (p a b : Int) (w : World) (hp0 : 0 ≤ p) (hp : p ≤ 18446744073709551615) (ha0 : 0 ≤ a) (ha : a ≤ 18446744073709551615) (hb0 : 0 ≤ b) (hb : b ≤ 18446744073709551615) (h : hasB p [a, b] = false) :
    Calls Tryz.prog 89 #[.int .u64 p, .int .u64 a, .int .u64 b] w (Ret (.tuple #[.int .u64 0, .int .i64 1]) w) := by
  have hh := hid h
  clear h
  go_enter Tryz.func89, Tryz.ntmps89
  go_wp2_with fail
  refine (has_no _ _ [a, b] _ hp0 hp Ints.new2 (U64s.cons ha0 ha (U64s.one hb0 hb)) hh.out).mono ?_
  rintro e w' ⟨rfl, rfl⟩
  go_wp2_with fail
  go_ret2
  exact ⟨rfl, (by repeat (first | exact Ext.refl _ | assumption | refine Ext.drew ?_ | refine Ext.drewN ?_ _ | refine Ext.alloc ?_ _ | refine Ext.trans ?_ (by assumption)))⟩

set_option maxHeartbeats 400000 in
theorem mul_yes (p a b : Int) (w : World) (hp : rightB p = true) (ha0 : 0 ≤ a) (ha : a < p) (hb0 : 0 ≤ b) (hb : b < p) :
    Calls Tryz.prog 82 #[.int .u64 p, .int .u64 a, .int .u64 b] w (Ret (.tuple #[.int .u64 (a * b % p), .int .i64 0]) w) := by
  have hp2 := rightB_true hp
  have hh := hid (hasB_two hp ha hb)
  clear hp
  go_enter Tryz.func82, Tryz.ntmps82
  go_wp2_with fail
  refine (has_yes _ _ [a, b] _ Ints.new2 (U64s.cons (by omega) (by omega) (U64s.one (by omega) (by omega))) hh.out).mono ?_
  rintro e w' ⟨rfl, rfl⟩
  go_wp2_with fail
  refine (times_any _ _ _ _ (by omega) (by omega) (by omega) (by omega) (by omega) (by omega) (.inl ha)).mono ?_; rintro e w' ⟨rfl, n, rfl⟩
  go_wp2_with fail
  go_ret2
  exact ⟨rfl, (by repeat (first | exact Ext.refl _ | assumption | refine Ext.drew ?_ | refine Ext.drewN ?_ _ | refine Ext.alloc ?_ _ | refine Ext.trans ?_ (by assumption)))⟩
set_option maxHeartbeats 400000 in
theorem mul_no (p a b : Int) (w : World) (hp0 : 0 ≤ p) (hp : p ≤ 18446744073709551615) (ha0 : 0 ≤ a) (ha : a ≤ 18446744073709551615) (hb0 : 0 ≤ b) (hb : b ≤ 18446744073709551615) (h : hasB p [a, b] = false) :
    Calls Tryz.prog 82 #[.int .u64 p, .int .u64 a, .int .u64 b] w (Ret (.tuple #[.int .u64 0, .int .i64 1]) w) := by
  have hh := hid h
  clear h
  go_enter Tryz.func82, Tryz.ntmps82
  go_wp2_with fail
  refine (has_no _ _ [a, b] _ hp0 hp Ints.new2 (U64s.cons ha0 ha (U64s.one hb0 hb)) hh.out).mono ?_
  rintro e w' ⟨rfl, rfl⟩
  go_wp2_with fail
  go_ret2
  exact ⟨rfl, (by repeat (first | exact Ext.refl _ | assumption | refine Ext.drew ?_ | refine Ext.drewN ?_ _ | refine Ext.alloc ?_ _ | refine Ext.trans ?_ (by assumption)))⟩

theorem and_one (n : Int) (h0 : 0 ≤ n) (h : n ≤ 18446744073709551615) : bits .and .u64 n 1 = n % 2 := by
  rw [u64_and n 1 h0 (by omega) (by omega) (by omega)]
  show ((n.toNat &&& 1 : Nat) : Int) = n % 2
  rw [Nat.and_one_is_mod]; omega


set_option maxHeartbeats 400000 in
theorem inv_both (p a : Int) (w : World) (hp : rightB p = true) (ha0 : 0 ≤ a) (ha : a < p) :
    Calls Tryz.prog 96 #[.int .u64 p, .int .u64 a] w (Ret (if unitB p a then .tuple #[.int .u64 (minv p a), .int .i64 0] else .tuple #[.int .u64 0, .int .i64 5]) w) := by
  have hp2 := rightB_true hp
  have hh := hid (hasB_one hp ha)
  clear hp
  generalize hR : (if unitB p a then Value.tuple #[.int .u64 (minv p a), .int .i64 0] else .tuple #[.int .u64 0, .int .i64 5]) = R
  have HR := hid hR; clear hR
  go_enter Tryz.func96, Tryz.ntmps96
  go_wp2_with fail
  refine (has_yes _ _ [a] _ Ints.new1 (U64s.one (by omega) (by omega)) hh.out).mono ?_
  rintro e w' ⟨rfl, rfl⟩
  go_wp2_with fail
  go_loopw [6, 7, 8, 9] (fun v6 v7 v8 v9 wr => ∃ l n s t : Int, v6 = .int .u64 l ∧ v7 = .int .u64 n ∧ v8 = .int .u64 s ∧ v9 = .int .u64 t ∧ 0 < l ∧ l ≤ p ∧ 0 ≤ n ∧ n < l ∧ 0 ≤ s ∧ s < p ∧ 0 ≤ t ∧ t < p ∧
    a * s % p = l % p ∧ a * t % p = n % p ∧ Int.gcd l n = Int.gcd p a ∧ Ext w wr) (fun _ v7 _ _ _ => (intOf v7).toNat)
  case atStart => exact ⟨p, a, 0, 1, rfl, rfl, rfl, rfl, by omega, by omega, ha0, ha, by omega, by omega, by omega, by omega, by simp, by simp, rfl, (by repeat (first | exact Ext.refl _ | assumption | refine Ext.drew ?_ | refine Ext.drewN ?_ _ | refine Ext.alloc ?_ _ | refine Ext.trans ?_ (by assumption)))⟩
  case round =>
    obtain ⟨l, n, s, t, rfl, rfl, rfl, rfl, hl0, hl, hn0, hn, hs0, hs, ht0, ht, h1, h2, h3, hw⟩ := hrel
    have H1 := hid h1; have H2 := hid h2; have H3 := hid h3; clear h1 h2 h3
    by_cases h0 : 0 < n
    · have hq0 : 0 ≤ l / n := Int.ediv_nonneg (by omega) (by omega)
      have hq1 : l / n ≤ l := Int.ediv_le_self _ (by omega)
      have hm := Int.emod_nonneg l (show n ≠ 0 by omega)
      have hm2 := Int.emod_lt_of_pos l h0
      have hn1 : n ≠ 0 := by omega
      have r1 := mod_range (l / n * t) hp2.1
      have r2 := mod_range (s + p - l / n * t) hp2.1
      have e1 : (s + p - l / n * t) % p = (s - l / n * t) % p := by rw [show s + p - l / n * t = s - l / n * t + p by omega, Int.add_emod_right]
      have E1 := hid e1; clear e1
      have hrd := inv_round H1.out H2.out
      rw [← E1.out] at hrd
      have Hrd := hid hrd; clear hrd
      have hgs := gcd_step (a := l) (b := n) (by omega) hn0
      have Hgs := hid hgs; clear hgs
      go_wp2_with fail
      go_quiet (fail)
      go_wp2_with fail
      refine (times_any p _ _ _ (by omega) (by omega) (by omega) (by omega) (by omega) (by omega) (.inr ht)).mono ?_
      rintro e w' ⟨rfl, m, rfl⟩
      go_wp2_with fail
      refine (less_any p _ _ (by omega) (by omega) (by omega) (by omega)).mono ?_
      rintro e w' ⟨rfl, rfl⟩
      go_wp2_with fail
      go_roundw
      case rel => exact ⟨_, _, _, _, rfl, rfl, rfl, rfl, h0, by omega, hm, hm2, ht0, ht, r2.1, r2.2, H2.out, Hrd.out, by rw [Hgs.out, H3.out], (by repeat (first | exact Ext.refl _ | assumption | refine Ext.drew ?_ | refine Ext.drewN ?_ _ | refine Ext.alloc ?_ _ | refine Ext.trans ?_ (by assumption)))⟩
      case measure => simp [intOf]; omega
    · obtain rfl : n = 0 := by omega
      have h4 := inv_last (p := p) (a := a) (by omega) H3.out
      by_cases h1 : l = 1
      · subst h1
        have h5 := minv_eq hs0 hs (H1.out.trans (mod_small (by omega) (by omega)))
        rw [h4] at HR
        have h6 := HR.out
        rw [h5] at h6
        simp only [decide_true, if_true] at h6
        clear h4 h5
        have H6 := hid h6; clear h6
        go_wp2_with fail
        go_ret2
        exact ⟨by rw [← H6.out]; rfl, (by repeat (first | exact Ext.refl _ | assumption | refine Ext.drew ?_ | refine Ext.drewN ?_ _ | refine Ext.alloc ?_ _ | refine Ext.trans ?_ (by assumption)))⟩
      · have h6 := HR.out
        rw [h4, decide_eq_false h1] at h6
        simp only [Bool.false_eq_true, if_false] at h6
        clear h4
        have H6 := hid h6; clear h6
        have t1 : (l == 1) = false := by simpa using h1
        go_wp2_with fail
        go_ret2
        exact ⟨by rw [← H6.out]; rfl, (by repeat (first | exact Ext.refl _ | assumption | refine Ext.drew ?_ | refine Ext.drewN ?_ _ | refine Ext.alloc ?_ _ | refine Ext.trans ?_ (by assumption)))⟩
theorem inv_yes (p a : Int) (w : World) (hp : rightB p = true) (ha0 : 0 ≤ a) (ha : a < p) (hu : unitB p a = true) :
    Calls Tryz.prog 96 #[.int .u64 p, .int .u64 a] w (Ret (.tuple #[.int .u64 (minv p a), .int .i64 0]) w) := by
  have := inv_both p a w hp ha0 ha
  rwa [hu, if_pos rfl] at this
theorem inv_zero (p a : Int) (w : World) (hp : rightB p = true) (ha0 : 0 ≤ a) (ha : a < p) (hu : unitB p a = false) :
    Calls Tryz.prog 96 #[.int .u64 p, .int .u64 a] w (Ret (.tuple #[.int .u64 0, .int .i64 5]) w) := by
  have := inv_both p a w hp ha0 ha
  rwa [hu, if_neg (by decide)] at this
theorem inv_no (p a : Int) (w : World) (hp0 : 0 ≤ p) (hp : p ≤ 18446744073709551615) (ha0 : 0 ≤ a) (ha : a ≤ 18446744073709551615) (h : hasB p [a] = false) :
    Calls Tryz.prog 96 #[.int .u64 p, .int .u64 a] w (Ret (.tuple #[.int .u64 0, .int .i64 1]) w) := by
  have hh := hid h
  clear h
  go_enter Tryz.func96, Tryz.ntmps96
  go_wp2_with fail
  refine (has_no _ _ [a] _ hp0 hp Ints.new1 (U64s.one ha0 ha) hh.out).mono ?_
  rintro e w' ⟨rfl, rfl⟩
  go_wp2_with fail
  go_ret2
  exact ⟨rfl, (by repeat (first | exact Ext.refl _ | assumption | refine Ext.drew ?_ | refine Ext.drewN ?_ _ | refine Ext.alloc ?_ _ | refine Ext.trans ?_ (by assumption)))⟩
/-! ### The same, where the answer has a name already. -/
theorem add_as (p a b r : Int) (w : World) (hp : rightB p = true) (ha0 : 0 ≤ a) (ha : a < p) (hb0 : 0 ≤ b) (hb : b < p) (h : (a + b) % p = r) :
    Calls Tryz.prog 83 #[.int .u64 p, .int .u64 a, .int .u64 b] w (Ret (.tuple #[.int .u64 r, .int .i64 0]) w) := h ▸ add_yes p a b w hp ha0 ha hb0 hb
theorem sub_as (p a b r : Int) (w : World) (hp : rightB p = true) (ha0 : 0 ≤ a) (ha : a < p) (hb0 : 0 ≤ b) (hb : b < p) (h : (a - b) % p = r) :
    Calls Tryz.prog 89 #[.int .u64 p, .int .u64 a, .int .u64 b] w (Ret (.tuple #[.int .u64 r, .int .i64 0]) w) := h ▸ sub_yes p a b w hp ha0 ha hb0 hb
theorem mul_as (p a b r : Int) (w : World) (hp : rightB p = true) (ha0 : 0 ≤ a) (ha : a < p) (hb0 : 0 ≤ b) (hb : b < p) (h : a * b % p = r) :
    Calls Tryz.prog 82 #[.int .u64 p, .int .u64 a, .int .u64 b] w (Ret (.tuple #[.int .u64 r, .int .i64 0]) w) := h ▸ mul_yes p a b w hp ha0 ha hb0 hb
theorem inv_as (p a r : Int) (w : World) (hp : rightB p = true) (ha0 : 0 ≤ a) (ha : a < p) (hu : unitB p a = true) (h : minv p a = r) :
    Calls Tryz.prog 96 #[.int .u64 p, .int .u64 a] w (Ret (.tuple #[.int .u64 r, .int .i64 0]) w) := h ▸ inv_yes p a w hp ha0 ha hu
theorem hasB_sub {p : Int} {xs ys : List Int} (h : hasB p xs = true) (hs : ∀ y ∈ ys, y ∈ xs) : hasB p ys = true :=
  hasB_mk (hasB_true h).1 fun y hy => (hasB_true h).2 y (hs y hy)
theorem hasB_take' {p : Int} {xs : List Int} (h : hasB p xs = true) (n : Nat) : hasB p (xs.take n) = true := hasB_sub h fun _ hy => List.mem_of_mem_take hy
theorem hasB_drop' {p : Int} {xs : List Int} (h : hasB p xs = true) (n : Nat) : hasB p (xs.drop n) = true := hasB_sub h fun _ hy => List.mem_of_mem_drop hy
/-- a number of p, under a name -/
theorem name_mod {p : Int} (a : Int) (hp : 2 ≤ p) : ∃ r, a % p = r ∧ 0 ≤ r ∧ r < p := ⟨_, rfl, mod_range a hp⟩
end Go.Proofs.YtijpeepdedfhoaaGreat
/- Polynomials modulo p as lists of numbers: their series, degrees, division, divisors, values (in plain Lean; nothing of a program). -/
namespace Go.Proofs.YtijpeepdedfhoaaGreat
variable {p : Int}

namespace Ser
/-- no term from n on -/
def low (a : Ser p) (n : Nat) : Prop := ∀ k, n ≤ k → a.co k = 0
/-- a polynomial -/
def poly (a : Ser p) : Prop := ∃ n, a.low n
theorem low.mono {a : Ser p} {m n : Nat} (h : a.low m) (hn : m ≤ n) : a.low n := fun k hk => h k (by omega)
theorem low.add {a b : Ser p} {n : Nat} (h : a.low n) (h' : b.low n) : (a + b).low n := fun k hk => by rw [add_co, h k hk, h' k hk]; simp
theorem low.sub {a b : Ser p} {n : Nat} (h : a.low n) (h' : b.low n) : (a - b).low n := fun k hk => by rw [sub_co, h k hk, h' k hk]; simp
theorem low_zero (n : Nat) : (0 : Ser p).low n := fun k _ => zero_co k
theorem low_C (c : Int) : (C p c).low 1 := fun k hk => by rw [C_co, if_neg (by omega)]
theorem low.zero {a : Ser p} (h : a.low 0) : a = 0 := ext_ fun k => by rw [h k (by omega), zero_co]
/-- the greatest term of a product -/
theorem mul_top {a b : Ser p} {m n : Nat} (h : a.low (m + 1)) (h' : b.low (n + 1)) : (a * b).co (m + n) = a.co m * b.co n % p ∧ (a * b).low (m + n + 1) := by
  refine ⟨?_, fun k hk => ?_⟩
  · rw [mul_co, cv, sm_piece m 1 (by omega) (fun i hi => by rw [h' _ (by omega), Int.mul_zero]) (fun i h1 h2 => by rw [h _ (by omega), Int.zero_mul])]
    simp [sm]
  · rw [mul_co, cv, sm_zero fun i hi => ?_, Int.zero_emod]
    rcases Nat.lt_or_ge i (m + 1) with h1 | h1
    · rw [h' _ (by omega), Int.mul_zero]
    · rw [h _ h1, Int.zero_mul]
theorem low.mul {a b : Ser p} {m n : Nat} (h : a.low m) (h' : b.low n) : (a * b).low (m + n - 1) := by
  cases m with
  | zero => rw [h.zero, zero_mul]; exact low_zero _
  | succ m =>
    cases n with
    | zero => rw [h'.zero, mul_zero]; exact low_zero _
    | succ n => exact (mul_top h h').2.mono (by omega)
theorem poly.add {a b : Ser p} (h : a.poly) (h' : b.poly) : (a + b).poly := by
  obtain ⟨m, h⟩ := h; obtain ⟨n, h'⟩ := h'
  exact ⟨max m n, (h.mono (by omega)).add (h'.mono (by omega))⟩
theorem poly.sub {a b : Ser p} (h : a.poly) (h' : b.poly) : (a - b).poly := by
  obtain ⟨m, h⟩ := h; obtain ⟨n, h'⟩ := h'
  exact ⟨max m n, (h.mono (by omega)).sub (h'.mono (by omega))⟩
theorem poly.mul {a b : Ser p} (h : a.poly) (h' : b.poly) : (a * b).poly := by
  obtain ⟨m, h⟩ := h; obtain ⟨n, h'⟩ := h'
  exact ⟨_, h.mul h'⟩
theorem poly_C (c : Int) : (C p c).poly := ⟨1, low_C c⟩
theorem poly_zero : (0 : Ser p).poly := ⟨0, low_zero 0⟩
theorem poly_one : (1 : Ser p).poly := poly_C 1
/-- who is a polynomial but 0 has a greatest term -/
theorem poly.top {a : Ser p} (h : a.poly) (h0 : a ≠ 0) : ∃ d, a.co d ≠ 0 ∧ a.low (d + 1) := by
  obtain ⟨n, h⟩ := h
  induction n with
  | zero => exact absurd h.zero h0
  | succ n ih =>
    by_cases e : a.co n = 0
    · exact ih fun k hk => by
        rcases Nat.lt_or_ge n k with h1 | h1
        · exact h k (by omega)
        · rw [show k = n by omega]; exact e
    · exact ⟨n, e, h⟩
theorem co_range (a : Ser p) (hp : 2 ≤ p) (k : Nat) : 0 ≤ a.co k ∧ a.co k < p := by rw [← a.ok k]; exact mod_range _ hp
/-- division has one quotient and one rest -/
theorem div_unique {q b r : Ser p} {n : Nat} (hb : b.low (n + 1)) {i : Int} (hi : b.co n * i % p = 1) (hq : q.poly) (hr : r.low n) (h : q * b + r = 0) : q = 0 ∧ r = 0 := by
  have h0 : q = 0 := by
    obtain ⟨m, hm⟩ := hq
    induction m with
    | zero => exact hm.zero
    | succ m ih =>
      refine ih fun k hk => ?_
      rcases Nat.lt_or_ge m k with h1 | h1
      · exact hm k (by omega)
      obtain rfl : k = m := by omega
      have e := congrArg (fun s : Ser p => s.co (k + n)) h
      simp only [add_co, zero_co, (mul_top hm hb).1, hr (k + n) (by omega), Int.add_zero] at e
      rw [Int.emod_emod_of_dvd _ (Int.dvd_refl _)] at e
      have e2 : q.co k * (b.co n * i) % p = 0 := by rw [← Int.mul_assoc, ← mm_l, e]; simp
      rw [← mm_r, hi, Int.mul_one, q.ok] at e2
      exact e2
  refine ⟨h0, ?_⟩
  rw [h0, zero_mul, zero_add] at h
  exact h
end Ser

/-! ### Lists -/
/-- a list's polynomial -/
def pol (p : Int) (xs : List Int) : Ser p := .of p fun k => xs.getD k 0
theorem pol_co (xs : List Int) (k : Nat) : (pol p xs).co k = xs.getD k 0 % p := rfl
theorem getD_over {xs : List Int} {k : Nat} (h : xs.length ≤ k) : xs.getD k 0 = 0 := by simp [List.getD, List.getElem?_eq_none h]
theorem pol_low (xs : List Int) : (pol p xs).low xs.length := fun k hk => by rw [pol_co, getD_over hk]; simp
theorem pol_poly (xs : List Int) : (pol p xs).poly := ⟨_, pol_low xs⟩
theorem pol_nil : pol p [] = 0 := (pol_low []).zero
theorem pol_single (c : Int) : pol p [c] = Ser.C p c := Ser.ext_ fun k => by
  rw [pol_co, Ser.C_co]
  cases k <;> simp
/-- numbers of p -/
def Rng (p : Int) (xs : List Int) : Prop := ∀ x ∈ xs, 0 ≤ x ∧ x < p
theorem Rng.get {xs : List Int} (h : Rng p xs) {k : Nat} (hk : k < xs.length) : 0 ≤ xs.getD k 0 ∧ xs.getD k 0 < p := by
  have e : xs.getD k 0 = xs[k] := by simp [List.getD, List.getElem?_eq_getElem hk]
  rw [e]; exact h _ (List.getElem_mem hk)
theorem Rng.getD {xs : List Int} (h : Rng p xs) (hp : 2 ≤ p) (k : Nat) : 0 ≤ xs.getD k 0 ∧ xs.getD k 0 < p := by
  rcases Nat.lt_or_ge k xs.length with h1 | h1
  · exact h.get h1
  · rw [getD_over h1]; omega
theorem Rng.co {xs : List Int} (h : Rng p xs) (k : Nat) : (pol p xs).co k = xs.getD k 0 := by
  rcases Nat.lt_or_ge k xs.length with h1 | h1
  · exact mod_small (h.get h1).1 (h.get h1).2
  · rw [pol_co, getD_over h1]; simp
theorem Rng.nil : Rng p [] := fun x hx => by simp at hx
theorem Rng.take {xs : List Int} (h : Rng p xs) (n : Nat) : Rng p (xs.take n) := fun x hx => h x (List.mem_of_mem_take hx)
theorem Rng.one {c : Int} (h0 : 0 ≤ c) (h : c < p) : Rng p [c] := fun x hx => by
  obtain rfl : x = c := by simpa using hx
  exact ⟨h0, h⟩
theorem Rng.u64 {xs : List Int} (h : Rng p xs) (hp : p ≤ 9223372036854775807) : U64s xs := fun x hx => by have := h x hx; omega
theorem Rng.has {xs : List Int} (h : Rng p xs) (hp : rightB p = true) : hasB p xs = true := hasB_mk hp fun x hx => (h x hx).2
theorem Rng.of_get {xs : List Int} (h : ∀ k, k < xs.length → 0 ≤ xs.getD k 0 ∧ xs.getD k 0 < p) : Rng p xs := fun x hx => by
  obtain ⟨j, hj, rfl⟩ := List.mem_iff_getElem.1 hx
  have := h j hj
  simpa [List.getD, List.getElem?_eq_getElem hj] using this

/-- a polynomial as it is kept: numbers of p, the last one not 0 -/
structure Pol (p : Int) (xs : List Int) : Prop where
  rng : Rng p xs
  top : 0 < xs.length → xs.getD (xs.length - 1) 0 ≠ 0
theorem Pol.nil : Pol p [] := ⟨Rng.nil, fun h => by simp at h⟩
theorem Pol.one {c : Int} (h0 : 0 < c) (h : c < p) : Pol p [c] := ⟨Rng.one (by omega) h, fun _ => by simp; omega⟩
theorem Pol.len_le {xs : List Int} (h : Pol p xs) {n : Nat} (hl : (pol p xs).low n) : xs.length ≤ n := by
  apply Classical.byContradiction
  intro hn
  have := hl (xs.length - 1) (by omega)
  rw [h.rng.co] at this
  exact h.top (by omega) this
theorem Pol.inj {xs ys : List Int} (h : Pol p xs) (h' : Pol p ys) (e : pol p xs = pol p ys) : xs = ys := by
  have h1 : xs.length ≤ ys.length := h.len_le (e ▸ pol_low ys)
  have h2 : ys.length ≤ xs.length := h'.len_le (e ▸ pol_low xs)
  refine List.ext_getElem (by omega) fun k h3 h4 => ?_
  have := congrArg (fun s : Ser p => s.co k) e
  simp only [h.rng.co, h'.rng.co] at this
  simpa [List.getD, List.getElem?_eq_getElem h3, List.getElem?_eq_getElem h4] using this
theorem Pol.zero {xs : List Int} (h : Pol p xs) (e : pol p xs = 0) : xs = [] := h.inj Pol.nil (by rw [e, pol_nil])
theorem Pol.ne {xs : List Int} (h : Pol p xs) (h0 : xs ≠ []) : pol p xs ≠ 0 := fun e => h0 (h.zero e)
/-- the greatest number of a polynomial -/
def lead (xs : List Int) : Int := xs.getD (xs.length - 1) 0
theorem Pol.lead_ne {xs : List Int} (h : Pol p xs) (h0 : xs ≠ []) : lead xs ≠ 0 := h.top (List.length_pos_iff.2 h0)
theorem Pol.lead_range {xs : List Int} (h : Pol p xs) (h0 : xs ≠ []) : 0 < lead xs ∧ lead xs < p := by
  have h1 := h.rng.get (k := xs.length - 1) (by have := List.length_pos_iff.2 h0; omega)
  have h2 := h.lead_ne h0
  unfold lead at h2 ⊢
  omega
/-- without the noughts at its end -/
theorem Pol.trim {xs : List Int} (hr : Rng p xs) {n : Nat} (hn : n ≤ xs.length) (h0 : ∀ j, n ≤ j → xs.getD j 0 = 0) (ht : 0 < n → xs.getD (n - 1) 0 ≠ 0) : Pol p (xs.take n) ∧ pol p (xs.take n) = pol p xs := by
  have hl : (xs.take n).length = n := by simp; omega
  have hg : ∀ k, (xs.take n).getD k 0 = xs.getD k 0 := fun k => by
    rcases Nat.lt_or_ge k n with h1 | h1
    · simp [List.getD, h1]
    · rw [h0 k h1, getD_over (by omega)]
  refine ⟨⟨hr.take n, fun h => ?_⟩, Ser.of_eq fun k => by rw [hg]⟩
  rw [hl] at h
  rw [hl, hg]
  exact ht h

/-! ### Division by who has an inverse at its top -/
theorem pol_div_unique {q r q' r' : Ser p} {ys : List Int} (hy : Pol p ys) (h0 : ys ≠ []) {i : Int} (hi : lead ys * i % p = 1) (hq : q.poly) (hq' : q'.poly) (hr : r.low (ys.length - 1)) (hr' : r'.low (ys.length - 1))
    (h : q * pol p ys + r = q' * pol p ys + r') : q = q' ∧ r = r' := by
  have hl := List.length_pos_iff.2 h0
  have hb : (pol p ys).low (ys.length - 1 + 1) := (pol_low ys).mono (by omega)
  have e : (q - q') * pol p ys + (r - r') = 0 := by
    have h1 : q - q' + q' = q := Ser.sub_add q q'
    have h2 : r - r' + r' = r := Ser.sub_add r r'
    rw [← h1, ← h2, Ser.add_mul] at h
    refine Ser.add_right_cancel (c := q' * pol p ys + r') (Eq.trans ?_ (h.trans (Ser.zero_add _).symm))
    ac_rfl
  obtain ⟨e1, e2⟩ := Ser.div_unique hb (by rw [hy.rng.co]; exact hi) (hq.sub hq') (hr.sub hr') e
  exact ⟨Ser.eq_of_sub e1, Ser.eq_of_sub e2⟩
/-- who is a multiple of y, and isn't 0, is no shorter -/
theorem len_mul {xs ys : List Int} (hx : Pol p xs) (hx0 : xs ≠ []) (hy : Pol p ys) {i : Int} (hi : lead ys * i % p = 1) {q : Ser p} (hq : q.poly) (h : pol p xs = q * pol p ys) : ys.length ≤ xs.length := by
  by_cases hy0 : ys = []
  · rw [hy0]; simp
  have hl := List.length_pos_iff.2 hy0
  have q0 : q ≠ 0 := fun e => hx.ne hx0 (by rw [h, e, Ser.zero_mul])
  obtain ⟨d, d1, d2⟩ := hq.top q0
  have e := (Ser.mul_top (n := ys.length - 1) d2 ((pol_low ys).mono (by omega))).1
  rw [← h] at e
  apply Classical.byContradiction
  intro hn
  rw [pol_low xs (d + (ys.length - 1)) (by omega), hy.rng.co] at e
  have e2 : q.co d * (lead ys * i) % p = 0 := by rw [← Int.mul_assoc, ← mm_l, show lead ys = ys.getD (ys.length - 1) 0 from rfl, ← e]; simp
  rw [← mm_r, hi, Int.mul_one, q.ok] at e2
  exact d1 e2
end Go.Proofs.YtijpeepdedfhoaaGreat
/- Fields: every number but 0 has an inverse. -/
namespace Go.Proofs.YtijpeepdedfhoaaGreat

/-- every number but 0 has an inverse -/
def Fld (p : Int) : Prop := ∀ a, 0 < a → a < p → unitB p a = true
theorem Fld.unit_lead {p : Int} (h : Fld p) {xs : List Int} (hx : Pol p xs) (h0 : xs ≠ []) : unitB p (lead xs) = true := h _ (hx.lead_range h0).1 (hx.lead_range h0).2

theorem list_ext {xs ys : List Int} (hl : xs.length = ys.length) (h : ∀ j, j < xs.length → xs.getD j 0 = ys.getD j 0) : xs = ys := by
  refine List.ext_getElem hl fun j h1 h2 => ?_
  have := h j h1
  simpa [List.getD, List.getElem?_eq_getElem h1, List.getElem?_eq_getElem h2] using this
end Go.Proofs.YtijpeepdedfhoaaGreat
/- The document's own answer to: are two lists the same? -/
namespace Go.Proofs.YtijpeepdedfhoaaGreat
open Go.RowKit

/-! ### Are two lists the same? -/
set_option maxHeartbeats 1000000 in
theorem same_any (v u : Value) (xs ys : List Int) (w : World) (hv : Ints .u64 w v xs) (hu : Ints .u64 w u ys) :
    Calls Tryz.prog 24 #[v, u] w (Ret (.bool (decide (xs = ys))) w) := by
  obtain ⟨a, cap, rfl, h1, h2, h3⟩ := hv
  obtain ⟨a', cap', rfl, k1, k2, k3⟩ := hu
  have H3 := hid h3; have K3 := hid k3
  clear h3 k3
  obtain ⟨D, hD⟩ : ∃ D, decide (xs = ys) = D := ⟨_, rfl⟩
  rw [hD]
  by_cases hl : xs.length = ys.length
  · have b1 : ((xs.length : Int) != (ys.length : Int)) = false := by rw [hl]; simp
    have HD := hid hD
    have Hl := hid hl
    obtain ⟨L, hL⟩ : ∃ L, ys.length = L := ⟨_, rfl⟩
    have HL := hid hL
    rw [hl] at H3 h1 b1 ⊢
    rw [hL] at H3 K3 h1 k1 b1 ⊢
    clear hl hL hD
    go_enter Tryz.func24, Tryz.ntmps24
    go_wp2_with fail
    go_loopw [5] (fun i wr => ∃ k : Nat, i = .int .i64 k ∧ k ≤ L ∧ Hid (∀ j, j < k → xs.getD j 0 = ys.getD j 0) ∧ Ext w wr) (fun i _ => L - (intOf i).toNat)
    case atStart => exact ⟨0, rfl, Nat.zero_le _, hid (by simp), (by repeat (first | exact Ext.refl _ | assumption | refine Ext.drew ?_ | refine Ext.drewN ?_ _ | refine Ext.alloc ?_ _ | refine Ext.trans ?_ (by assumption)))⟩
    case round =>
      obtain ⟨k, rfl, hk, hall, hw⟩ := hrel
      by_cases hlt : k < L
      · obtain ⟨b, off, rfl, hb, hc⟩ := H3.out (by omega)
        obtain ⟨b', off', rfl, hb', hc'⟩ := K3.out (by omega)
        have g1 := (hw.cells _ _ hb).trans (hc k hlt)
        have g2 := (hw.cells _ _ hb').trans (hc' k hlt)
        obtain ⟨x, ex⟩ : ∃ x, xs.getD k 0 = x := ⟨_, rfl⟩
        obtain ⟨y, ey⟩ : ∃ y, ys.getD k 0 = y := ⟨_, rfl⟩
        rw [ex] at g1; rw [ey] at g2
        have Ex := hid ex; have Ey := hid ey
        clear hc hc' ex ey
        by_cases hxy : x = y
        · have b3 : (x != y) = false := by simp [hxy]
          have Hxy := hid hxy
          clear hxy
          go_wp2_with fail
          go_quiet (fail)
          go_wp2_with fail
          go_roundw
          case rel => exact ⟨k + 1, by go_num, by omega, hid (fun j hj => by
            by_cases e : j = k
            · rw [e, Ex.out, Ey.out]; exact Hxy.out
            · exact hall.out j (by omega)), hw.drewN _⟩
          case measure => simp [intOf]; omega
        · have b3 : (x != y) = true := by simp [hxy]
          have Hxy := hid hxy
          clear hxy
          go_wp2_with fail
          go_quiet (fail)
          go_wp2_with fail
          go_ret
          refine ⟨ret_bool ?_, hw.drewN _⟩
          rw [← HD.out]
          symm
          exact decide_eq_false (fun e => Hxy.out (by rw [← Ex.out, ← Ey.out, e]))
      · obtain rfl : L = k := by omega
        go_wp2_with fail
        go_ret
        refine ⟨ret_bool ?_, hw⟩
        rw [← HD.out]
        symm
        exact decide_eq_true (list_ext Hl.out fun j hj => hall.out j (by rw [← HL.out, ← Hl.out]; exact hj))
  · have b1 : ((xs.length : Int) != (ys.length : Int)) = true := by simp; omega
    have e : D = false := by rw [← hD]; exact decide_eq_false (fun e => hl (by rw [e]))
    subst e
    clear hl hD
    go_enter Tryz.func24, Tryz.ntmps24
    go_wp2_with fail
    go_ret
    exact ⟨rfl, (by repeat (first | exact Ext.refl _ | assumption | refine Ext.drew ?_ | refine Ext.drewN ?_ _ | refine Ext.alloc ?_ _ | refine Ext.trans ?_ (by assumption)))⟩
theorem same_yes (v u : Value) (xs : List Int) (w : World) (hv : Ints .u64 w v xs) (hu : Ints .u64 w u xs) :
    Calls Tryz.prog 24 #[v, u] w (Ret (.bool true) w) := by
  have := same_any v u xs xs w hv hu
  rwa [show decide (xs = xs) = true by simp] at this
end Go.Proofs.YtijpeepdedfhoaaGreat
/- What package poly's small functions answer: last, trimmed, the ring's, the last one's inverse, Right. -/
namespace Go.Proofs.YtijpeepdedfhoaaGreat
open Go.RowKit

set_option maxHeartbeats 400000 in
theorem last_any (v : Value) (xs : List Int) (w : World) (hv : Ints .u64 w v xs) (h0 : 0 < xs.length) :
    Calls Tryz.prog 61 #[v] w fun e w' => e = .returned (.int .u64 (lead xs)) ∧ w = w' := by
  obtain ⟨a, cap, rfl, hc1, hc2, hc⟩ := hv
  obtain ⟨b, off, rfl, hb, hcell⟩ := hc h0
  have g := hcell (xs.length - 1) (by omega)
  obtain ⟨r, hr⟩ : ∃ r, lead xs = r := ⟨_, rfl⟩
  rw [show xs.getD (xs.length - 1) 0 = lead xs from rfl, hr] at g
  have Hr := hid hr
  clear hcell hr
  obtain ⟨n, hn⟩ : ∃ n, xs.length = n + 1 := ⟨xs.length - 1, by omega⟩
  rw [hn] at g hc1 ⊢
  rw [show n + 1 - 1 = n by omega] at g
  clear hc h0
  rw [Hr.out]
  clear Hr hn
  go_enter Tryz.func61, Tryz.ntmps61
  go_wp2_with fail
  go_ret
  exact ⟨rfl, rfl⟩

/-- how many are left without the noughts at the end -/
def trimN (xs : List Int) : Nat → Nat
  | 0 => 0
  | n + 1 => if xs.getD n 0 = 0 then trimN xs n else n + 1
theorem trimN_le (xs : List Int) : ∀ n, trimN xs n ≤ n
  | 0 => Nat.le_refl _
  | n + 1 => by
    have := trimN_le xs n
    unfold trimN
    split <;> omega
theorem trimN_zero (xs : List Int) : ∀ n j, trimN xs n ≤ j → j < n → xs.getD j 0 = 0
  | 0, j, _, h => by omega
  | n + 1, j, h1, h2 => by
    unfold trimN at h1
    split at h1
    · rename_i e
      by_cases hj : j = n
      · rw [hj]; exact e
      · exact trimN_zero xs n j h1 (by omega)
    · omega
theorem trimN_top (xs : List Int) : ∀ n, 0 < trimN xs n → xs.getD (trimN xs n - 1) 0 ≠ 0
  | 0, h => by simp [trimN] at h
  | n + 1, h => by
    unfold trimN at h ⊢
    split
    · rename_i e
      rw [if_pos e] at h
      exact trimN_top xs n h
    · rename_i e
      simpa using e
/-- without the noughts at the end -/
def trimL (xs : List Int) : List Int := xs.take (trimN xs xs.length)
theorem trimL_pol {p : Int} {xs : List Int} (h : Rng p xs) : Pol p (trimL xs) ∧ pol p (trimL xs) = pol p xs :=
  Pol.trim h (trimN_le _ _) (fun j hj => by
    rcases Nat.lt_or_ge j xs.length with h1 | h1
    · exact trimN_zero xs _ j hj h1
    · exact getD_over h1) (trimN_top xs _)
theorem lead_take (xs : List Int) {n : Nat} (h : n < xs.length) : lead (xs.take (n + 1)) = xs.getD n 0 := by
  unfold lead
  rw [show (xs.take (n + 1)).length = n + 1 by simp; omega]
  simp [List.getD]

set_option maxHeartbeats 400000 in
theorem trimmed_any (a : Option Addr) (cap : Nat) (xs : List Int) (w : World) (hv : Ints .u64 w (.slice a xs.length cap) xs) :
    Calls Tryz.prog 63 #[.slice a xs.length cap] w fun e w' => e = .returned (.slice a (trimN xs xs.length) cap) ∧ w = w' := by
  obtain ⟨T, hT⟩ : ∃ T, trimN xs xs.length = T := ⟨_, rfl⟩
  obtain ⟨L, hL⟩ : ∃ L, xs.length = L := ⟨_, rfl⟩
  have hcap : L ≤ cap ∧ cap ≤ 9223372036854775807 := by
    obtain ⟨a', cap', e, h1, h2, h3⟩ := hv
    injection e with e1 e2 e3
    omega
  rw [hL] at hv hT ⊢
  rw [hT]
  have HT := hid hT
  have Hv := hid hv
  have HL := hid hL
  clear hT hv hL
  go_enter Tryz.func63, Tryz.ntmps63
  go_wp2_with fail
  go_loop [0] (fun v => ∃ n : Nat, v = .slice a n cap ∧ n ≤ L ∧ Hid (trimN xs n = T)) (fun v => match v with | .slice _ n _ => n | _ => 0)
  case atStart => exact ⟨L, rfl, by omega, HT⟩
  case round =>
    obtain ⟨n, rfl, hn, hr⟩ := hrel
    cases n with
    | zero =>
      have e := hr.out
      have E := hid (show T = 0 by rw [← e]; rfl)
      clear e
      go_wp2_with fail
      go_ret
      exact ⟨by rw [E.out]; rfl, rfl⟩
    | succ n =>
      have hl := last_any (.slice a (n + 1) cap) (xs.take (n + 1)) w (by
        have := Hv.out.take' (n + 1) (by rw [HL.out]; omega)
        exact this) (by simp; rw [HL.out]; omega)
      rw [lead_take xs (by rw [HL.out]; omega)] at hl
      have e := hr.out
      unfold trimN at e
      obtain ⟨x, hx⟩ : ∃ x, xs.getD n 0 = x := ⟨_, rfl⟩
      rw [hx] at hl e
      have Hl := hid hl
      clear hl hr hx
      have h63 : (n : Int) + 1 ≤ (cap : Int) := by omega
      by_cases h0 : x = 0
      · rw [if_pos h0] at e
        have b0 : (x == 0) = true := by simpa using h0
        have E := hid e
        clear e h0
        go_wp2_with (go_at_call 61; refine Hl.out.mono ?_; rintro _ _ ⟨rfl, rfl⟩)
        go_round
        case rel => exact ⟨n, by go_num, by omega, E⟩
        case measure => simp
      · rw [if_neg h0] at e
        have b0 : (x == 0) = false := by simpa using h0
        have E := hid e
        clear e h0
        go_wp2_with (go_at_call 61; refine Hl.out.mono ?_; rintro _ _ ⟨rfl, rfl⟩)
        go_ret
        exact ⟨by rw [← E.out]; rfl, rfl⟩

/-! ### The ring's sums and products -/
set_option maxHeartbeats 400000 in
theorem plus_any (p a b : Int) (w : World) (hp : rightB p = true) (ha0 : 0 ≤ a) (ha : a < p) (hb0 : 0 ≤ b) (hb : b < p) :
    Calls Tryz.prog 48 #[.int .u64 p, .int .u64 a, .int .u64 b] w (Ret (.int .u64 ((a + b) % p)) w) := by
  have Hp := hid hp
  clear hp
  go_enter Tryz.func48, Tryz.ntmps48
  go_wp2_with (go_at_call 83; refine (add_yes p a b _ Hp.out ha0 ha hb0 hb).mono ?_; rintro _ w1 ⟨rfl, h1⟩)
  go_ret
  exact ⟨rfl, h1⟩
set_option maxHeartbeats 400000 in
theorem minus_any (p a b : Int) (w : World) (hp : rightB p = true) (ha0 : 0 ≤ a) (ha : a < p) (hb0 : 0 ≤ b) (hb : b < p) :
    Calls Tryz.prog 62 #[.int .u64 p, .int .u64 a, .int .u64 b] w (Ret (.int .u64 ((a - b) % p)) w) := by
  have Hp := hid hp
  clear hp
  go_enter Tryz.func62, Tryz.ntmps62
  go_wp2_with (go_at_call 89; refine (sub_yes p a b _ Hp.out ha0 ha hb0 hb).mono ?_; rintro _ w1 ⟨rfl, h1⟩)
  go_ret
  exact ⟨rfl, h1⟩
set_option maxHeartbeats 400000 in
theorem rtimes_any (p a b : Int) (w : World) (hp : rightB p = true) (ha0 : 0 ≤ a) (ha : a < p) (hb0 : 0 ≤ b) (hb : b < p) :
    Calls Tryz.prog 49 #[.int .u64 p, .int .u64 a, .int .u64 b] w (Ret (.int .u64 (a * b % p)) w) := by
  have Hp := hid hp
  clear hp
  go_enter Tryz.func49, Tryz.ntmps49
  go_wp2_with (go_at_call 82; refine (mul_yes p a b _ Hp.out ha0 ha hb0 hb).mono ?_; rintro _ w1 ⟨rfl, h1⟩)
  go_ret
  exact ⟨rfl, h1⟩

/-! ### The last one's inverse -/
set_option maxHeartbeats 400000 in
theorem invLast_yes (p : Int) (v : Value) (xs : List Int) (w : World) (hp : rightB p = true) (hv : Ints .u64 w v xs) (h0 : 0 < xs.length) (hr : 0 ≤ lead xs ∧ lead xs < p) (hu : unitB p (lead xs) = true) :
    Calls Tryz.prog 60 #[.int .u64 p, v] w (Ret (.tuple #[.int .u64 (minv p (lead xs)), .int .i64 0]) w) := by
  have hl := last_any v xs w hv h0
  obtain ⟨x, hx⟩ : ∃ x, lead xs = x := ⟨_, rfl⟩
  rw [hx] at hl hr hu ⊢
  have Hp := hid hp; have Hu := hid hu; have Hl := hid hl
  obtain ⟨a, cap, rfl, hc1, hc2, hc⟩ := hv
  have hne : ((xs.length : Int) == 0) = false := by rw [beq_eq_false_iff_ne]; omega
  clear hp hu hl hx hc
  go_enter Tryz.func60, Tryz.ntmps60
  go_wp2_with (first | (go_at_call 61; refine Hl.out.mono ?_; rintro _ _ ⟨rfl, rfl⟩) | (go_at_call 96; refine (inv_yes p x _ Hp.out hr.1 hr.2 Hu.out).mono ?_; rintro _ w1 ⟨rfl, h1⟩))
  go_ret2
  exact ⟨rfl, h1⟩
set_option maxHeartbeats 400000 in
theorem invLast_nil (p : Int) (v : Value) (w : World) (hv : Ints .u64 w v []) :
    Calls Tryz.prog 60 #[.int .u64 p, v] w (Ret (.tuple #[.int .u64 0, .int .i64 5]) w) := by
  obtain ⟨a, cap, rfl, hc1, hc2, hc⟩ := hv
  clear hc
  go_enter Tryz.func60, Tryz.ntmps60
  go_wp2_with fail
  go_ret2
  exact ⟨rfl, (by repeat (first | exact Ext.refl _ | assumption | refine Ext.drew ?_ | refine Ext.drewN ?_ _ | refine Ext.alloc ?_ _ | refine Ext.trans ?_ (by assumption)))⟩

/-! ### Right -/
/-- is it a polynomial that may be? -/
def rightPB (p : Int) (xs : List Int) : Bool := decide (xs.length ≤ 512) && hasB p xs && (decide (xs.length = 0) || !decide (lead xs = 0))
theorem rightPB_iff {p : Int} {xs : List Int} (hx : U64s xs) : rightPB p xs = true ↔ rightB p = true ∧ Pol p xs ∧ xs.length ≤ 512 := by
  unfold rightPB
  constructor
  · intro h
    simp only [Bool.and_eq_true, decide_eq_true_eq, Bool.or_eq_true, Bool.not_eq_true', decide_eq_false_iff_not] at h
    obtain ⟨⟨h1, h2⟩, h3⟩ := h
    obtain ⟨h4, h5⟩ := hasB_true h2
    refine ⟨h4, ⟨fun x hx' => ⟨(hx x hx').1, h5 x hx'⟩, fun h0 => ?_⟩, h1⟩
    rcases h3 with h3 | h3
    · omega
    · exact h3
  · rintro ⟨h1, h2, h3⟩
    simp only [Bool.and_eq_true, decide_eq_true_eq, Bool.or_eq_true, Bool.not_eq_true', decide_eq_false_iff_not]
    refine ⟨⟨h3, h2.rng.has h1⟩, ?_⟩
    by_cases h0 : xs.length = 0
    · exact .inl h0
    · exact .inr (h2.top (by omega))
set_option maxHeartbeats 400000 in
theorem polRight_any (p : Int) (v : Value) (xs : List Int) (w : World) (h0 : 0 ≤ p) (h1 : p ≤ 18446744073709551615) (hv : Ints .u64 w v xs) (hx : U64s xs) :
    Calls Tryz.prog 46 #[.int .u64 p, v] w fun e w' => e = .returned (.bool (rightPB p xs)) ∧ w = w' := by
  have Hv := hid hv; have Hx := hid hx
  obtain ⟨R, hR⟩ : ∃ R, rightPB p xs = R := ⟨_, rfl⟩
  rw [hR]
  unfold rightPB at hR
  obtain ⟨a, cap, rfl, hc1, hc2, hc⟩ := hv
  obtain ⟨L, hL⟩ : ∃ L, xs.length = L := ⟨_, rfl⟩
  have HL := hid hL
  rw [hL] at hc1 hR Hv ⊢
  clear hc hx hL
  have hh := has_any p (.slice a L cap) xs w h0 h1 Hv.out Hx.out
  obtain ⟨B, hB⟩ : ∃ B, hasB p xs = B := ⟨_, rfl⟩
  rw [hB] at hR hh
  have Hh := hid hh
  clear hB hh
  by_cases h5 : L ≤ 512
  · rw [decide_eq_true h5, Bool.true_and] at hR
    cases B with
    | false =>
      rw [Bool.false_and] at hR
      subst hR
      go_enter Tryz.func46, Tryz.ntmps46
      go_wp2_with (go_at_call 30; refine Hh.out.mono ?_; rintro _ _ ⟨rfl, rfl⟩)
      go_ret
      exact ⟨rfl, rfl⟩
    | true =>
      rw [Bool.true_and] at hR
      by_cases h6 : L = 0
      · rw [decide_eq_true h6, Bool.true_or] at hR
        subst hR
        have b1 : ((L : Int) == 0) = true := by simp [h6]
        clear h6
        go_enter Tryz.func46, Tryz.ntmps46
        go_wp2_with (go_at_call 30; refine Hh.out.mono ?_; rintro _ _ ⟨rfl, rfl⟩)
        go_ret
        exact ⟨rfl, rfl⟩
      · rw [decide_eq_false h6, Bool.false_or] at hR
        have hl := last_any (.slice a L cap) xs w Hv.out (by rw [HL.out]; omega)
        obtain ⟨x, hx⟩ : ∃ x, lead xs = x := ⟨_, rfl⟩
        rw [hx] at hl hR
        have Hl := hid hl
        have b1 : ((L : Int) == 0) = false := by simp; omega
        clear hl hx h6
        have b2 : (x != 0) = R := by rw [← hR]; by_cases e : x = 0 <;> simp [e]
        clear hR
        go_enter Tryz.func46, Tryz.ntmps46
        go_wp2_with (first | (go_at_call 30; refine Hh.out.mono ?_; rintro _ _ ⟨rfl, rfl⟩) | (go_at_call 61; refine Hl.out.mono ?_; rintro _ _ ⟨rfl, rfl⟩))
        go_ret
        exact ⟨rfl, rfl⟩
  · rw [decide_eq_false h5, Bool.false_and, Bool.false_and] at hR
    subst hR
    go_enter Tryz.func46, Tryz.ntmps46
    go_wp2_with fail
    go_ret
    exact ⟨rfl, rfl⟩
theorem polRight_yes (p : Int) (v : Value) (xs : List Int) (w : World) (hp : rightB p = true) (hv : Ints .u64 w v xs) (hx : Pol p xs) (hl : xs.length ≤ 512) :
    Calls Tryz.prog 46 #[.int .u64 p, v] w fun e w' => e = .returned (.bool true) ∧ w = w' := by
  have h2 := rightB_true hp
  have := polRight_any p v xs w (by omega) (by omega) hv (hx.rng.u64 h2.2)
  rw [(rightPB_iff (hx.rng.u64 h2.2)).2 ⟨hp, hx, hl⟩] at this
  exact this
end Go.Proofs.YtijpeepdedfhoaaGreat
/- The shortest rule of a row: what it takes to be one, and how one is made longer (in plain Lean; nothing of a program). -/
namespace Go.Proofs.YtijpeepdedfhoaaGreat
variable {p : Int}

/-- a series' numbers, n places further on -/
def Ser.up (n : Nat) (a : Ser p) : Ser p := .of p fun k => if k < n then 0 else a.co (k - n)
namespace Ser
theorem up_co (n : Nat) (a : Ser p) (k : Nat) : (up n a).co k = if k < n then 0 else a.co (k - n) := by
  show (if k < n then 0 else a.co (k - n)) % p = _
  split
  · exact Int.zero_emod p
  · exact a.ok _
theorem low.up {a : Ser p} {m : Nat} (h : a.low m) (n : Nat) : (up n a).low (n + m) := fun k hk => by
  rw [up_co, if_neg (by omega)]; exact h _ (by omega)
theorem up_mul (n : Nat) (a b : Ser p) : up n a * b = up n (a * b) := ext_ fun k => by
  rw [up_co, mul_co, cv]
  by_cases h : k < n
  · rw [if_pos h, sm_zero fun i hi => by rw [up_co, if_pos (by omega), Int.zero_mul], Int.zero_emod]
  · rw [if_neg h, mul_co, cv, sm_piece n (k - n + 1) (by omega) (fun i hi => by rw [up_co, if_pos hi, Int.zero_mul]) (fun i h1 h2 => by omega)]
    congr 1
    exact sm_congr fun i hi => by rw [up_co, if_neg (by omega), show n + i - n = i by omega, show k - (n + i) = k - n - i by omega]
theorem mul_co_low {a b : Ser p} {k : Nat} (h : ∀ i, 0 < i → i ≤ k → a.co i = 0 ∨ b.co (k - i) = 0) : (a * b).co k = a.co 0 * b.co k % p := by
  rw [mul_co, cv, sm_head, sm_zero (fun i hi => ?_), Int.add_zero, Nat.sub_zero]
  rcases h (i + 1) (by omega) (by omega) with h | h
  · rw [h, Int.zero_mul]
  · rw [h, Int.mul_zero]
end Ser

/-- a row (as a series) obeys a rule of this length, as far as n numbers -/
structure Ob (s c : Ser p) (l n : Nat) : Prop where
  low : c.low (l + 1)
  one : c.co 0 = 1
  obe : ∀ i, l ≤ i → i < n → (c * s).co i = 0
theorem Ob.less {s c : Ser p} {l n m : Nat} (h : Ob s c l n) (hm : m ≤ n) : Ob s c l m := ⟨h.low, h.one, fun i h1 h2 => h.obe i h1 (by omega)⟩
theorem Ob.longer {s c : Ser p} {l l' n : Nat} (h : Ob s c l n) (hl : l ≤ l') : Ob s c l' n := ⟨h.low.mono (by omega), h.one, fun i h1 h2 => h.obe i (by omega) h2⟩
theorem Ob.next {s c : Ser p} {l n : Nat} (h : Ob s c l n) (h0 : l ≤ n → (c * s).co n = 0) : Ob s c l (n + 1) := ⟨h.low, h.one, fun i h1 h2 => by
  rcases Nat.lt_or_ge i n with h3 | h3
  · exact h.obe i h1 h3
  · obtain rfl : i = n := by omega
    exact h0 h1⟩
/-- who fails at a place is no part of a short one that doesn't -/
theorem Ob.bound {s c c' : Ser p} {l l' n : Nat} (h : Ob s c l n) (hd : (c * s).co n ≠ 0) (h' : Ob s c' l' (n + 1)) : n + 1 ≤ l + l' := by
  apply Classical.byContradiction
  intro hn
  have e1 : (c' * (c * s)).co n = (c * s).co n := by
    rw [Ser.mul_co_low fun i h1 h2 => ?_, h'.one, Int.one_mul, Ser.ok]
    rcases Nat.lt_or_ge l' i with h3 | h3
    · exact .inl (h'.low i h3)
    · exact .inr (h.obe _ (by omega) (by omega))
  have e2 : (c * (c' * s)).co n = 0 := by
    rw [Ser.mul_co, cv, sm_zero fun i hi => ?_, Int.zero_emod]
    rcases Nat.lt_or_ge l i with h3 | h3
    · rw [h.low i h3, Int.zero_mul]
    · rw [h'.obe _ (by omega) (by omega), Int.mul_zero]
  rw [Ser.mul_left_comm, e1] at e2
  exact hd e2
/-- the least length of a rule -/
def LeastOb (s : Ser p) (l n : Nat) : Prop := (∃ c, Ob s c l n) ∧ ∀ c' l', Ob s c' l' n → l ≤ l'
theorem LeastOb.unique {s : Ser p} {l l' n : Nat} (h : LeastOb s l n) (h' : LeastOb s l' n) : l = l' := by
  obtain ⟨c, hc⟩ := h.1
  obtain ⟨c', hc'⟩ := h'.1
  have := h.2 c' l' hc'
  have := h'.2 c l hc
  omega
/-- what is kept from number to number: the rule so far, the least; and (unless no number but 0 came yet) the last rule ahead of a longer one, where it failed, and by what -/
structure Ma (s c b : Ser p) (l n nb : Nat) (d : Int) : Prop where
  ob : Ob s c l n
  least : ∀ c' l', Ob s c' l' n → l ≤ l'
  bef : l = 0 ∨ (nb < n ∧ ∃ lb, Ob s b lb nb ∧ l + lb = nb + 1 ∧ (b * s).co nb = d)
theorem Ma.start (s b : Ser p) (hp : 2 ≤ p) (nb : Nat) (d : Int) : Ma s 1 b 0 0 nb d :=
  ⟨⟨fun k hk => by rw [← Ser.C_one, Ser.C_co, if_neg (by omega)], by rw [← Ser.C_one, Ser.C_co, if_pos rfl]; exact mod_small (by omega) (by omega), fun i h1 h2 => by omega⟩, fun _ _ _ => Nat.zero_le _, .inl rfl⟩
/-- the rule holds there, too -/
theorem Ma.stay {s c b : Ser p} {l n nb : Nat} {d : Int} (h : Ma s c b l n nb d) (h0 : l ≤ n → (c * s).co n = 0) : Ma s c b l (n + 1) nb d :=
  ⟨h.ob.next h0, fun c' l' h' => h.least c' l' (h'.less (by omega)), h.bef.imp id fun ⟨h1, h2⟩ => ⟨by omega, h2⟩⟩
/-- the rule that is put right: what it fails by is taken away by the old one's -/
def Ser.put (c b : Ser p) (q : Int) (m : Nat) : Ser p := c - Ser.C p q * Ser.up m b
theorem put_ob {s c b : Ser p} {l n nb lb : Nat} {q : Int} (h : Ob s c l n) (hb : Ob s b lb nb) (hl : l + lb = nb + 1) (hn : nb < n) (hln : l ≤ n) (hq : q * (b * s).co nb % p = (c * s).co n) : Ob s (c.put b q (n - nb)) (max l (n + 1 - l)) (n + 1) := by
  have hlow : (Ser.C p q * Ser.up (n - nb) b).low (n - nb + (lb + 1)) := ((Ser.low_C q).mul (hb.low.up (n - nb))).mono (by omega)
  refine ⟨(h.low.mono (by omega)).sub (hlow.mono (by omega)), ?_, fun i h1 h2 => ?_⟩
  · unfold Ser.put
    rw [Ser.sub_co, Ser.C_mul_co, Ser.up_co, if_pos (by omega), Int.mul_zero, Int.zero_emod, Int.sub_zero, Ser.ok, h.one]
  · unfold Ser.put
    rw [Ser.sub_mul, Ser.mul_assoc, Ser.up_mul, Ser.sub_co, Ser.C_mul_co, Ser.up_co]
    rcases Nat.lt_or_ge i n with h3 | h3
    · rw [h.obe i (by omega) h3]
      split
      · simp
      · rw [hb.obe _ (by omega) (by omega)]; simp
    · obtain rfl : i = n := by omega
      rw [if_neg (by omega), show i - (i - nb) = nb by omega, hq, Int.sub_self, Int.zero_emod]
/-- the first number but 0: any rule of its length will do -/
theorem first_ob {s c : Ser p} {n : Nat} (hl : c.low (n + 2)) (h1 : c.co 0 = 1) : Ob s c (n + 1) (n + 1) := ⟨hl, h1, fun i h2 h3 => by omega⟩
/-- a longer rule -/
theorem Ma.grow {s c b c' : Ser p} {l n nb : Nat} {d : Int} (h : Ma s c b l n nb d) (hd : (c * s).co n ≠ 0) (hl : 2 * l ≤ n) (hc : Ob s c' (n + 1 - l) (n + 1)) : Ma s c' c (n + 1 - l) (n + 1) n ((c * s).co n) :=
  ⟨hc, fun c'' l'' h' => by have := h.ob.bound hd h'; omega, .inr ⟨by omega, l, h.ob, by omega, rfl⟩⟩
/-- a rule put right, no longer -/
theorem Ma.turn {s c b c' : Ser p} {l n nb : Nat} {d : Int} (h : Ma s c b l n nb d) (hc : Ob s c' l (n + 1)) : Ma s c' b l (n + 1) nb d :=
  ⟨hc, fun c'' l'' h' => h.least c'' l'' (h'.less (by omega)), h.bef.imp id fun ⟨h1, h2⟩ => ⟨by omega, h2⟩⟩
theorem Ma.len {s c b : Ser p} {l n nb : Nat} {d : Int} (h : Ma s c b l n nb d) (hp : 2 ≤ p) : l ≤ n :=
  h.least 1 n ⟨fun k hk => by rw [← Ser.C_one, Ser.C_co, if_neg (by omega)], by rw [← Ser.C_one, Ser.C_co, if_pos rfl]; exact mod_small (by omega) (by omega), fun i h1 h2 => by omega⟩
theorem Ma.isLeast {s c b : Ser p} {l n nb : Nat} {d : Int} (h : Ma s c b l n nb d) : LeastOb s l n := ⟨⟨c, h.ob⟩, h.least⟩
end Go.Proofs.YtijpeepdedfhoaaGreat
/- Whether a number is prime, as the document's own answer tells it: by trial. -/
namespace Go.Proofs.YtijpeepdedfhoaaGreat
open Go.RowKit

/-- no number from 2 on, whose square is no more, divides n -/
def IsP (n : Int) : Prop := 2 ≤ n ∧ ∀ d : Int, 2 ≤ d → d * d ≤ n → n % d ≠ 0

open Classical in
noncomputable def isB (n : Int) : Bool := decide (IsP n)
theorem isB_iff (n : Int) : isB n = true ↔ IsP n := by simp [isB]
theorem isB_no {n : Int} (h : ¬ IsP n) : isB n = false := by simp [isB, h]

set_option maxHeartbeats 1000000 in
theorem Is_any (n : Int) (w : World) (h0 : 0 ≤ n) (h1 : n < 4294967296) :
    Calls Tryz.prog 18 #[.int .u64 n] w fun e w' => e = .returned (.bool (isB n)) ∧ w = w' := by
  by_cases h2 : n < 2
  · go_enter Tryz.func18, Tryz.ntmps18
    go_wp2_with fail
    go_ret
    exact ⟨ret_bool (isB_no (by simp [IsP]; omega)).symm, rfl⟩
  · go_enter Tryz.func18, Tryz.ntmps18
    go_wp2_with fail
    go_loop [3] (fun q => ∃ d : Int, q = .int .u64 d ∧ 2 ≤ d ∧ d ≤ 65536 ∧ ∀ c, 2 ≤ c → c < d → n % c ≠ 0) (fun q => (65537 - intOf q).toNat)
    case atStart => exact ⟨2, rfl, by omega, by omega, fun c h1 h2 => by omega⟩
    case round =>
      obtain ⟨d, rfl, hd, hd2, hall⟩ := hrel
      have Ha := hid hall; clear hall
      have hs0 : 0 ≤ d * d := Int.mul_nonneg (by omega) (by omega)
      have hs1 : d * d ≤ 4294967296 := by
        have := Int.mul_le_mul hd2 hd2 (by omega) (by omega)
        simpa using this
      by_cases hle : d * d ≤ n
      · have bb : decide (d * d ≤ n) = true := by simpa using hle
        have hd3 : d < 65536 := by
          apply Classical.byContradiction
          intro h
          have : d = 65536 := by omega
          subst this
          omega
        by_cases hz : n % d = 0
        · have bz : (n % d == 0) = true := by simpa using hz
          have HZ := hid hz; have HL := hid hle
          clear hz hle
          go_wp2_with fail
          go_ret
          exact ⟨ret_bool (isB_no fun h => h.2 d hd HL.out HZ.out).symm, rfl⟩
        · have bz : (n % d == 0) = false := by simpa using hz
          have HZ := hid hz
          clear hz hle
          go_wp2_with fail
          go_round
          case rel => exact ⟨d + 1, rfl, by omega, by omega, fun c h3 h4 => by
            by_cases e : c = d
            · rw [e]; exact HZ.out
            · exact Ha.out c h3 (by omega)⟩
          case measure => simp [intOf]; omega
      · have bb : decide (d * d ≤ n) = false := by simpa using hle
        have HL := hid hle
        clear hle
        go_wp2_with fail
        go_ret
        refine ⟨ret_bool ((isB_iff n).2 ⟨by omega, fun c h3 h4 => ?_⟩).symm, rfl⟩
        rcases Int.lt_or_le c d with h5 | h5
        · exact Ha.out c h3 h5
        · have := Int.mul_le_mul h5 h5 (by omega) (by omega)
          have := HL.out; omega

theorem Is_as (n : Int) (b : Bool) (w : World) (h0 : 0 ≤ n) (h1 : n < 4294967296) (h : isB n = b) :
    Calls Tryz.prog 18 #[.int .u64 n] w fun e w' => e = .returned (.bool b) ∧ w = w' := h ▸ Is_any n w h0 h1
end Go.Proofs.YtijpeepdedfhoaaGreat
