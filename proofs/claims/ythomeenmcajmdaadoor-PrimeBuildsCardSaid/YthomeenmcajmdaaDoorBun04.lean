/- What the texts Field, Is, PolM show, in one text. -/
import Derived.Test.YthomeenmcajmdaaDoorBun02
import Derived.Test.YthomeenmcajmdaaDoorKit
import Derived.Test.YthomeenmcajmdaaDoorBun03
/- What package field's functions answer. -/
namespace Go.Proofs.YthomeenmcajmdaaDoor
open Go.RowKit

/-- may p be a modulus? -/
def rightB (p : Int) : Bool := decide (2 ≤ p ∧ p ≤ 9223372036854775807)
theorem rightB_true {p : Int} (h : rightB p = true) : 2 ≤ p ∧ p ≤ 9223372036854775807 := by simpa [rightB] using h
theorem rightB_mk {p : Int} (h : 2 ≤ p ∧ p ≤ 9223372036854775807) : rightB p = true := by simpa [rightB] using h
theorem rightB_false {p : Int} (h : ¬ (2 ≤ p ∧ p ≤ 9223372036854775807)) : rightB p = false := by simpa [rightB] using h
/-- may p be one, and are all numbers of it? -/
def hasB (p : Int) (xs : List Int) : Bool := rightB p && xs.all fun x => decide (x < p)
theorem hasB_true {p : Int} {xs : List Int} (h : hasB p xs = true) : rightB p = true ∧ ∀ x ∈ xs, x < p := by
  simpa [hasB] using h
theorem hasB_mk {p : Int} {xs : List Int} (h : rightB p = true) (h' : ∀ x ∈ xs, x < p) : hasB p xs = true := by
  simpa [hasB] using ⟨h, h'⟩
theorem hasB_one {p a : Int} (h : rightB p = true) (h' : a < p) : hasB p [a] = true := hasB_mk h (by simpa using h')
theorem hasB_two {p a b : Int} (h : rightB p = true) (h' : a < p) (h'' : b < p) : hasB p [a, b] = true := hasB_mk h (by simpa using ⟨h', h''⟩)
theorem hasB_no {p : Int} {xs : List Int} (k : Nat) (hk : k < xs.length) (h : p ≤ xs.getD k 0) : hasB p xs = false := by
  cases e : hasB p xs with
  | false => rfl
  | true =>
    have := (hasB_true e).2 (xs.getD k 0) (by simp [List.getD, List.getElem?_eq_getElem hk])
    omega

set_option maxHeartbeats 400000 in
theorem right_any (p : Int) (w : World) (h0 : 0 ≤ p) (h1 : p ≤ 18446744073709551615) :
    Calls Tryd.prog 15 #[.int .u64 p] w fun e w' => e = .returned (.bool (rightB p)) ∧ w = w' := by
  by_cases h : 2 ≤ p
  · by_cases h' : p < 9223372036854775808
    all_goals
      go_enter Tryd.func15, Tryd.ntmps15
      go_wp2
      go_ret
      exact ⟨ret_bool (by simp [rightB]; omega), rfl⟩
  · go_enter Tryd.func15, Tryd.ntmps15
    go_wp2
    go_ret
    exact ⟨ret_bool (by simp [rightB]; omega), rfl⟩

set_option maxHeartbeats 400000 in
theorem has_any (p : Int) (v : Value) (xs : List Int) (w : World) (h0 : 0 ≤ p) (h1 : p ≤ 18446744073709551615) (hv : Ints .u64 w v xs) (hx : U64s xs) :
    Calls Tryd.prog 30 #[.int .u64 p, v] w fun e w' => e = .returned (.bool (hasB p xs)) ∧ w = w' := by
  obtain ⟨a, cap, rfl, hc1, hc2, hc⟩ := hv
  have Hc := hid hc; clear hc
  have Hx := hid hx; clear hx
  go_enter Tryd.func30, Tryd.ntmps30
  go_wp2_with (go_at_call 15; refine (right_any _ _ h0 h1).mono ?_; rintro e w' ⟨rfl, rfl⟩)
  go_loop [9] (fun i => ∃ k : Nat, k ≤ xs.length ∧ i = .int .i64 k ∧ ∀ j, j < k → xs.getD j 0 < p) (fun i => xs.length - (intOf i).toNat)
  case atStart => exact ⟨0, Nat.zero_le _, rfl, by simp⟩
  case round =>
    obtain ⟨k, hk, rfl, hall⟩ := hrel
    have Ha := hid hall; clear hall
    by_cases hlt : k < xs.length
    · obtain ⟨b, off, rfl, hb, hcell⟩ := Hc.out (by omega)
      have g := hcell k hlt
      have hg := U64s.get Hx.out hlt
      clear hcell
      have hn := hasB_no (p := p) k hlt
      generalize hxk : xs.getD k 0 = x at g hg hn
      have Hxk := hid hxk; clear hxk
      have Hn := hid hn; clear hn Hc
      by_cases hp : p ≤ x
      · replace Hn := hid (Hn.out hp)
        go_wp2
        go_ret
        exact ⟨ret_bool (by rw [Hn.out]), rfl⟩
      · go_wp2
        go_round
        case rel => exact ⟨k + 1, by omega, by go_num, fun j hj => by
          by_cases e : j = k
          · rw [e, Hxk.out]; omega
          · exact Ha.out j (by omega)⟩
        case measure => simp [intOf]; omega
    · have hall : ∀ x ∈ xs, x < p := by
        intro x hx
        obtain ⟨j, hj, rfl⟩ := List.mem_iff_getElem.1 hx
        have := Ha.out j (by omega)
        simpa [List.getD, List.getElem?_eq_getElem hj] using this
      have e : hasB p xs = rightB p := by
        unfold hasB
        rw [List.all_eq_true.2 (fun x hx => by simpa using hall x hx), Bool.and_true]
      have He := hid e; clear e hall
      go_wp2_with (go_at_call 15; refine (right_any _ _ h0 h1).mono ?_; rintro e w' ⟨rfl, rfl⟩)
      go_ret
      exact ⟨ret_bool He.out.symm, rfl⟩

theorem mod_less {p a : Int} (h0 : 0 ≤ a) (h : a < 2 * p) : a % p = if p ≤ a then a - p else a := by
  split
  · rw [← Int.sub_emod_right, Int.emod_eq_of_lt (by omega) (by omega)]
  · exact Int.emod_eq_of_lt h0 (by omega)

set_option maxHeartbeats 400000 in
theorem left_any (p hi lo : Int) (w : World) (h0 : 0 ≤ hi) (h1 : hi < p) (hp : p ≤ 18446744073709551615) (hl0 : 0 ≤ lo) (hl : lo ≤ 18446744073709551615) :
    Calls Tryd.prog 59 #[.int .u64 p, .int .u64 hi, .int .u64 lo] w fun e w' => e = .returned (.int .u64 ((hi * 18446744073709551616 + lo) % p)) ∧ ∃ n, w' = w.drewN n := by
  by_cases h : 0 < hi
  · go_enter Tryd.func59, Tryd.ntmps59
    go_wp2_with (go_at_call 61; refine (div64_hi _ _ _ _ h h1 hp hl0 hl).mono ?_; rintro e w' ⟨rfl, rfl⟩)
    go_ret
    exact ⟨rfl, 0, rfl⟩
  · obtain rfl : hi = 0 := by omega
    go_enter Tryd.func59, Tryd.ntmps59
    go_wp2_with (go_at_call 61; refine (div64_lo _ _ _ (by omega) hp hl0 hl).mono ?_; rintro e w' ⟨rfl, n, rfl⟩)
    go_ret
    exact ⟨ret_int (by simp), n, rfl⟩

theorem half_lt {p a b : Int} (ha0 : 0 ≤ a) (ha : a ≤ 18446744073709551615) (hb0 : 0 ≤ b) (hb : b ≤ 18446744073709551615) (hp : 0 < p) (h : a < p ∨ b < p) : 0 ≤ a * b / 18446744073709551616 ∧ a * b / 18446744073709551616 < p := by
  have hab := Int.mul_nonneg ha0 hb0
  refine ⟨by omega, ?_⟩
  rcases h with h | h
  · have h1 := Int.mul_le_mul_of_nonneg_left hb ha0
    omega
  · have h1 := Int.mul_le_mul_of_nonneg_right ha hb0
    omega

set_option maxHeartbeats 400000 in
theorem times_any (p a b : Int) (w : World) (hp0 : 0 < p) (hp : p ≤ 18446744073709551615) (ha0 : 0 ≤ a) (ha : a ≤ 18446744073709551615) (hb0 : 0 ≤ b) (hb : b ≤ 18446744073709551615) (h : a < p ∨ b < p) :
    Calls Tryd.prog 51 #[.int .u64 p, .int .u64 a, .int .u64 b] w fun e w' => e = .returned (.int .u64 (a * b % p)) ∧ ∃ n, w' = w.drewN n := by
  have hh := half_lt ha0 ha hb0 hb hp0 h
  have h2 : 0 ≤ a * b % 18446744073709551616 ∧ a * b % 18446744073709551616 ≤ 18446744073709551615 := by omega
  have h3 := Int.ediv_mul_add_emod (a * b) 18446744073709551616
  have H3 := hid h3; clear h3
  go_enter Tryd.func51, Tryd.ntmps51
  go_wp2_with (first
    | (go_at_call 58; refine (mul64_any _ _ _ ha0 ha hb0 hb).mono ?_; rintro e w' ⟨rfl, rfl⟩)
    | (go_at_call 59; refine (left_any _ _ _ _ hh.1 hh.2 hp h2.1 h2.2).mono ?_; rintro e w' ⟨rfl, n, rfl⟩))
  go_ret
  exact ⟨ret_int (by rw [H3.out]), n, rfl⟩

theorem has_yes (p : Int) (v : Value) (xs : List Int) (w : World) (hv : Ints .u64 w v xs) (hx : U64s xs) (h : hasB p xs = true) :
    Calls Tryd.prog 30 #[.int .u64 p, v] w fun e w' => e = .returned (.bool true) ∧ w = w' := by
  have hp := rightB_true (hasB_true h).1
  exact (has_any p v xs w (by omega) (by omega) hv hx).mono fun e w' ⟨he, hw⟩ => ⟨by rw [he, h], hw⟩
theorem has_no (p : Int) (v : Value) (xs : List Int) (w : World) (h0 : 0 ≤ p) (h1 : p ≤ 18446744073709551615) (hv : Ints .u64 w v xs) (hx : U64s xs) (h : hasB p xs = false) :
    Calls Tryd.prog 30 #[.int .u64 p, v] w fun e w' => e = .returned (.bool false) ∧ w = w' :=
  (has_any p v xs w h0 h1 hv hx).mono fun e w' ⟨he, hw⟩ => ⟨by rw [he, h], hw⟩




theorem and_one (n : Int) (h0 : 0 ≤ n) (h : n ≤ 18446744073709551615) : bits .and .u64 n 1 = n % 2 := by
  rw [u64_and n 1 h0 (by omega) (by omega) (by omega)]
  show ((n.toNat &&& 1 : Nat) : Int) = n % 2
  rw [Nat.and_one_is_mod]; omega

set_option maxHeartbeats 400000 in
theorem pow_yes (p a n : Int) (w : World) (hp : rightB p = true) (ha0 : 0 ≤ a) (ha : a < p) (hn0 : 0 ≤ n) (hn : n ≤ 18446744073709551615) :
    Calls Tryd.prog 39 #[.int .u64 p, .int .u64 a, .int .u64 n] w (Ret (.tuple #[.int .u64 (mpow p a n), .int .i64 0]) w) := by
  have hp2 := rightB_true hp
  have hh := hid (hasB_one hp ha)
  clear hp
  go_enter Tryd.func39, Tryd.ntmps39
  go_wp2_with fail
  refine (has_yes _ _ [a] _ Ints.new1 (U64s.one (by omega) (by omega)) hh.out).mono ?_
  rintro e w' ⟨rfl, rfl⟩
  go_wp2_with fail
  go_loopw [8, 1, 2] (fun v x m wr => ∃ P A N : Int, v = .int .u64 P ∧ x = .int .u64 A ∧ m = .int .u64 N ∧ 0 ≤ P ∧ P < p ∧ 0 ≤ A ∧ A < p ∧ 0 ≤ N ∧ N ≤ 18446744073709551615 ∧ P * A ^ N.toNat % p = mpow p a n ∧ Ext w wr) (fun _ _ m _ => (intOf m).toNat)
  case atStart => exact ⟨1, a, n, rfl, rfl, rfl, by omega, by omega, ha0, ha, hn0, hn, by rw [Int.one_mul]; rfl, (by repeat (first | exact Ext.refl _ | assumption | refine Ext.drew ?_ | refine Ext.drewN ?_ _ | refine Ext.alloc ?_ _ | refine Ext.trans ?_ (by assumption)))⟩
  case round =>
    obtain ⟨P, A, N, rfl, rfl, rfl, hP0, hP, hA0, hA, hN0, hN, he, hw⟩ := hrel
    have He := hid he; clear he
    by_cases h0 : 0 < N
    · have ho := and_one N hN0 hN
      have hs := mpow_step (p := p) (P := P) (A := A) hN0
      rw [He.out] at hs
      have hr1 := mod_range (A * A) hp2.1
      have hr2 := mod_range (P * A) hp2.1
      by_cases h1 : N % 2 = 1
      · rw [h1, show (1 : Int).toNat = 1 from rfl, Int.pow_succ, Int.pow_zero, Int.one_mul, Int.mul_right_comm, ← mm_l] at hs
        have Hs := hid hs; clear hs
        have t1 : (N % 2 == 1) = true := by simp [h1]
        clear h1
        go_wp2_with (go_at_call 51; refine (times_any p _ _ _ (by omega) (by omega) (by omega) (by omega) (by omega) (by omega) (by omega)).mono ?_; rintro e w' ⟨rfl, m, rfl⟩)
        go_roundw
        case rel => exact ⟨_, _, _, rfl, rfl, rfl, by omega, by omega, by omega, by omega, by omega, by omega, Hs.out, (by repeat (first | exact Ext.refl _ | assumption | refine Ext.drew ?_ | refine Ext.drewN ?_ _ | refine Ext.alloc ?_ _ | refine Ext.trans ?_ (by assumption)))⟩
        case measure => simp [intOf]; omega
      · rw [show N % 2 = 0 by omega, show (0 : Int).toNat = 0 from rfl, Int.pow_zero, Int.mul_one] at hs
        have Hs := hid hs; clear hs
        have t1 : (N % 2 == 1) = false := by simp; omega
        clear h1
        go_wp2_with (go_at_call 51; refine (times_any p _ _ _ (by omega) (by omega) (by omega) (by omega) (by omega) (by omega) (by omega)).mono ?_; rintro e w' ⟨rfl, m, rfl⟩)
        go_roundw
        case rel => exact ⟨_, _, _, rfl, rfl, rfl, by omega, by omega, by omega, by omega, by omega, by omega, Hs.out, (by repeat (first | exact Ext.refl _ | assumption | refine Ext.drew ?_ | refine Ext.drewN ?_ _ | refine Ext.alloc ?_ _ | refine Ext.trans ?_ (by assumption)))⟩
        case measure => simp [intOf]; omega
    · obtain rfl : N = 0 := by omega
      have h2 := He.out
      rw [show (0 : Int).toNat = 0 from rfl, Int.pow_zero, Int.mul_one, mod_small hP0 hP] at h2
      have H2 := hid h2; clear h2
      go_wp2_with fail
      go_ret2
      exact ⟨by rw [← H2.out]; rfl, (by repeat (first | exact Ext.refl _ | assumption | refine Ext.drew ?_ | refine Ext.drewN ?_ _ | refine Ext.alloc ?_ _ | refine Ext.trans ?_ (by assumption)))⟩
theorem pow_no (p a n : Int) (w : World) (hp0 : 0 ≤ p) (hp : p ≤ 18446744073709551615) (ha0 : 0 ≤ a) (ha : a ≤ 18446744073709551615) (h : hasB p [a] = false) :
    Calls Tryd.prog 39 #[.int .u64 p, .int .u64 a, .int .u64 n] w (Ret (.tuple #[.int .u64 0, .int .i64 1]) w) := by
  have hh := hid h
  clear h
  go_enter Tryd.func39, Tryd.ntmps39
  go_wp2_with fail
  refine (has_no _ _ [a] _ hp0 hp Ints.new1 (U64s.one ha0 ha) hh.out).mono ?_
  rintro e w' ⟨rfl, rfl⟩
  go_wp2_with fail
  go_ret2
  exact ⟨rfl, (by repeat (first | exact Ext.refl _ | assumption | refine Ext.drew ?_ | refine Ext.drewN ?_ _ | refine Ext.alloc ?_ _ | refine Ext.trans ?_ (by assumption)))⟩

/-! ### The same, where the answer has a name already. -/
theorem pow_as (p a n r : Int) (w : World) (hp : rightB p = true) (ha0 : 0 ≤ a) (ha : a < p) (hn0 : 0 ≤ n) (hn : n ≤ 18446744073709551615) (h : mpow p a n = r) :
    Calls Tryd.prog 39 #[.int .u64 p, .int .u64 a, .int .u64 n] w (Ret (.tuple #[.int .u64 r, .int .i64 0]) w) := h ▸ pow_yes p a n w hp ha0 ha hn0 hn
theorem hasB_sub {p : Int} {xs ys : List Int} (h : hasB p xs = true) (hs : ∀ y ∈ ys, y ∈ xs) : hasB p ys = true :=
  hasB_mk (hasB_true h).1 fun y hy => (hasB_true h).2 y (hs y hy)
theorem hasB_take' {p : Int} {xs : List Int} (h : hasB p xs = true) (n : Nat) : hasB p (xs.take n) = true := hasB_sub h fun _ hy => List.mem_of_mem_take hy
theorem hasB_drop' {p : Int} {xs : List Int} (h : hasB p xs = true) (n : Nat) : hasB p (xs.drop n) = true := hasB_sub h fun _ hy => List.mem_of_mem_drop hy
/-- a number of p, under a name -/
theorem name_mod {p : Int} (a : Int) (hp : 2 ≤ p) : ∃ r, a % p = r ∧ 0 ≤ r ∧ r < p := ⟨_, rfl, mod_range a hp⟩
end Go.Proofs.YthomeenmcajmdaaDoor
/- Whether a number is prime, as the document's own answer tells it: by trial. -/
namespace Go.Proofs.YthomeenmcajmdaaDoor
open Go.RowKit

/-- no number from 2 on, whose square is no more, divides n -/
def IsP (n : Int) : Prop := 2 ≤ n ∧ ∀ d : Int, 2 ≤ d → d * d ≤ n → n % d ≠ 0

open Classical in
noncomputable def isB (n : Int) : Bool := decide (IsP n)
theorem isB_iff (n : Int) : isB n = true ↔ IsP n := by simp [isB]
theorem isB_no {n : Int} (h : ¬ IsP n) : isB n = false := by simp [isB, h]

set_option maxHeartbeats 1000000 in
theorem Is_any (n : Int) (w : World) (h0 : 0 ≤ n) (h1 : n < 4294967296) :
    Calls Tryd.prog 6 #[.int .u64 n] w fun e w' => e = .returned (.bool (isB n)) ∧ w = w' := by
  by_cases h2 : n < 2
  · go_enter Tryd.func6, Tryd.ntmps6
    go_wp2_with fail
    go_ret
    exact ⟨ret_bool (isB_no (by simp [IsP]; omega)).symm, rfl⟩
  · go_enter Tryd.func6, Tryd.ntmps6
    go_wp2_with fail
    go_loop [3] (fun q => ∃ d : Int, q = .int .u64 d ∧ 2 ≤ d ∧ d ≤ 65536 ∧ ∀ c, 2 ≤ c → c < d → n % c ≠ 0) (fun q => (65537 - intOf q).toNat)
    case atStart => exact ⟨2, rfl, by omega, by omega, fun c h1 h2 => by omega⟩
    case round =>
      obtain ⟨d, rfl, hd, hd2, hall⟩ := hrel
      have Ha := hid hall; clear hall
      have hs0 : 0 ≤ d * d := Int.mul_nonneg (by omega) (by omega)
      have hs1 : d * d ≤ 4294967296 := by
        have := Int.mul_le_mul hd2 hd2 (by omega) (by omega)
        simpa using this
      by_cases hle : d * d ≤ n
      · have bb : decide (d * d ≤ n) = true := by simpa using hle
        have hd3 : d < 65536 := by
          apply Classical.byContradiction
          intro h
          have : d = 65536 := by omega
          subst this
          omega
        by_cases hz : n % d = 0
        · have bz : (n % d == 0) = true := by simpa using hz
          have HZ := hid hz; have HL := hid hle
          clear hz hle
          go_wp2_with fail
          go_ret
          exact ⟨ret_bool (isB_no fun h => h.2 d hd HL.out HZ.out).symm, rfl⟩
        · have bz : (n % d == 0) = false := by simpa using hz
          have HZ := hid hz
          clear hz hle
          go_wp2_with fail
          go_round
          case rel => exact ⟨d + 1, rfl, by omega, by omega, fun c h3 h4 => by
            by_cases e : c = d
            · rw [e]; exact HZ.out
            · exact Ha.out c h3 (by omega)⟩
          case measure => simp [intOf]; omega
      · have bb : decide (d * d ≤ n) = false := by simpa using hle
        have HL := hid hle
        clear hle
        go_wp2_with fail
        go_ret
        refine ⟨ret_bool ((isB_iff n).2 ⟨by omega, fun c h3 h4 => ?_⟩).symm, rfl⟩
        rcases Int.lt_or_le c d with h5 | h5
        · exact Ha.out c h3 h5
        · have := Int.mul_le_mul h5 h5 (by omega) (by omega)
          have := HL.out; omega

theorem Is_as (n : Int) (b : Bool) (w : World) (h0 : 0 ≤ n) (h1 : n < 4294967296) (h : isB n = b) :
    Calls Tryd.prog 6 #[.int .u64 n] w fun e w' => e = .returned (.bool b) ∧ w = w' := h ▸ Is_any n w h0 h1
end Go.Proofs.YthomeenmcajmdaaDoor
/- Polynomials modulo p as lists of numbers: their series, degrees, division, divisors, values (in plain Lean; nothing of a program). -/
namespace Go.Proofs.YthomeenmcajmdaaDoor
variable {p : Int}

namespace Ser
/-- no term from n on -/
def low (a : Ser p) (n : Nat) : Prop := ∀ k, n ≤ k → a.co k = 0
/-- a polynomial -/
def poly (a : Ser p) : Prop := ∃ n, a.low n
theorem low.mono {a : Ser p} {m n : Nat} (h : a.low m) (hn : m ≤ n) : a.low n := fun k hk => h k (by omega)
theorem low.add {a b : Ser p} {n : Nat} (h : a.low n) (h' : b.low n) : (a + b).low n := fun k hk => by rw [add_co, h k hk, h' k hk]; simp
theorem low.sub {a b : Ser p} {n : Nat} (h : a.low n) (h' : b.low n) : (a - b).low n := fun k hk => by rw [sub_co, h k hk, h' k hk]; simp
theorem low_zero (n : Nat) : (0 : Ser p).low n := fun k _ => zero_co k
theorem low_C (c : Int) : (C p c).low 1 := fun k hk => by rw [C_co, if_neg (by omega)]
theorem low.zero {a : Ser p} (h : a.low 0) : a = 0 := ext_ fun k => by rw [h k (by omega), zero_co]
/-- the greatest term of a product -/
theorem mul_top {a b : Ser p} {m n : Nat} (h : a.low (m + 1)) (h' : b.low (n + 1)) : (a * b).co (m + n) = a.co m * b.co n % p ∧ (a * b).low (m + n + 1) := by
  refine ⟨?_, fun k hk => ?_⟩
  · rw [mul_co, cv, sm_piece m 1 (by omega) (fun i hi => by rw [h' _ (by omega), Int.mul_zero]) (fun i h1 h2 => by rw [h _ (by omega), Int.zero_mul])]
    simp [sm]
  · rw [mul_co, cv, sm_zero fun i hi => ?_, Int.zero_emod]
    rcases Nat.lt_or_ge i (m + 1) with h1 | h1
    · rw [h' _ (by omega), Int.mul_zero]
    · rw [h _ h1, Int.zero_mul]
theorem low.mul {a b : Ser p} {m n : Nat} (h : a.low m) (h' : b.low n) : (a * b).low (m + n - 1) := by
  cases m with
  | zero => rw [h.zero, zero_mul]; exact low_zero _
  | succ m =>
    cases n with
    | zero => rw [h'.zero, mul_zero]; exact low_zero _
    | succ n => exact (mul_top h h').2.mono (by omega)
theorem poly.add {a b : Ser p} (h : a.poly) (h' : b.poly) : (a + b).poly := by
  obtain ⟨m, h⟩ := h; obtain ⟨n, h'⟩ := h'
  exact ⟨max m n, (h.mono (by omega)).add (h'.mono (by omega))⟩
theorem poly.sub {a b : Ser p} (h : a.poly) (h' : b.poly) : (a - b).poly := by
  obtain ⟨m, h⟩ := h; obtain ⟨n, h'⟩ := h'
  exact ⟨max m n, (h.mono (by omega)).sub (h'.mono (by omega))⟩
theorem poly.mul {a b : Ser p} (h : a.poly) (h' : b.poly) : (a * b).poly := by
  obtain ⟨m, h⟩ := h; obtain ⟨n, h'⟩ := h'
  exact ⟨_, h.mul h'⟩
theorem poly_C (c : Int) : (C p c).poly := ⟨1, low_C c⟩
theorem poly_zero : (0 : Ser p).poly := ⟨0, low_zero 0⟩
theorem poly_one : (1 : Ser p).poly := poly_C 1
/-- who is a polynomial but 0 has a greatest term -/
theorem poly.top {a : Ser p} (h : a.poly) (h0 : a ≠ 0) : ∃ d, a.co d ≠ 0 ∧ a.low (d + 1) := by
  obtain ⟨n, h⟩ := h
  induction n with
  | zero => exact absurd h.zero h0
  | succ n ih =>
    by_cases e : a.co n = 0
    · exact ih fun k hk => by
        rcases Nat.lt_or_ge n k with h1 | h1
        · exact h k (by omega)
        · rw [show k = n by omega]; exact e
    · exact ⟨n, e, h⟩
theorem co_range (a : Ser p) (hp : 2 ≤ p) (k : Nat) : 0 ≤ a.co k ∧ a.co k < p := by rw [← a.ok k]; exact mod_range _ hp
/-- division has one quotient and one rest -/
theorem div_unique {q b r : Ser p} {n : Nat} (hb : b.low (n + 1)) {i : Int} (hi : b.co n * i % p = 1) (hq : q.poly) (hr : r.low n) (h : q * b + r = 0) : q = 0 ∧ r = 0 := by
  have h0 : q = 0 := by
    obtain ⟨m, hm⟩ := hq
    induction m with
    | zero => exact hm.zero
    | succ m ih =>
      refine ih fun k hk => ?_
      rcases Nat.lt_or_ge m k with h1 | h1
      · exact hm k (by omega)
      obtain rfl : k = m := by omega
      have e := congrArg (fun s : Ser p => s.co (k + n)) h
      simp only [add_co, zero_co, (mul_top hm hb).1, hr (k + n) (by omega), Int.add_zero] at e
      rw [Int.emod_emod_of_dvd _ (Int.dvd_refl _)] at e
      have e2 : q.co k * (b.co n * i) % p = 0 := by rw [← Int.mul_assoc, ← mm_l, e]; simp
      rw [← mm_r, hi, Int.mul_one, q.ok] at e2
      exact e2
  refine ⟨h0, ?_⟩
  rw [h0, zero_mul, zero_add] at h
  exact h
end Ser

/-! ### Lists -/
/-- a list's polynomial -/
def pol (p : Int) (xs : List Int) : Ser p := .of p fun k => xs.getD k 0
theorem pol_co (xs : List Int) (k : Nat) : (pol p xs).co k = xs.getD k 0 % p := rfl
theorem getD_over {xs : List Int} {k : Nat} (h : xs.length ≤ k) : xs.getD k 0 = 0 := by simp [List.getD, List.getElem?_eq_none h]
theorem pol_low (xs : List Int) : (pol p xs).low xs.length := fun k hk => by rw [pol_co, getD_over hk]; simp
theorem pol_poly (xs : List Int) : (pol p xs).poly := ⟨_, pol_low xs⟩
theorem pol_nil : pol p [] = 0 := (pol_low []).zero
theorem pol_single (c : Int) : pol p [c] = Ser.C p c := Ser.ext_ fun k => by
  rw [pol_co, Ser.C_co]
  cases k <;> simp
/-- numbers of p -/
def Rng (p : Int) (xs : List Int) : Prop := ∀ x ∈ xs, 0 ≤ x ∧ x < p
theorem Rng.get {xs : List Int} (h : Rng p xs) {k : Nat} (hk : k < xs.length) : 0 ≤ xs.getD k 0 ∧ xs.getD k 0 < p := by
  have e : xs.getD k 0 = xs[k] := by simp [List.getD, List.getElem?_eq_getElem hk]
  rw [e]; exact h _ (List.getElem_mem hk)
theorem Rng.getD {xs : List Int} (h : Rng p xs) (hp : 2 ≤ p) (k : Nat) : 0 ≤ xs.getD k 0 ∧ xs.getD k 0 < p := by
  rcases Nat.lt_or_ge k xs.length with h1 | h1
  · exact h.get h1
  · rw [getD_over h1]; omega
theorem Rng.co {xs : List Int} (h : Rng p xs) (k : Nat) : (pol p xs).co k = xs.getD k 0 := by
  rcases Nat.lt_or_ge k xs.length with h1 | h1
  · exact mod_small (h.get h1).1 (h.get h1).2
  · rw [pol_co, getD_over h1]; simp
theorem Rng.nil : Rng p [] := fun x hx => by simp at hx
theorem Rng.take {xs : List Int} (h : Rng p xs) (n : Nat) : Rng p (xs.take n) := fun x hx => h x (List.mem_of_mem_take hx)
theorem Rng.one {c : Int} (h0 : 0 ≤ c) (h : c < p) : Rng p [c] := fun x hx => by
  obtain rfl : x = c := by simpa using hx
  exact ⟨h0, h⟩
theorem Rng.u64 {xs : List Int} (h : Rng p xs) (hp : p ≤ 9223372036854775807) : U64s xs := fun x hx => by have := h x hx; omega
theorem Rng.has {xs : List Int} (h : Rng p xs) (hp : rightB p = true) : hasB p xs = true := hasB_mk hp fun x hx => (h x hx).2
theorem Rng.of_get {xs : List Int} (h : ∀ k, k < xs.length → 0 ≤ xs.getD k 0 ∧ xs.getD k 0 < p) : Rng p xs := fun x hx => by
  obtain ⟨j, hj, rfl⟩ := List.mem_iff_getElem.1 hx
  have := h j hj
  simpa [List.getD, List.getElem?_eq_getElem hj] using this

/-- a polynomial as it is kept: numbers of p, the last one not 0 -/
structure Pol (p : Int) (xs : List Int) : Prop where
  rng : Rng p xs
  top : 0 < xs.length → xs.getD (xs.length - 1) 0 ≠ 0
theorem Pol.nil : Pol p [] := ⟨Rng.nil, fun h => by simp at h⟩
theorem Pol.one {c : Int} (h0 : 0 < c) (h : c < p) : Pol p [c] := ⟨Rng.one (by omega) h, fun _ => by simp; omega⟩
theorem Pol.len_le {xs : List Int} (h : Pol p xs) {n : Nat} (hl : (pol p xs).low n) : xs.length ≤ n := by
  apply Classical.byContradiction
  intro hn
  have := hl (xs.length - 1) (by omega)
  rw [h.rng.co] at this
  exact h.top (by omega) this
theorem Pol.inj {xs ys : List Int} (h : Pol p xs) (h' : Pol p ys) (e : pol p xs = pol p ys) : xs = ys := by
  have h1 : xs.length ≤ ys.length := h.len_le (e ▸ pol_low ys)
  have h2 : ys.length ≤ xs.length := h'.len_le (e ▸ pol_low xs)
  refine List.ext_getElem (by omega) fun k h3 h4 => ?_
  have := congrArg (fun s : Ser p => s.co k) e
  simp only [h.rng.co, h'.rng.co] at this
  simpa [List.getD, List.getElem?_eq_getElem h3, List.getElem?_eq_getElem h4] using this
theorem Pol.zero {xs : List Int} (h : Pol p xs) (e : pol p xs = 0) : xs = [] := h.inj Pol.nil (by rw [e, pol_nil])
theorem Pol.ne {xs : List Int} (h : Pol p xs) (h0 : xs ≠ []) : pol p xs ≠ 0 := fun e => h0 (h.zero e)
/-- the greatest number of a polynomial -/
def lead (xs : List Int) : Int := xs.getD (xs.length - 1) 0
theorem Pol.lead_ne {xs : List Int} (h : Pol p xs) (h0 : xs ≠ []) : lead xs ≠ 0 := h.top (List.length_pos_iff.2 h0)
theorem Pol.lead_range {xs : List Int} (h : Pol p xs) (h0 : xs ≠ []) : 0 < lead xs ∧ lead xs < p := by
  have h1 := h.rng.get (k := xs.length - 1) (by have := List.length_pos_iff.2 h0; omega)
  have h2 := h.lead_ne h0
  unfold lead at h2 ⊢
  omega
/-- without the noughts at its end -/
theorem Pol.trim {xs : List Int} (hr : Rng p xs) {n : Nat} (hn : n ≤ xs.length) (h0 : ∀ j, n ≤ j → xs.getD j 0 = 0) (ht : 0 < n → xs.getD (n - 1) 0 ≠ 0) : Pol p (xs.take n) ∧ pol p (xs.take n) = pol p xs := by
  have hl : (xs.take n).length = n := by simp; omega
  have hg : ∀ k, (xs.take n).getD k 0 = xs.getD k 0 := fun k => by
    rcases Nat.lt_or_ge k n with h1 | h1
    · simp [List.getD, h1]
    · rw [h0 k h1, getD_over (by omega)]
  refine ⟨⟨hr.take n, fun h => ?_⟩, Ser.of_eq fun k => by rw [hg]⟩
  rw [hl] at h
  rw [hl, hg]
  exact ht h

/-! ### Division by who has an inverse at its top -/
theorem pol_div_unique {q r q' r' : Ser p} {ys : List Int} (hy : Pol p ys) (h0 : ys ≠ []) {i : Int} (hi : lead ys * i % p = 1) (hq : q.poly) (hq' : q'.poly) (hr : r.low (ys.length - 1)) (hr' : r'.low (ys.length - 1))
    (h : q * pol p ys + r = q' * pol p ys + r') : q = q' ∧ r = r' := by
  have hl := List.length_pos_iff.2 h0
  have hb : (pol p ys).low (ys.length - 1 + 1) := (pol_low ys).mono (by omega)
  have e : (q - q') * pol p ys + (r - r') = 0 := by
    have h1 : q - q' + q' = q := Ser.sub_add q q'
    have h2 : r - r' + r' = r := Ser.sub_add r r'
    rw [← h1, ← h2, Ser.add_mul] at h
    refine Ser.add_right_cancel (c := q' * pol p ys + r') (Eq.trans ?_ (h.trans (Ser.zero_add _).symm))
    ac_rfl
  obtain ⟨e1, e2⟩ := Ser.div_unique hb (by rw [hy.rng.co]; exact hi) (hq.sub hq') (hr.sub hr') e
  exact ⟨Ser.eq_of_sub e1, Ser.eq_of_sub e2⟩
/-- who is a multiple of y, and isn't 0, is no shorter -/
theorem len_mul {xs ys : List Int} (hx : Pol p xs) (hx0 : xs ≠ []) (hy : Pol p ys) {i : Int} (hi : lead ys * i % p = 1) {q : Ser p} (hq : q.poly) (h : pol p xs = q * pol p ys) : ys.length ≤ xs.length := by
  by_cases hy0 : ys = []
  · rw [hy0]; simp
  have hl := List.length_pos_iff.2 hy0
  have q0 : q ≠ 0 := fun e => hx.ne hx0 (by rw [h, e, Ser.zero_mul])
  obtain ⟨d, d1, d2⟩ := hq.top q0
  have e := (Ser.mul_top (n := ys.length - 1) d2 ((pol_low ys).mono (by omega))).1
  rw [← h] at e
  apply Classical.byContradiction
  intro hn
  rw [pol_low xs (d + (ys.length - 1)) (by omega), hy.rng.co] at e
  have e2 : q.co d * (lead ys * i) % p = 0 := by rw [← Int.mul_assoc, ← mm_l, show lead ys = ys.getD (ys.length - 1) 0 from rfl, ← e]; simp
  rw [← mm_r, hi, Int.mul_one, q.ok] at e2
  exact d1 e2
end Go.Proofs.YthomeenmcajmdaaDoor
