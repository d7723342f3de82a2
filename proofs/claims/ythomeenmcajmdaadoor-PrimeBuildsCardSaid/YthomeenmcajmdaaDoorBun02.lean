/- What the texts Num, Bits show, in one text. -/
import Derived.Test.YthomeenmcajmdaaDoorBun01
import Derived.Laws.MathBits
import Derived.Laws.BitsLemmas
import Derived.Test.YthomeenmcajmdaaDoorRows
/- Words of 64 bits: what Knuth's division of two words by one does, in plain numbers. -/
namespace Go.Proofs.YthomeenmcajmdaaDoor
namespace Knuth
theorem mul_le {a b c : Int} (h : a ≤ b) (hc : 0 ≤ c) : a * c ≤ b * c := Int.mul_le_mul_of_nonneg_right h hc
section
variable (y1 y0 U l q r : Int)
/-- 2^32 -/
theorem split (h : q * y1 + r = U) : q * (y1 * 4294967296 + y0) = (U - r) * 4294967296 + q * y0 := by grind
theorem lt_of (Y N q : Int) (hY : 0 < Y) (h : N < (q + 1) * Y) : N / Y ≤ q := by
  have := (Int.ediv_lt_iff_lt_mul hY).2 h; omega
theorem ge_of (Y N q : Int) (hY : 0 < Y) (h : q * Y ≤ N) : q ≤ N / Y := (Int.le_ediv_iff_mul_le hY).2 h
theorem start (h1 : 0 < y1) (h0 : 0 ≤ y0) (hl : l < 4294967296) (hU : 0 ≤ U) : (U * 4294967296 + l) / (y1 * 4294967296 + y0) ≤ U / y1 := by
  refine lt_of _ _ _ (by omega) ?_
  have h := Int.lt_ediv_add_one_mul_self U h1
  have hq : 0 ≤ U / y1 := Int.ediv_nonneg hU (by omega)
  have : 0 ≤ (U / y1 + 1) * y0 := Int.mul_nonneg (by omega) h0
  have e : (U / y1 + 1) * (y1 * 4294967296 + y0) = (U / y1 + 1) * y1 * 4294967296 + (U / y1 + 1) * y0 := by grind
  omega
theorem stop (h1 : 0 < y1) (h0 : 0 ≤ y0) (h : q * y1 + r = U) (hc : q * y0 ≤ 4294967296 * r + l) : q ≤ (U * 4294967296 + l) / (y1 * 4294967296 + y0) := by
  refine ge_of _ _ _ (by omega) ?_
  rw [split y1 y0 U q r h]; omega
theorem more (h1 : 0 < y1) (h0 : 0 ≤ y0) (h : q * y1 + r = U) (hc : 4294967296 * r + l < q * y0) : (U * 4294967296 + l) / (y1 * 4294967296 + y0) ≤ q - 1 := by
  refine lt_of _ _ _ (by omega) ?_
  rw [show q - 1 + 1 = q by omega, split y1 y0 U q r h]; omega
theorem small (h1 : 0 < y1) (h0 : 0 ≤ y0) (hU : U < y1 * 4294967296 + y0) (hl : l < 4294967296) : (U * 4294967296 + l) / (y1 * 4294967296 + y0) ≤ 4294967295 := by
  refine lt_of _ _ _ (by omega) ?_
  omega
theorem out (h1 : 0 < y1) (h0 : 0 ≤ y0) (hy0 : y0 ≤ 4294967296) (hU : U < y1 * 4294967296 + y0) (hl : 0 ≤ l) (h : q * y1 + r = U) (hr : 4294967296 ≤ r) : q ≤ (U * 4294967296 + l) / (y1 * 4294967296 + y0) := by
  refine stop y1 y0 U l q r h1 h0 h ?_
  by_cases hq : q ≤ 4294967296
  · have := Int.mul_le_mul hq hy0 h0 (by omega); omega
  · have := mul_le (show 4294967296 ≤ q by omega) (show 0 ≤ y1 by omega)
    omega
theorem down (h : q * y1 + r = U) : (q - 1) * y1 + (r + y1) = U := by grind
theorem qbound (h1 : 2147483648 ≤ y1) (h0 : y0 < 4294967296) (hU0 : 0 ≤ U) (hU : U < y1 * 4294967296 + y0) : 0 ≤ U / y1 ∧ U / y1 ≤ 4294967300 := by
  refine ⟨Int.ediv_nonneg hU0 (by omega), ?_⟩
  refine lt_of _ _ _ (by omega) ?_
  have := mul_le h1 (show (0:Int) ≤ 5 by omega)
  omega
end
/-- what is left of a step, in words that wrap -/
theorem rest (U l Y : Int) (hY : 0 < Y) (hY2 : Y ≤ 18446744073709551615) :
    ((U * 4294967296 % 18446744073709551616 + l) % 18446744073709551616 - ((U * 4294967296 + l) / Y * Y) % 18446744073709551616) % 18446744073709551616 = (U * 4294967296 + l) % Y := by
  have h1 := Int.emod_nonneg (U * 4294967296 + l) (show Y ≠ 0 by omega)
  have h2 := Int.emod_lt_of_pos (U * 4294967296 + l) hY
  have h3 := Int.ediv_mul_add_emod (U * 4294967296 + l) Y
  generalize (U * 4294967296 + l) / Y * Y = z at *
  generalize (U * 4294967296 + l) % Y = m at *
  omega
/-- two steps make the whole -/
theorem two (U l1 l0 Y : Int) (hY : 0 < Y) :
    ((U * 4294967296 + l1) * 4294967296 + l0) / Y = (U * 4294967296 + l1) / Y * 4294967296 + ((U * 4294967296 + l1) % Y * 4294967296 + l0) / Y ∧
    ((U * 4294967296 + l1) * 4294967296 + l0) % Y = ((U * 4294967296 + l1) % Y * 4294967296 + l0) % Y := by
  generalize U * 4294967296 + l1 = N
  have h := Int.ediv_mul_add_emod N Y
  generalize hq : N / Y = q at *
  generalize hm : N % Y = m at *
  have e : N * 4294967296 + l0 = (m * 4294967296 + l0) + (q * 4294967296) * Y := by grind
  rw [e, Int.add_mul_ediv_right _ _ (by omega), Int.add_mul_emod_self_right]
  exact ⟨by omega, rfl⟩
theorem scale (N y s : Int) (hs : 0 < s) : (N * s) / (y * s) = N / y ∧ (N * s) % (y * s) / s = N % y := by
  refine ⟨Int.mul_ediv_mul_of_pos_left _ _ hs, ?_⟩
  rw [Int.mul_comm N, Int.mul_comm y, Int.mul_emod_mul_of_pos _ _ hs, Int.mul_ediv_cancel_left _ (by omega)]
/-- the shift that makes the divisor great -/
theorem shift (hi lo y : Int) (h0 : 0 < hi) (h1 : hi < y) (hy : y ≤ 18446744073709551615) (hl0 : 0 ≤ lo) (hl : lo ≤ 18446744073709551615) :
    ∃ S T Y U L : Int, 0 < S ∧ (2 : Int) ^ (64 - bitLen y.toNat) = S ∧ (2 : Int) ^ (64 - (64 - bitLen y.toNat)) = T ∧ IntKind.u64.wrap (y * S) = Y ∧ bits .or .u64 (IntKind.u64.wrap (hi * S)) (lo / T) = U ∧
      IntKind.u64.wrap (lo * S) = L ∧ Y = y * S ∧ 9223372036854775808 ≤ Y ∧ Y ≤ 18446744073709551615 ∧ 0 ≤ U ∧ U < Y ∧ 0 ≤ L ∧ L ≤ 18446744073709551615 ∧ U * 18446744073709551616 + L = (hi * 18446744073709551616 + lo) * S := by
  obtain ⟨n, rfl⟩ := Int.eq_ofNat_of_zero_le (show 0 ≤ y by omega)
  rw [Int.toNat_natCast]
  obtain ⟨hb1, hb2⟩ := bitLen_spec n
  have hb2 := hb2 (by omega)
  have hb3 : 1 ≤ bitLen n := by unfold bitLen; split <;> omega
  have hb4 : bitLen n ≤ 64 := by
    unfold bitLen
    split
    · omega
    · rename_i hn
      have : n.log2 < 64 := (Nat.log2_lt hn).2 (by omega)
      omega
  generalize bitLen n = b at *
  have e1 : 64 - (64 - b) = b := by omega
  rw [e1]
  have hS : (0 : Int) < 2 ^ (64 - b) := Int.pow_pos (by decide)
  have hT : (0 : Int) < 2 ^ b := Int.pow_pos (by decide)
  have hST : (2 : Int) ^ b * 2 ^ (64 - b) = 18446744073709551616 := by rw [← Int.pow_add, show b + (64 - b) = 64 by omega]; decide
  have hT2 : (2 : Int) ^ b = 2 * 2 ^ (b - 1) := by rw [show b = (b - 1) + 1 by omega, Int.pow_succ, Nat.add_sub_cancel]; omega
  have k1 : (n : Int) < 2 ^ b := by exact_mod_cast hb1
  have k2 : (2 : Int) ^ (b - 1) ≤ n := by exact_mod_cast hb2
  have hSn : 0 ≤ 64 - b := by omega
  refine ⟨2 ^ (64 - b), 2 ^ b, n * 2 ^ (64 - b), hi * 2 ^ (64 - b) + lo / 2 ^ b, lo * 2 ^ (64 - b) % 18446744073709551616, hS, rfl, rfl, ?_⟩
  have hdvd : hi * 2 ^ (64 - b) % 2 ^ (64 - b) = 0 := Int.mul_emod_left _ _
  have j : ∀ x y : Int, 0 ≤ x → x % 2 ^ (64 - b) = 0 → x < 18446744073709551616 → 0 ≤ y → y < 2 ^ (64 - b) → y < 18446744073709551616 → bits .or .u64 x y = x + y := fun x y a1 a2 a3 a4 a5 a6 =>
    Go.bits_join .u64 64 (by decide) (fun n h0 h1 => by rw [u64_wrap]; omega) (64 - b) x y a1 a2 a3 a4 a5 a6
  generalize hSS : (2 : Int) ^ (64 - b) = S at *
  generalize hTT : (2 : Int) ^ b = T at *
  generalize (2 : Int) ^ (b - 1) = T' at *
  have m1 := mul_le (show T' ≤ (n : Int) by omega) (show 0 ≤ S by omega)
  have m2 := mul_le (show (n : Int) + 1 ≤ T by omega) (show 0 ≤ S by omega)
  have m3 := mul_le (show hi + 1 ≤ (n : Int) by omega) (show 0 ≤ S by omega)
  have m4 := mul_le (show 1 ≤ hi by omega) (show 0 ≤ S by omega)
  have d1 : T' * S * 2 = T * S := by rw [hT2]; grind
  have d2 : ((n : Int) + 1) * S = n * S + S := by grind
  have d3 : (hi + 1) * S = hi * S + S := by grind
  have q1 : lo / T < S := by
    refine (Int.ediv_lt_iff_lt_mul hT).2 ?_
    rw [Int.mul_comm, hST]; omega
  have q0 : 0 ≤ lo / T := Int.ediv_nonneg hl0 (by omega)
  have hw1 : IntKind.u64.wrap (hi * S) = hi * S := by rw [u64_wrap]; omega
  have hL : lo * S % 18446744073709551616 = lo % T * S := by rw [← hST, Int.mul_comm lo, Int.mul_comm T, Int.mul_emod_mul_of_pos _ _ hS, Int.mul_comm]
  have d4 := Int.ediv_mul_add_emod lo T
  refine ⟨by rw [u64_wrap]; omega, ?_, by rw [u64_wrap], rfl, by omega, by omega, by omega, by omega, Int.emod_nonneg _ (by omega), by have := Int.emod_lt_of_pos (lo * S) (show (0:Int) < 18446744073709551616 by omega); omega, ?_⟩
  · rw [hw1]
    exact j _ _ (by omega) hdvd (by omega) q0 q1 (by omega)
  · rw [hL, ← hST]
    generalize lo / T = u at *
    generalize lo % T = v at *
    subst d4
    grind
end Knuth
end Go.Proofs.YthomeenmcajmdaaDoor
/- What math/bits' Mul64, Len64, LeadingZeros64 and Div64 answer. -/
namespace Go.Proofs.YthomeenmcajmdaaDoor
open Go.RowKit

set_option maxHeartbeats 400000 in
theorem mul64_any (x y : Int) (w : World) (hx0 : 0 ≤ x) (hx : x ≤ 18446744073709551615) (hy0 : 0 ≤ y) (hy : y ≤ 18446744073709551615) :
    Calls Tryd.prog 58 #[.int .u64 x, .int .u64 y] w fun e w' => e = .returned (.tuple #[.int .u64 (x * y / 18446744073709551616), .int .u64 (x * y % 18446744073709551616)]) ∧ w = w' := by
  go_enter Tryd.func58, Tryd.ntmps58
  go_wp2
  go_ret2
  refine ⟨ret_int2 ?_ (u64_wrap _), rfl⟩
  have a1 := and_low32 x hx0 (by omega)
  have a2 := and_low32 y hy0 (by omega)
  rw [← mul64_arith x y hx0 (by omega) hy0 (by omega)]
  simp only [u64_wrap, a1, a2]
  rw [and_low32 _ (by omega) (by omega)]

theorem bitLen_toNat_shift (x : Int) (b : Nat) (k : Int) (hk : k = ((2 ^ b : Nat) : Int)) (h0 : 0 ≤ x) (h : k ≤ x) : (bitLen x.toNat : Int) = b + bitLen (x / k).toNat := by
  subst hk
  obtain ⟨n, rfl⟩ := Int.eq_ofNat_of_zero_le h0
  have hp : 0 < 2 ^ b := Nat.two_pow_pos b
  have hn : 2 ^ b ≤ n := by exact_mod_cast h
  rw [show ((n : Int) / ((2 ^ b : Nat) : Int)) = ((n / 2 ^ b : Nat) : Int) from rfl, Int.toNat_natCast, Int.toNat_natCast,
    bitLen_shift n b (by have := Nat.div_pos hn hp; omega)]
  simp


theorem len_close (c t : Nat) (y : Int) (hc : c ≤ 56) (h0 : 0 ≤ y) (h : y < 256) (ht : t = bitLen y.toNat) : wrap64 (c + wrap64 t) = ((c + bitLen y.toNat : Nat) : Int) := by
  have hb := bitLen_le8 y.toNat (by omega)
  subst ht
  rw [IntWalk.wrap64_in (bitLen y.toNat : Int) (by omega), IntWalk.wrap64_in _ (by omega)]
  omega
theorem len_close0 (t : Nat) (y : Int) (h0 : 0 ≤ y) (h : y < 256) (ht : t = bitLen y.toNat) : wrap64 (wrap64 t) = (bitLen y.toNat : Int) := by
  have := len_close 0 t y (by omega) h0 h ht
  simpa using this
theorem sh32 (x : Int) (h : 4294967296 ≤ x) : bitLen x.toNat = 32 + bitLen (x / 4294967296).toNat := by
  have := bitLen_toNat_shift x 32 4294967296 (by decide) (by omega) h; omega
theorem sh16 (x : Int) (h : 65536 ≤ x) : bitLen x.toNat = 16 + bitLen (x / 65536).toNat := by
  have := bitLen_toNat_shift x 16 65536 (by decide) (by omega) h; omega
theorem sh8 (x : Int) (h : 256 ≤ x) : bitLen x.toNat = 8 + bitLen (x / 256).toNat := by
  have := bitLen_toNat_shift x 8 256 (by decide) (by omega) h; omega

set_option maxRecDepth 100000 in
set_option maxHeartbeats 400000 in
theorem len64_any (x : Int) (w : World) (hx0 : 0 ≤ x) (hx : x ≤ 18446744073709551615) :
    Calls Tryd.prog 50 #[.int .u64 x] w fun e w' => e = .returned (.int .i64 (bitLen x.toNat)) ∧ w = w' := by
  go_enter Tryd.func50, Tryd.ntmps50
  go_wp2
  all_goals (go_ret; refine ⟨ret_int ?_, rfl⟩)
  · rw [sh32 x (by omega), sh16 (x / 4294967296) (by omega), sh8 (x / 4294967296 / 65536) (by omega)]
    exact len_close 56 _ _ (by omega) (by omega) (by omega) (len8tab_get _ _) |>.trans (by omega)
  · rw [sh32 x (by omega), sh16 (x / 4294967296) (by omega)]
    exact len_close 48 _ _ (by omega) (by omega) (by omega) (len8tab_get _ _) |>.trans (by omega)
  · rw [sh32 x (by omega), sh8 (x / 4294967296) (by omega)]
    exact len_close 40 _ _ (by omega) (by omega) (by omega) (len8tab_get _ _) |>.trans (by omega)
  · rw [sh32 x (by omega)]
    exact len_close 32 _ _ (by omega) (by omega) (by omega) (len8tab_get _ _) |>.trans (by omega)
  · rw [sh16 x (by omega), sh8 (x / 65536) (by omega)]
    exact len_close 24 _ _ (by omega) (by omega) (by omega) (len8tab_get _ _) |>.trans (by omega)
  · rw [sh16 x (by omega)]
    exact len_close 16 _ _ (by omega) (by omega) (by omega) (len8tab_get _ _) |>.trans (by omega)
  · rw [sh8 x (by omega)]
    exact len_close 8 _ _ (by omega) (by omega) (by omega) (len8tab_get _ _) |>.trans (by omega)
  · exact len_close0 _ _ (by omega) (by omega) (len8tab_get _ _)


theorem bitLen_le64 (x : Int) (h0 : 0 ≤ x) (hx : x ≤ 18446744073709551615) : bitLen x.toNat ≤ 64 := by
  obtain ⟨n, rfl⟩ := Int.eq_ofNat_of_zero_le h0
  rw [Int.toNat_natCast]
  unfold bitLen
  split
  · omega
  · rename_i hn
    have : n.log2 < 64 := (Nat.log2_lt hn).2 (by omega)
    omega

set_option maxHeartbeats 400000 in
theorem lz64_any (x : Int) (w : World) (hx0 : 0 ≤ x) (hx : x ≤ 18446744073709551615) :
    Calls Tryd.prog 62 #[.int .u64 x] w fun e w' => e = .returned (.int .i64 (64 - bitLen x.toNat)) ∧ w = w' := by
  have hb := bitLen_le64 x hx0 hx
  go_enter Tryd.func62, Tryd.ntmps62
  go_wp2_with (go_at_call 50; refine (len64_any _ _ hx0 hx).mono ?_; rintro e w' ⟨rfl, rfl⟩)
  go_ret
  exact ⟨rfl, rfl⟩

set_option maxRecDepth 100000 in
set_option maxHeartbeats 400000 in
theorem div64_hi (hi lo y : Int) (w : World) (h0 : 0 < hi) (h1 : hi < y) (hy : y ≤ 18446744073709551615) (hl0 : 0 ≤ lo) (hl : lo ≤ 18446744073709551615) :
    Calls Tryd.prog 61 #[.int .u64 hi, .int .u64 lo, .int .u64 y] w fun e w' => e = .returned (.tuple #[.int .u64 ((hi * 18446744073709551616 + lo) / y), .int .u64 ((hi * 18446744073709551616 + lo) % y)]) ∧ w = w' := by
  have hb := bitLen_le64 y (by omega) hy
  have c1 : (y == 0) = false := by simp; omega
  have c2 : decide (y ≤ hi) = false := by simp; omega
  have c3 : (hi == 0) = false := by simp; omega
  obtain ⟨S, T, Y, U, L, hS, eS, eT, eY, eU, eL, hYS, hY0, hY1, hU0, hU1, hL0, hL1, hUL⟩ := Knuth.shift hi lo y h0 h1 hy hl0 hl
  have HYS := hid hYS; clear hYS
  have HUL := hid hUL; clear hUL
  have a1 := and_low32 Y (by omega) (by omega)
  have a2 := and_low32 L (by omega) (by omega)
  obtain ⟨y1, hy1⟩ : ∃ y1, Y / 4294967296 = y1 := ⟨_, rfl⟩
  obtain ⟨y0, hy0⟩ : ∃ y0, Y % 4294967296 = y0 := ⟨_, rfl⟩
  obtain ⟨l1, hl1⟩ : ∃ l1, L / 4294967296 = l1 := ⟨_, rfl⟩
  obtain ⟨l0, hl0⟩ : ∃ l0, L % 4294967296 = l0 := ⟨_, rfl⟩
  have b1 : 2147483648 ≤ y1 ∧ y1 ≤ 4294967295 := by omega
  have b0 : 0 ≤ y0 ∧ y0 ≤ 4294967295 := by omega
  have b3 : 0 ≤ l1 ∧ l1 ≤ 4294967295 := by omega
  have b2 : 0 ≤ l0 ∧ l0 ≤ 4294967295 := by omega
  have c4 : (y1 == 0) = false := by simp; omega
  have k0 : Y = y1 * 4294967296 + y0 := by omega
  have hQs := Knuth.start y1 y0 U l1 (by omega) (by omega) (by omega) hU0
  have hQb := Knuth.small y1 y0 U l1 (by omega) (by omega) (by omega) (by omega)
  have hqb := Knuth.qbound y1 y0 U (by omega) (by omega) hU0 (by omega)
  rw [← k0] at hQs hQb
  have hr := Knuth.rest U l1 Y (by omega) hY1
  have hR0 := Int.emod_nonneg (U * 4294967296 + l1) (show Y ≠ 0 by omega)
  have hR1 := Int.emod_lt_of_pos (U * 4294967296 + l1) (show 0 < Y by omega)
  have hQ0 : 0 ≤ (U * 4294967296 + l1) / Y := Int.ediv_nonneg (by omega) (by omega)
  have htwo := Knuth.two U l1 l0 Y (by omega)
  obtain ⟨Q, hQ⟩ : ∃ Q, (U * 4294967296 + l1) / Y = Q := ⟨_, rfl⟩
  obtain ⟨R, hR⟩ : ∃ R, (U * 4294967296 + l1) % Y = R := ⟨_, rfl⟩
  rw [hQ] at hQs hQb hQ0 hr
  rw [hR] at hr hR0 hR1
  rw [hQ, hR] at htwo
  have eR : IntKind.u64.wrap (IntKind.u64.wrap (IntKind.u64.wrap (U * 4294967296) + l1) - IntKind.u64.wrap (Q * Y)) = R := by simp only [u64_wrap]; exact hr
  have em1 := Int.ediv_mul_add_emod U y1
  have em2 := Int.emod_nonneg U (show y1 ≠ 0 by omega)
  have em3 := Int.emod_lt_of_pos U (show 0 < y1 by omega)
  have er : IntKind.u64.wrap (U - IntKind.u64.wrap (U / y1 * y1)) = U % y1 := by simp only [u64_wrap]; generalize U / y1 * y1 = z at *; generalize U % y1 = m at *; omega
  have hQs2 := Knuth.start y1 y0 R l0 (by omega) (by omega) (by omega) hR0
  have hQb2 := Knuth.small y1 y0 R l0 (by omega) (by omega) (by omega) (by omega)
  have hqb2 := Knuth.qbound y1 y0 R (by omega) (by omega) hR0 (by omega)
  rw [← k0] at hQs2 hQb2
  have hr2 := Knuth.rest R l0 Y (by omega) hY1
  have hQ02 : 0 ≤ (R * 4294967296 + l0) / Y := Int.ediv_nonneg (by omega) (by omega)
  have hP0 := Int.emod_nonneg (R * 4294967296 + l0) (show Y ≠ 0 by omega)
  have hP1 := Int.emod_lt_of_pos (R * 4294967296 + l0) (show 0 < Y by omega)
  obtain ⟨Q2, hQ2⟩ : ∃ Q, (R * 4294967296 + l0) / Y = Q := ⟨_, rfl⟩
  obtain ⟨R2, hR2⟩ : ∃ R', (R * 4294967296 + l0) % Y = R' := ⟨_, rfl⟩
  rw [hQ2] at hQs2 hQb2 hQ02 hr2
  rw [hR2] at hr2 hP0 hP1
  rw [hQ2, hR2] at htwo
  have eR2 : IntKind.u64.wrap (IntKind.u64.wrap (IntKind.u64.wrap (R * 4294967296) + l0) - IntKind.u64.wrap (Q2 * Y)) = R2 := by simp only [u64_wrap]; exact hr2
  have en1 := Int.ediv_mul_add_emod R y1
  have en2 := Int.emod_nonneg R (show y1 ≠ 0 by omega)
  have en3 := Int.emod_lt_of_pos R (show 0 < y1 by omega)
  have er2 : IntKind.u64.wrap (R - IntKind.u64.wrap (R / y1 * y1)) = R % y1 := by simp only [u64_wrap]; generalize R / y1 * y1 = z at *; generalize R % y1 = m at *; omega
  have hsc := Knuth.scale (hi * 18446744073709551616 + lo) y S hS
  rw [← HYS.out, ← HUL.out] at hsc
  have hL := Int.ediv_mul_add_emod L 4294967296
  rw [hl1, hl0] at hL
  rw [show U * 18446744073709551616 + L = (U * 4294967296 + l1) * 4294967296 + l0 by omega, htwo.1, htwo.2] at hsc
  have eF : IntKind.u64.wrap (IntKind.u64.wrap (Q * 4294967296) + Q2) = Q * 4294967296 + Q2 := by simp only [u64_wrap]; omega
  have Fin := hid (And.intro hsc.1 hsc.2)
  clear hsc htwo hL
  have K0 := hid k0; clear k0
  have HQ := hid hQ; clear hQ
  have HR := hid hR; clear hR
  have HQ2 := hid hQ2; clear hQ2
  have HR2 := hid hR2; clear hR2
  have Em1 := hid em1; clear em1
  have En1 := hid en1; clear en1
  clear hr hr2
  go_enter Tryd.func61, Tryd.ntmps61
  go_wp2_with (go_at_call 62; refine (lz64_any _ _ (by omega) hy).mono ?_; rintro e w' ⟨rfl, rfl⟩)
  go_loop [15, 16] (fun a b => ∃ q r : Int, a = .int .u64 q ∧ b = .int .u64 r ∧ q * y1 + r = U ∧ 0 ≤ r ∧ r < 4294967296 ∧ Q ≤ q ∧ q ≤ 4294967300) (fun _ b => 4294967296 - (intOf b).toNat)
  case atStart => exact ⟨_, _, rfl, rfl, Em1.out, by omega, by omega, hQs, by omega⟩
  case round =>
    obtain ⟨q, r, rfl, rfl, he, hr0, hr1, hq0, hq1⟩ := hrel
    have He := hid he; clear he
    by_cases hq : 4294967296 ≤ q
    · have hd := Knuth.down y1 U q r He.out
      have Hd := hid hd; clear hd
      by_cases hx : 4294967296 ≤ r + y1
      · have ho := Knuth.out y1 y0 U l1 (q - 1) (r + y1) (by omega) b0.1 (by omega) (by omega) (by omega) Hd.out hx
        rw [← K0.out, HQ.out] at ho
        have eq : q - 1 = Q := by omega
        clear ho
        go_wp2
        go_loop [18, 16] (fun a b => ∃ q r : Int, a = .int .u64 q ∧ b = .int .u64 r ∧ q * y1 + r = R ∧ 0 ≤ r ∧ r < 4294967296 ∧ Q2 ≤ q ∧ q ≤ 4294967300) (fun _ b => 4294967296 - (intOf b).toNat)
        case atStart => exact ⟨_, _, rfl, rfl, En1.out, by omega, by omega, hQs2, by omega⟩
        case round =>
          clear hq hr0 hr1 hq0 hq1 He
          obtain ⟨q, r, rfl, rfl, he, hr0, hr1, hq0, hq1⟩ := hrel
          have He := hid he; clear he
          by_cases hq : 4294967296 ≤ q
          · have hd := Knuth.down y1 R q r He.out
            have Hd := hid hd; clear hd
            by_cases hx : 4294967296 ≤ r + y1
            · have ho := Knuth.out y1 y0 R l0 (q - 1) (r + y1) (by omega) b0.1 (by omega) (by omega) (by omega) Hd.out hx
              rw [← K0.out, HQ2.out] at ho
              have eq : q - 1 = Q2 := by omega
              clear ho
              go_wp2
              go_ret2
              exact ⟨ret_int2 Fin.out.1 Fin.out.2, rfl⟩
            · go_wp2
              go_round
              case rel => exact ⟨q - 1, r + y1, rfl, rfl, Hd.out, by omega, by omega, by omega, by omega⟩
              case measure => simp [intOf]; omega
          · have p1 := Int.mul_nonneg (show 0 ≤ q by omega) b0.1
            have p2 := Int.mul_le_mul (show q ≤ 4294967296 by omega) b0.2 b0.1 (by omega)
            by_cases hc : 4294967296 * r + l0 < q * y0
            · have hm := Knuth.more y1 y0 R l0 q r (by omega) b0.1 He.out hc
              rw [← K0.out, HQ2.out] at hm
              have hd := Knuth.down y1 R q r He.out
              have Hd := hid hd; clear hd
              by_cases hx : 4294967296 ≤ r + y1
              · have ho := Knuth.out y1 y0 R l0 (q - 1) (r + y1) (by omega) b0.1 (by omega) (by omega) (by omega) Hd.out hx
                rw [← K0.out, HQ2.out] at ho
                have eq : q - 1 = Q2 := by omega
                clear ho
                go_wp2
                go_ret2
                exact ⟨ret_int2 Fin.out.1 Fin.out.2, rfl⟩
              · go_wp2
                go_round
                case rel => exact ⟨q - 1, r + y1, rfl, rfl, Hd.out, by omega, by omega, by omega, by omega⟩
                case measure => simp [intOf]; omega
            · have := Knuth.stop y1 y0 R l0 q r (by omega) b0.1 He.out (by omega)
              rw [← K0.out, HQ2.out] at this
              obtain rfl : Q2 = q := by omega
              go_wp2
              go_ret2
              exact ⟨ret_int2 Fin.out.1 Fin.out.2, rfl⟩
      · go_wp2
        go_round
        case rel => exact ⟨q - 1, r + y1, rfl, rfl, Hd.out, by omega, by omega, by omega, by omega⟩
        case measure => simp [intOf]; omega
    · have p1 := Int.mul_nonneg (show 0 ≤ q by omega) b0.1
      have p2 := Int.mul_le_mul (show q ≤ 4294967296 by omega) b0.2 b0.1 (by omega)
      by_cases hc : 4294967296 * r + l1 < q * y0
      · have hm := Knuth.more y1 y0 U l1 q r (by omega) b0.1 He.out hc
        rw [← K0.out, HQ.out] at hm
        have hd := Knuth.down y1 U q r He.out
        have Hd := hid hd; clear hd
        by_cases hx : 4294967296 ≤ r + y1
        · have ho := Knuth.out y1 y0 U l1 (q - 1) (r + y1) (by omega) b0.1 (by omega) (by omega) (by omega) Hd.out hx
          rw [← K0.out, HQ.out] at ho
          have eq : q - 1 = Q := by omega
          clear ho
          go_wp2
          go_loop [18, 16] (fun a b => ∃ q r : Int, a = .int .u64 q ∧ b = .int .u64 r ∧ q * y1 + r = R ∧ 0 ≤ r ∧ r < 4294967296 ∧ Q2 ≤ q ∧ q ≤ 4294967300) (fun _ b => 4294967296 - (intOf b).toNat)
          case atStart => exact ⟨_, _, rfl, rfl, En1.out, by omega, by omega, hQs2, by omega⟩
          case round =>
            clear hq hr0 hr1 hq0 hq1 He
            obtain ⟨q, r, rfl, rfl, he, hr0, hr1, hq0, hq1⟩ := hrel
            have He := hid he; clear he
            by_cases hq : 4294967296 ≤ q
            · have hd := Knuth.down y1 R q r He.out
              have Hd := hid hd; clear hd
              by_cases hx : 4294967296 ≤ r + y1
              · have ho := Knuth.out y1 y0 R l0 (q - 1) (r + y1) (by omega) b0.1 (by omega) (by omega) (by omega) Hd.out hx
                rw [← K0.out, HQ2.out] at ho
                have eq : q - 1 = Q2 := by omega
                clear ho
                go_wp2
                go_ret2
                exact ⟨ret_int2 Fin.out.1 Fin.out.2, rfl⟩
              · go_wp2
                go_round
                case rel => exact ⟨q - 1, r + y1, rfl, rfl, Hd.out, by omega, by omega, by omega, by omega⟩
                case measure => simp [intOf]; omega
            · have p1 := Int.mul_nonneg (show 0 ≤ q by omega) b0.1
              have p2 := Int.mul_le_mul (show q ≤ 4294967296 by omega) b0.2 b0.1 (by omega)
              by_cases hc : 4294967296 * r + l0 < q * y0
              · have hm := Knuth.more y1 y0 R l0 q r (by omega) b0.1 He.out hc
                rw [← K0.out, HQ2.out] at hm
                have hd := Knuth.down y1 R q r He.out
                have Hd := hid hd; clear hd
                by_cases hx : 4294967296 ≤ r + y1
                · have ho := Knuth.out y1 y0 R l0 (q - 1) (r + y1) (by omega) b0.1 (by omega) (by omega) (by omega) Hd.out hx
                  rw [← K0.out, HQ2.out] at ho
                  have eq : q - 1 = Q2 := by omega
                  clear ho
                  go_wp2
                  go_ret2
                  exact ⟨ret_int2 Fin.out.1 Fin.out.2, rfl⟩
                · go_wp2
                  go_round
                  case rel => exact ⟨q - 1, r + y1, rfl, rfl, Hd.out, by omega, by omega, by omega, by omega⟩
                  case measure => simp [intOf]; omega
              · have := Knuth.stop y1 y0 R l0 q r (by omega) b0.1 He.out (by omega)
                rw [← K0.out, HQ2.out] at this
                obtain rfl : Q2 = q := by omega
                go_wp2
                go_ret2
                exact ⟨ret_int2 Fin.out.1 Fin.out.2, rfl⟩
        · go_wp2
          go_round
          case rel => exact ⟨q - 1, r + y1, rfl, rfl, Hd.out, by omega, by omega, by omega, by omega⟩
          case measure => simp [intOf]; omega
      · have := Knuth.stop y1 y0 U l1 q r (by omega) b0.1 He.out (by omega)
        rw [← K0.out, HQ.out] at this
        obtain rfl : Q = q := by omega
        go_wp2
        go_loop [18, 16] (fun a b => ∃ q r : Int, a = .int .u64 q ∧ b = .int .u64 r ∧ q * y1 + r = R ∧ 0 ≤ r ∧ r < 4294967296 ∧ Q2 ≤ q ∧ q ≤ 4294967300) (fun _ b => 4294967296 - (intOf b).toNat)
        case atStart => exact ⟨_, _, rfl, rfl, En1.out, by omega, by omega, hQs2, by omega⟩
        case round =>
          clear hq hr0 hr1 hq0 hq1 He
          obtain ⟨q, r, rfl, rfl, he, hr0, hr1, hq0, hq1⟩ := hrel
          have He := hid he; clear he
          by_cases hq : 4294967296 ≤ q
          · have hd := Knuth.down y1 R q r He.out
            have Hd := hid hd; clear hd
            by_cases hx : 4294967296 ≤ r + y1
            · have ho := Knuth.out y1 y0 R l0 (q - 1) (r + y1) (by omega) b0.1 (by omega) (by omega) (by omega) Hd.out hx
              rw [← K0.out, HQ2.out] at ho
              have eq : q - 1 = Q2 := by omega
              clear ho
              go_wp2
              go_ret2
              exact ⟨ret_int2 Fin.out.1 Fin.out.2, rfl⟩
            · go_wp2
              go_round
              case rel => exact ⟨q - 1, r + y1, rfl, rfl, Hd.out, by omega, by omega, by omega, by omega⟩
              case measure => simp [intOf]; omega
          · have p1 := Int.mul_nonneg (show 0 ≤ q by omega) b0.1
            have p2 := Int.mul_le_mul (show q ≤ 4294967296 by omega) b0.2 b0.1 (by omega)
            by_cases hc : 4294967296 * r + l0 < q * y0
            · have hm := Knuth.more y1 y0 R l0 q r (by omega) b0.1 He.out hc
              rw [← K0.out, HQ2.out] at hm
              have hd := Knuth.down y1 R q r He.out
              have Hd := hid hd; clear hd
              by_cases hx : 4294967296 ≤ r + y1
              · have ho := Knuth.out y1 y0 R l0 (q - 1) (r + y1) (by omega) b0.1 (by omega) (by omega) (by omega) Hd.out hx
                rw [← K0.out, HQ2.out] at ho
                have eq : q - 1 = Q2 := by omega
                clear ho
                go_wp2
                go_ret2
                exact ⟨ret_int2 Fin.out.1 Fin.out.2, rfl⟩
              · go_wp2
                go_round
                case rel => exact ⟨q - 1, r + y1, rfl, rfl, Hd.out, by omega, by omega, by omega, by omega⟩
                case measure => simp [intOf]; omega
            · have := Knuth.stop y1 y0 R l0 q r (by omega) b0.1 He.out (by omega)
              rw [← K0.out, HQ2.out] at this
              obtain rfl : Q2 = q := by omega
              go_wp2
              go_ret2
              exact ⟨ret_int2 Fin.out.1 Fin.out.2, rfl⟩
set_option maxHeartbeats 400000 in
theorem div64_lo (lo y : Int) (w : World) (h1 : 0 < y) (hy : y ≤ 18446744073709551615) (hl0 : 0 ≤ lo) (hl : lo ≤ 18446744073709551615) :
    Calls Tryd.prog 61 #[.int .u64 0, .int .u64 lo, .int .u64 y] w fun e w' => e = .returned (.tuple #[.int .u64 (lo / y), .int .u64 (lo % y)]) ∧ ∃ n, w' = w.drewN n := by
  have c1 : (y == 0) = false := by simp; omega
  have c2 : decide (y ≤ 0) = false := by simp; omega
  have c3 : y ≠ 0 := by omega
  go_enter Tryd.func61, Tryd.ntmps61
  go_wp2_with fail
  go_quiet (fail)
  go_wp2_with fail
  go_ret2
  exact ⟨rfl, _, rfl⟩
end Go.Proofs.YthomeenmcajmdaaDoor
