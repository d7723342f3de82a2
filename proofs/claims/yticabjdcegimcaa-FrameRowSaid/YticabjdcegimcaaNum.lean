/- Words of 64 bits: what Knuth's division of two words by one does, in plain numbers. -/
import Derived.Test.YticabjdcegimcaaBase
import Derived.Laws.MathBits
import Derived.Laws.BitsLemmas
namespace Go.Proofs.Yticabjdcegimcaa
namespace Knuth
theorem mul_le {a b c : Int} (h : a ≤ b) (hc : 0 ≤ c) : a * c ≤ b * c := Int.mul_le_mul_of_nonneg_right h hc
section
variable (y1 y0 U l q r : Int)
/-- 2^32 -/
theorem split (h : q * y1 + r = U) : q * (y1 * 4294967296 + y0) = (U - r) * 4294967296 + q * y0 := by grind
theorem lt_of (Y N q : Int) (hY : 0 < Y) (h : N < (q + 1) * Y) : N / Y ≤ q := by
  have := (Int.ediv_lt_iff_lt_mul hY).2 h; omega
theorem ge_of (Y N q : Int) (hY : 0 < Y) (h : q * Y ≤ N) : q ≤ N / Y := (Int.le_ediv_iff_mul_le hY).2 h
theorem start (h1 : 0 < y1) (h0 : 0 ≤ y0) (hl : l < 4294967296) (hU : 0 ≤ U) : (U * 4294967296 + l) / (y1 * 4294967296 + y0) ≤ U / y1 := by
  refine lt_of _ _ _ (by omega) ?_
  have h := Int.lt_ediv_add_one_mul_self U h1
  have hq : 0 ≤ U / y1 := Int.ediv_nonneg hU (by omega)
  have : 0 ≤ (U / y1 + 1) * y0 := Int.mul_nonneg (by omega) h0
  have e : (U / y1 + 1) * (y1 * 4294967296 + y0) = (U / y1 + 1) * y1 * 4294967296 + (U / y1 + 1) * y0 := by grind
  omega
theorem stop (h1 : 0 < y1) (h0 : 0 ≤ y0) (h : q * y1 + r = U) (hc : q * y0 ≤ 4294967296 * r + l) : q ≤ (U * 4294967296 + l) / (y1 * 4294967296 + y0) := by
  refine ge_of _ _ _ (by omega) ?_
  rw [split y1 y0 U q r h]; omega
theorem more (h1 : 0 < y1) (h0 : 0 ≤ y0) (h : q * y1 + r = U) (hc : 4294967296 * r + l < q * y0) : (U * 4294967296 + l) / (y1 * 4294967296 + y0) ≤ q - 1 := by
  refine lt_of _ _ _ (by omega) ?_
  rw [show q - 1 + 1 = q by omega, split y1 y0 U q r h]; omega
theorem small (h1 : 0 < y1) (h0 : 0 ≤ y0) (hU : U < y1 * 4294967296 + y0) (hl : l < 4294967296) : (U * 4294967296 + l) / (y1 * 4294967296 + y0) ≤ 4294967295 := by
  refine lt_of _ _ _ (by omega) ?_
  omega
theorem out (h1 : 0 < y1) (h0 : 0 ≤ y0) (hy0 : y0 ≤ 4294967296) (hU : U < y1 * 4294967296 + y0) (hl : 0 ≤ l) (h : q * y1 + r = U) (hr : 4294967296 ≤ r) : q ≤ (U * 4294967296 + l) / (y1 * 4294967296 + y0) := by
  refine stop y1 y0 U l q r h1 h0 h ?_
  by_cases hq : q ≤ 4294967296
  · have := Int.mul_le_mul hq hy0 h0 (by omega); omega
  · have := mul_le (show 4294967296 ≤ q by omega) (show 0 ≤ y1 by omega)
    omega
theorem down (h : q * y1 + r = U) : (q - 1) * y1 + (r + y1) = U := by grind
theorem qbound (h1 : 2147483648 ≤ y1) (h0 : y0 < 4294967296) (hU0 : 0 ≤ U) (hU : U < y1 * 4294967296 + y0) : 0 ≤ U / y1 ∧ U / y1 ≤ 4294967300 := by
  refine ⟨Int.ediv_nonneg hU0 (by omega), ?_⟩
  refine lt_of _ _ _ (by omega) ?_
  have := mul_le h1 (show (0:Int) ≤ 5 by omega)
  omega
end
/-- what is left of a step, in words that wrap -/
theorem rest (U l Y : Int) (hY : 0 < Y) (hY2 : Y ≤ 18446744073709551615) :
    ((U * 4294967296 % 18446744073709551616 + l) % 18446744073709551616 - ((U * 4294967296 + l) / Y * Y) % 18446744073709551616) % 18446744073709551616 = (U * 4294967296 + l) % Y := by
  have h1 := Int.emod_nonneg (U * 4294967296 + l) (show Y ≠ 0 by omega)
  have h2 := Int.emod_lt_of_pos (U * 4294967296 + l) hY
  have h3 := Int.ediv_mul_add_emod (U * 4294967296 + l) Y
  generalize (U * 4294967296 + l) / Y * Y = z at *
  generalize (U * 4294967296 + l) % Y = m at *
  omega
/-- two steps make the whole -/
theorem two (U l1 l0 Y : Int) (hY : 0 < Y) :
    ((U * 4294967296 + l1) * 4294967296 + l0) / Y = (U * 4294967296 + l1) / Y * 4294967296 + ((U * 4294967296 + l1) % Y * 4294967296 + l0) / Y ∧
    ((U * 4294967296 + l1) * 4294967296 + l0) % Y = ((U * 4294967296 + l1) % Y * 4294967296 + l0) % Y := by
  generalize U * 4294967296 + l1 = N
  have h := Int.ediv_mul_add_emod N Y
  generalize hq : N / Y = q at *
  generalize hm : N % Y = m at *
  have e : N * 4294967296 + l0 = (m * 4294967296 + l0) + (q * 4294967296) * Y := by grind
  rw [e, Int.add_mul_ediv_right _ _ (by omega), Int.add_mul_emod_self_right]
  exact ⟨by omega, rfl⟩
theorem scale (N y s : Int) (hs : 0 < s) : (N * s) / (y * s) = N / y ∧ (N * s) % (y * s) / s = N % y := by
  refine ⟨Int.mul_ediv_mul_of_pos_left _ _ hs, ?_⟩
  rw [Int.mul_comm N, Int.mul_comm y, Int.mul_emod_mul_of_pos _ _ hs, Int.mul_ediv_cancel_left _ (by omega)]
/-- the shift that makes the divisor great -/
theorem shift (hi lo y : Int) (h0 : 0 < hi) (h1 : hi < y) (hy : y ≤ 18446744073709551615) (hl0 : 0 ≤ lo) (hl : lo ≤ 18446744073709551615) :
    ∃ S T Y U L : Int, 0 < S ∧ (2 : Int) ^ (64 - bitLen y.toNat) = S ∧ (2 : Int) ^ (64 - (64 - bitLen y.toNat)) = T ∧ IntKind.u64.wrap (y * S) = Y ∧ bits .or .u64 (IntKind.u64.wrap (hi * S)) (lo / T) = U ∧
      IntKind.u64.wrap (lo * S) = L ∧ Y = y * S ∧ 9223372036854775808 ≤ Y ∧ Y ≤ 18446744073709551615 ∧ 0 ≤ U ∧ U < Y ∧ 0 ≤ L ∧ L ≤ 18446744073709551615 ∧ U * 18446744073709551616 + L = (hi * 18446744073709551616 + lo) * S := by
  obtain ⟨n, rfl⟩ := Int.eq_ofNat_of_zero_le (show 0 ≤ y by omega)
  rw [Int.toNat_natCast]
  obtain ⟨hb1, hb2⟩ := bitLen_spec n
  have hb2 := hb2 (by omega)
  have hb3 : 1 ≤ bitLen n := by unfold bitLen; split <;> omega
  have hb4 : bitLen n ≤ 64 := by
    unfold bitLen
    split
    · omega
    · rename_i hn
      have : n.log2 < 64 := (Nat.log2_lt hn).2 (by omega)
      omega
  generalize bitLen n = b at *
  have e1 : 64 - (64 - b) = b := by omega
  rw [e1]
  have hS : (0 : Int) < 2 ^ (64 - b) := Int.pow_pos (by decide)
  have hT : (0 : Int) < 2 ^ b := Int.pow_pos (by decide)
  have hST : (2 : Int) ^ b * 2 ^ (64 - b) = 18446744073709551616 := by rw [← Int.pow_add, show b + (64 - b) = 64 by omega]; decide
  have hT2 : (2 : Int) ^ b = 2 * 2 ^ (b - 1) := by rw [show b = (b - 1) + 1 by omega, Int.pow_succ, Nat.add_sub_cancel]; omega
  have k1 : (n : Int) < 2 ^ b := by exact_mod_cast hb1
  have k2 : (2 : Int) ^ (b - 1) ≤ n := by exact_mod_cast hb2
  have hSn : 0 ≤ 64 - b := by omega
  refine ⟨2 ^ (64 - b), 2 ^ b, n * 2 ^ (64 - b), hi * 2 ^ (64 - b) + lo / 2 ^ b, lo * 2 ^ (64 - b) % 18446744073709551616, hS, rfl, rfl, ?_⟩
  have hdvd : hi * 2 ^ (64 - b) % 2 ^ (64 - b) = 0 := Int.mul_emod_left _ _
  have j : ∀ x y : Int, 0 ≤ x → x % 2 ^ (64 - b) = 0 → x < 18446744073709551616 → 0 ≤ y → y < 2 ^ (64 - b) → y < 18446744073709551616 → bits .or .u64 x y = x + y := fun x y a1 a2 a3 a4 a5 a6 =>
    Go.bits_join .u64 64 (by decide) (fun n h0 h1 => by rw [u64_wrap]; omega) (64 - b) x y a1 a2 a3 a4 a5 a6
  generalize hSS : (2 : Int) ^ (64 - b) = S at *
  generalize hTT : (2 : Int) ^ b = T at *
  generalize (2 : Int) ^ (b - 1) = T' at *
  have m1 := mul_le (show T' ≤ (n : Int) by omega) (show 0 ≤ S by omega)
  have m2 := mul_le (show (n : Int) + 1 ≤ T by omega) (show 0 ≤ S by omega)
  have m3 := mul_le (show hi + 1 ≤ (n : Int) by omega) (show 0 ≤ S by omega)
  have m4 := mul_le (show 1 ≤ hi by omega) (show 0 ≤ S by omega)
  have d1 : T' * S * 2 = T * S := by rw [hT2]; grind
  have d2 : ((n : Int) + 1) * S = n * S + S := by grind
  have d3 : (hi + 1) * S = hi * S + S := by grind
  have q1 : lo / T < S := by
    refine (Int.ediv_lt_iff_lt_mul hT).2 ?_
    rw [Int.mul_comm, hST]; omega
  have q0 : 0 ≤ lo / T := Int.ediv_nonneg hl0 (by omega)
  have hw1 : IntKind.u64.wrap (hi * S) = hi * S := by rw [u64_wrap]; omega
  have hL : lo * S % 18446744073709551616 = lo % T * S := by rw [← hST, Int.mul_comm lo, Int.mul_comm T, Int.mul_emod_mul_of_pos _ _ hS, Int.mul_comm]
  have d4 := Int.ediv_mul_add_emod lo T
  refine ⟨by rw [u64_wrap]; omega, ?_, by rw [u64_wrap], rfl, by omega, by omega, by omega, by omega, Int.emod_nonneg _ (by omega), by have := Int.emod_lt_of_pos (lo * S) (show (0:Int) < 18446744073709551616 by omega); omega, ?_⟩
  · rw [hw1]
    exact j _ _ (by omega) hdvd (by omega) q0 q1 (by omega)
  · rw [hL, ← hST]
    generalize lo / T = u at *
    generalize lo % T = v at *
    subst d4
    grind
end Knuth
end Go.Proofs.Yticabjdcegimcaa
