/- What math/bits' Mul64, Len64, LeadingZeros64 and Div64 answer. -/
import Derived.Test.YticabjdcegimcaaRows
import Derived.Test.YticabjdcegimcaaBase
import Derived.Test.YticabjdcegimcaaNum
namespace Go.Proofs.Yticabjdcegimcaa
open Go.RowKit

theorem bitLen_toNat_shift (x : Int) (b : Nat) (k : Int) (hk : k = ((2 ^ b : Nat) : Int)) (h0 : 0 ≤ x) (h : k ≤ x) : (bitLen x.toNat : Int) = b + bitLen (x / k).toNat := by
  subst hk
  obtain ⟨n, rfl⟩ := Int.eq_ofNat_of_zero_le h0
  have hp : 0 < 2 ^ b := Nat.two_pow_pos b
  have hn : 2 ^ b ≤ n := by exact_mod_cast h
  rw [show ((n : Int) / ((2 ^ b : Nat) : Int)) = ((n / 2 ^ b : Nat) : Int) from rfl, Int.toNat_natCast, Int.toNat_natCast,
    bitLen_shift n b (by have := Nat.div_pos hn hp; omega)]
  simp


theorem len_close (c t : Nat) (y : Int) (hc : c ≤ 56) (h0 : 0 ≤ y) (h : y < 256) (ht : t = bitLen y.toNat) : wrap64 (c + wrap64 t) = ((c + bitLen y.toNat : Nat) : Int) := by
  have hb := bitLen_le8 y.toNat (by omega)
  subst ht
  rw [IntWalk.wrap64_in (bitLen y.toNat : Int) (by omega), IntWalk.wrap64_in _ (by omega)]
  omega
theorem len_close0 (t : Nat) (y : Int) (h0 : 0 ≤ y) (h : y < 256) (ht : t = bitLen y.toNat) : wrap64 (wrap64 t) = (bitLen y.toNat : Int) := by
  have := len_close 0 t y (by omega) h0 h ht
  simpa using this
theorem sh32 (x : Int) (h : 4294967296 ≤ x) : bitLen x.toNat = 32 + bitLen (x / 4294967296).toNat := by
  have := bitLen_toNat_shift x 32 4294967296 (by decide) (by omega) h; omega
theorem sh16 (x : Int) (h : 65536 ≤ x) : bitLen x.toNat = 16 + bitLen (x / 65536).toNat := by
  have := bitLen_toNat_shift x 16 65536 (by decide) (by omega) h; omega
theorem sh8 (x : Int) (h : 256 ≤ x) : bitLen x.toNat = 8 + bitLen (x / 256).toNat := by
  have := bitLen_toNat_shift x 8 256 (by decide) (by omega) h; omega

theorem bitLen_le64 (x : Int) (h0 : 0 ≤ x) (hx : x ≤ 18446744073709551615) : bitLen x.toNat ≤ 64 := by
  obtain ⟨n, rfl⟩ := Int.eq_ofNat_of_zero_le h0
  rw [Int.toNat_natCast]
  unfold bitLen
  split
  · omega
  · rename_i hn
    have : n.log2 < 64 := (Nat.log2_lt hn).2 (by omega)
    omega

end Go.Proofs.Yticabjdcegimcaa
