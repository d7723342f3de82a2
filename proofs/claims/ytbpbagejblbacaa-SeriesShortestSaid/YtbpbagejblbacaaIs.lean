/- Whether a number is prime, as the document's own answer tells it: by trial. -/
import Derived.Test.YtbpbagejblbacaaField
namespace Go.Proofs.Ytbpbagejblbacaa
open Go.RowKit

/-- no number from 2 on, whose square is no more, divides n -/
def IsP (n : Int) : Prop := 2 ≤ n ∧ ∀ d : Int, 2 ≤ d → d * d ≤ n → n % d ≠ 0

open Classical in
noncomputable def isB (n : Int) : Bool := decide (IsP n)
theorem isB_iff (n : Int) : isB n = true ↔ IsP n := by simp [isB]
theorem isB_no {n : Int} (h : ¬ IsP n) : isB n = false := by simp [isB, h]

set_option maxHeartbeats 1000000 in
theorem Is_any (n : Int) (w : World) (h0 : 0 ≤ n) (h1 : n < 4294967296) :
    Calls Try.prog 35 #[.int .u64 n] w fun e w' => e = .returned (.bool (isB n)) ∧ w = w' := by
  by_cases h2 : n < 2
  · go_enter Try.func35, Try.ntmps35
    go_wp2_with fail
    go_ret
    exact ⟨ret_bool (isB_no (by simp [IsP]; omega)).symm, rfl⟩
  · go_enter Try.func35, Try.ntmps35
    go_wp2_with fail
    go_loop [3] (fun q => ∃ d : Int, q = .int .u64 d ∧ 2 ≤ d ∧ d ≤ 65536 ∧ ∀ c, 2 ≤ c → c < d → n % c ≠ 0) (fun q => (65537 - intOf q).toNat)
    case atStart => exact ⟨2, rfl, by omega, by omega, fun c h1 h2 => by omega⟩
    case round =>
      obtain ⟨d, rfl, hd, hd2, hall⟩ := hrel
      have Ha := hid hall; clear hall
      have hs0 : 0 ≤ d * d := Int.mul_nonneg (by omega) (by omega)
      have hs1 : d * d ≤ 4294967296 := by
        have := Int.mul_le_mul hd2 hd2 (by omega) (by omega)
        simpa using this
      by_cases hle : d * d ≤ n
      · have bb : decide (d * d ≤ n) = true := by simpa using hle
        have hd3 : d < 65536 := by
          apply Classical.byContradiction
          intro h
          have : d = 65536 := by omega
          subst this
          omega
        by_cases hz : n % d = 0
        · have bz : (n % d == 0) = true := by simpa using hz
          have HZ := hid hz; have HL := hid hle
          clear hz hle
          go_wp2_with fail
          go_ret
          exact ⟨ret_bool (isB_no fun h => h.2 d hd HL.out HZ.out).symm, rfl⟩
        · have bz : (n % d == 0) = false := by simpa using hz
          have HZ := hid hz
          clear hz hle
          go_wp2_with fail
          go_round
          case rel => exact ⟨d + 1, rfl, by omega, by omega, fun c h3 h4 => by
            by_cases e : c = d
            · rw [e]; exact HZ.out
            · exact Ha.out c h3 (by omega)⟩
          case measure => simp [intOf]; omega
      · have bb : decide (d * d ≤ n) = false := by simpa using hle
        have HL := hid hle
        clear hle
        go_wp2_with fail
        go_ret
        refine ⟨ret_bool ((isB_iff n).2 ⟨by omega, fun c h3 h4 => ?_⟩).symm, rfl⟩
        rcases Int.lt_or_le c d with h5 | h5
        · exact Ha.out c h3 h5
        · have := Int.mul_le_mul h5 h5 (by omega) (by omega)
          have := HL.out; omega

theorem Is_as (n : Int) (b : Bool) (w : World) (h0 : 0 ≤ n) (h1 : n < 4294967296) (h : isB n = b) :
    Calls Try.prog 35 #[.int .u64 n] w fun e w' => e = .returned (.bool b) ∧ w = w' := h ▸ Is_any n w h0 h1
end Go.Proofs.Ytbpbagejblbacaa
