/- Package tape, and the document's own answers: what a right tape is, and which words count. -/
import Derived.Test.YtcganfmlfoebpaaTpM
import Derived.Test.YtcganfmlfoebpaaBoxes
import Derived.Test.YtcganfmlfoebpaaRef01
namespace Go.Proofs.Ytcganfmlfoebpaa
open Go.RowKit

/-- a tape, as a value -/
def tapeV (v : Value) (k : Int) : Value := .agg #[v, .int .i64 k]
/-- is it right? -/
def tapeB (k : Int) (xs : List Int) : Bool := decide (xs.length ≤ 65536) && (decide (0 ≤ k) && decide (k ≤ xs.length))
theorem tapeB_mk {xs : List Int} {k : Int} (h : tapeB k xs = true) : xs.length ≤ 65536 ∧ ∃ n : Nat, k = n ∧ n ≤ xs.length := by
  unfold tapeB at h
  simp only [Bool.and_eq_true, decide_eq_true_eq] at h
  obtain ⟨n, rfl⟩ := Int.eq_ofNat_of_zero_le h.2.1
  exact ⟨h.1, n, rfl, by omega⟩
set_option maxHeartbeats 1000000 in
theorem tpRight (v : Value) (k : Int) (xs : List Int) (w : World) (hv : Ints .u64 w v xs) : Calls Try.prog 12 #[tapeV v k] w (Ret (.bool (tapeB k xs)) w) := by
  obtain ⟨a, cap, rfl, k1, k2, k3⟩ := hv
  clear k3
  unfold tapeV tapeB
  by_cases g1 : xs.length ≤ 65536
  · by_cases g2 : 0 ≤ k
    all_goals
      go_enter Try.func12, Try.ntmps12
      go_wp2_with fail
      go_ret
      exact ⟨ret_bool (by rw [Bool.eq_iff_iff]; simp; omega), (by repeat (first | exact Ext.refl _ | assumption | refine Ext.drew ?_ | refine Ext.drewN ?_ _ | refine Ext.alloc ?_ _ | refine Ext.trans ?_ (by assumption)))⟩
  · go_enter Try.func12, Try.ntmps12
    go_wp2_with fail
    go_ret
    exact ⟨ret_bool (by simp), (by repeat (first | exact Ext.refl _ | assumption | refine Ext.drew ?_ | refine Ext.drewN ?_ _ | refine Ext.alloc ?_ _ | refine Ext.trans ?_ (by assumption)))⟩
set_option maxHeartbeats 1000000 in
theorem r10Right (v : Value) (k : Int) (xs : List Int) (w : World) (hv : Ints .u64 w v xs) : Calls Try.prog 8 #[tapeV v k] w (Ret (.bool (tapeB k xs)) w) := by
  obtain ⟨a, cap, rfl, k1, k2, k3⟩ := hv
  clear k3
  unfold tapeV tapeB
  by_cases g1 : xs.length ≤ 65536
  · by_cases g2 : 0 ≤ k
    all_goals
      go_enter Try.func8, Try.ntmps8
      go_wp2_with fail
      go_ret
      exact ⟨ret_bool (by rw [Bool.eq_iff_iff]; simp; omega), (by repeat (first | exact Ext.refl _ | assumption | refine Ext.drew ?_ | refine Ext.drewN ?_ _ | refine Ext.alloc ?_ _ | refine Ext.trans ?_ (by assumption)))⟩
  · go_enter Try.func8, Try.ntmps8
    go_wp2_with fail
    go_ret
    exact ⟨ret_bool (by simp), (by repeat (first | exact Ext.refl _ | assumption | refine Ext.drew ?_ | refine Ext.drewN ?_ _ | refine Ext.alloc ?_ _ | refine Ext.trans ?_ (by assumption)))⟩
theorem neg_mod (p : Int) : (18446744073709551616 - p) % p = 18446744073709551616 % p := by
  rw [Int.sub_emod_right]
set_option maxHeartbeats 1000000 in
theorem tpCounts (p x : Int) (w : World) (h0 : 0 ≤ p) (h1 : p ≤ 18446744073709551615) : Calls Try.prog 13 #[.int .u64 p, .int .u64 x] w fun e w' => e = .returned (.bool (cntB p x)) ∧ w = w' := by
  have C := hid (right_any p w h0 h1)
  unfold cntB
  cases hR : rightB p
  · rw [hR] at C
    go_enter Try.func13, Try.ntmps13
    go_wp2_with (go_at_call 21; refine C.out.mono ?_; rintro _ _ ⟨rfl, rfl⟩)
    go_ret
    exact ⟨ret_bool (by simp), rfl⟩
  · rw [hR] at C
    have hp := rightB_true hR
    obtain ⟨r, er, r0, r1⟩ := name_mod (p := p) 18446744073709551616 hp.1
    have e := neg_mod p
    rw [er] at e ⊢
    have E := hid e
    have e1 : IntKind.u64.wrap (-p) = 18446744073709551616 - p := by rw [u64_wrap]; omega
    have e2 : (18446744073709551616 - p).tmod p = r := by rw [Int.tmod_eq_emod_of_nonneg (by omega)]; exact E.out
    have e3 : IntKind.u64.wrap (18446744073709551615 - r) = 18446744073709551615 - r := by rw [u64_wrap]; omega
    have E1 := hid e1; have E2 := hid e2; have E3 := hid e3
    clear e er hR e1 e2 e3
    go_enter Try.func13, Try.ntmps13
    go_wp2_with (go_at_call 21; refine C.out.mono ?_; rintro _ _ ⟨rfl, rfl⟩)
    go_ret
    exact ⟨ret_bool (by rw [Bool.eq_iff_iff]; simp [E1.out, E2.out, E3.out]), rfl⟩
set_option maxHeartbeats 1000000 in
theorem r10Counts (p x : Int) (w : World) (h0 : 0 ≤ p) (h1 : p ≤ 18446744073709551615) (x0 : 0 ≤ x) (x1 : x ≤ 18446744073709551615) : Calls Try.prog 14 #[.int .u64 p, .int .u64 x] w fun e w' => e = .returned (.bool (cntB p x)) ∧ w = w' := by
  have C := hid (rRight p w h0 h1)
  unfold cntB
  cases hR : rightB p
  · rw [hR] at C
    go_enter Try.func14, Try.ntmps14
    go_wp2_with (go_at_call 16; refine C.out.mono ?_; rintro _ _ ⟨rfl, rfl⟩)
    go_ret
    exact ⟨ret_bool (by simp), rfl⟩
  · rw [hR] at C
    have hp := rightB_true hR
    have hc := cnt_first hp.1 hp.2 x0 x1
    obtain ⟨D, hD⟩ : ∃ D, decide (x ≤ 18446744073709551615 - 18446744073709551616 % p) = D := ⟨_, rfl⟩
    have hx := mod_range x hp.1
    have hxle : x % p ≤ x := by have a3 := Int.ediv_mul_add_emod x p; have a4 := Int.mul_nonneg (Int.ediv_nonneg x0 (show 0 ≤ p by omega)) (show 0 ≤ p by omega); omega
    rw [hD]
    obtain ⟨r, er⟩ : ∃ r, x % p = r := ⟨_, rfl⟩
    have ht : x.tmod p = r := by rw [Int.tmod_eq_emod_of_nonneg x0]; exact er
    rw [er] at hc hx hxle
    have e1 : IntKind.u64.wrap (x - r) = x - r := by rw [u64_wrap]; omega
    have hd : decide (x - r ≤ IntKind.u64.wrap (x - r + (p - 1))) = D := by
      rw [← hD, Bool.eq_iff_iff, decide_eq_true_eq, decide_eq_true_eq, hc, u64_wrap]
      constructor <;> intro h <;> omega
    have E1 := hid e1; have Hd := hid hd; have Er := hid er
    clear hc hD er hR e1 hd ht
    go_enter Try.func14, Try.ntmps14
    go_wp2_with (go_at_call 16; refine C.out.mono ?_; rintro _ _ ⟨rfl, rfl⟩)
    go_ret
    exact ⟨ret_bool (by rw [← Hd.out, Bool.eq_iff_iff]; simp [Er.out, E1.out]), rfl⟩
end Go.Proofs.Ytcganfmlfoebpaa
