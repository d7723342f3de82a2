import Derived.Test.YthomeenmcajmdaaGreatDoorBun07
import Derived.Test.YthomeenmcajmdaaGreatDoorBun04
import Derived.Lib.TrailingZeros
import Derived.Laws.Bits64b
namespace Go.Proofs.YthomeenmcajmdaaGreatDoor
open Go.RowKit Go.Maps
def Tab (w : World) : Prop := ∀ j, j < 64 → w.cell? ⟨2, j, none⟩ = some (.int .u8 (Lib.deBruijn64tab.getD j 0))
theorem Tab.ext {w w' : World} (h : Tab w) (he : Ext w w') : Tab w' := fun j hj => (he.cells _ _ (cell_lt (h 0 (by omega)))).trans (h j hj)
theorem tz_key (x a : Nat) (hx : x < 18446744073709551616) (hx0 : x ≠ 0) (hlow : x &&& (18446744073709551616 - x) = a) :
    IntKind.u64.wrap (bits BinOp.and IntKind.u64 (x : Int) (IntKind.u64.wrap (-(x : Int))) * 285870213051353865) / 288230376151711744 = ((a * 285870213051353865 % 18446744073709551616 / 288230376151711744 : Nat) : Int) := by
  have e1 : IntKind.u64.wrap (-(x : Int)) = ((18446744073709551616 - x : Nat) : Int) := by rw [u64_wrap]; omega
  rw [e1, bits_and_u64_nat x _ hx (by omega), hlow, u64_wrap]
  omega
set_option maxHeartbeats 1000000 in
theorem tz_core (x k idx : Nat) (w : World) (hx0 : ((x : Int) == 0) = false)
    (key : IntKind.u64.wrap (bits BinOp.and IntKind.u64 (x : Int) (IntKind.u64.wrap (-(x : Int))) * 285870213051353865) / 288230376151711744 = (idx : Int))
    (hi : idx < 64) (hk : k < 64) (hcell : w.cell? ⟨2, idx, none⟩ = some (.int .u8 k)) :
    Calls Tryz.prog 122 #[.int .u64 x] w fun e w' => e = .returned (.int .i64 k) ∧ w = w' := by
  go_enter Tryz.func122, Tryz.ntmps122
  go_wp2_with (simp only [key])
  go_ret
  exact ⟨rfl, rfl⟩
theorem tz_any (x : Nat) (hx : x < 18446744073709551616) (hx0 : x ≠ 0) (w : World) (hT : Tab w) :
    Calls Tryz.prog 122 #[.int .u64 x] w fun e w' => e = .returned (.int .i64 (Lib.ctz 64 x)) ∧ w = w' := by
  obtain ⟨hlow, hk⟩ := Lib.lowest_bit 64 x hx0 hx
  obtain ⟨hi, htab⟩ := Lib.deBruijn64_at _ hk
  have hcell := hT _ hi
  rw [htab] at hcell
  exact tz_core x _ _ w (by simp; omega) (tz_key x _ hx hx0 hlow) hi hk hcell
def stLoop (n : Int) : Nat → Int → Bool
  | 0, _ => false
  | t + 1, x => if x = n - 1 then true else stLoop n t (powv n x 2)
def standsB (n b : Int) : Bool :=
  decide (powv n (b % n) ((n - 1) / 2 ^ Lib.ctz 64 (n - 1).toNat) = 1) || stLoop n (Lib.ctz 64 (n - 1).toNat) (powv n (b % n) ((n - 1) / 2 ^ Lib.ctz 64 (n - 1).toNat))
theorem ctz_lt {x : Nat} (hx : x < 18446744073709551616) (hx0 : x ≠ 0) : Lib.ctz 64 x < 64 := (Lib.lowest_bit 64 x hx0 hx).2
set_option maxHeartbeats 1000000 in
theorem stands_any (n b : Int) (w : World) (hn0 : 2 ≤ n) (hn : n ≤ 18446744073709551615) (hb0 : 0 ≤ b) (hT : Tab w) :
    Calls Tryz.prog 97 #[.int .u64 n, .int .u64 b] w (Ret (.bool (standsB n b)) w) := by
  obtain ⟨m, em⟩ : ∃ m : Nat, m = (n - 1).toNat := ⟨_, rfl⟩
  have em2 : ((m : Nat) : Int) = n - 1 := by omega
  have ht := ctz_lt (x := m) (by omega) (by omega)
  have hz := hid (tz_any m (by omega) (by omega) w hT)
  rw [em2] at hz
  obtain ⟨t, et⟩ : ∃ t, Lib.ctz 64 m = t := ⟨_, rfl⟩
  rw [et] at ht hz
  obtain ⟨R, eR⟩ : ∃ R, standsB n b = R := ⟨_, rfl⟩
  have eR2 := eR
  rw [eR]
  rw [standsB, ← em, et] at eR2
  have hq : 0 ≤ (n - 1) / 2 ^ t ∧ (n - 1) / 2 ^ t ≤ n - 1 := ⟨Int.ediv_nonneg (by omega) (Int.le_of_lt (Int.pow_pos (by omega))), Int.ediv_le_self _ (by omega)⟩
  obtain ⟨q, eq⟩ : ∃ q, (n - 1) / 2 ^ t = q := ⟨_, rfl⟩
  rw [eq] at hq eR2
  obtain ⟨c, ec⟩ : ∃ c, b % n = c := ⟨_, rfl⟩
  have hc := mod_range (p := n) b (by omega)
  rw [ec] at eR2 hc
  have hx := powv_range n c q
  obtain ⟨x, ex⟩ : ∃ x, powv n c q = x := ⟨_, rfl⟩
  rw [ex] at eR2 hx
  have HT := hid hT
  have ER := hid eR2; have EX := hid ex; have EQ := hid eq; have EC := hid ec
  have hne : ¬ n = 0 := by omega
  have hwr : IntKind.u64.wrap (n - 1) = n - 1 := by rw [u64_wrap]; omega
  have hbt : b.tmod n = c := by rw [Int.tmod_eq_emod_of_nonneg hb0]; exact ec
  clear hT eR eR2 ex em em2 et ec
  go_enter Tryz.func97, Tryz.ntmps97
  go_wp2_with (first | (go_at_call 122; refine hz.out.mono ?_; rintro _ w1 ⟨rfl, rfl⟩) | fail)
  refine region_ext w (by kernel_rfl) (by kernel_rfl) (Ext.refl _) ?_
  iterate 8
    refine wpQuiet_step (fun K hK => ?_)
    go_simp
    refine ⟨_, fun _ _ => rfl, hK _ ?_⟩
    clear hK K
  refine wpQuiet_step (fun K hK => ?_)
  go_simp
  refine ⟨_, fun _ hx => quiet_e hx (power_any n c q _ (by omega) hn hc.1 (by omega) hq.1 (by omega)), hK _ ?_⟩
  clear hK K
  refine wpQuiet_step (fun K hK => ?_)
  go_simp
  refine ⟨_, fun _ _ => rfl, hK _ ?_⟩
  clear hK K
  refine wpQuiet_nil ?_
  intro w2 hw2
  rw [EX.out]
  by_cases hx1 : x = 1
  · obtain rfl : R = true := by rw [← ER.out]; simp [hx1]
    have bx : (x == 1) = true := by simpa using hx1
    clear hx1
    go_wp2_with fail
    go_ret
    exact ⟨rfl, (by repeat (first | exact Ext.refl _ | assumption | refine Ext.drew ?_ | refine Ext.drewN ?_ _ | refine Ext.alloc ?_ _ | refine Ext.trans ?_ (by assumption)))⟩
  · have e := ER.out
    rw [decide_eq_false hx1, Bool.false_or] at e
    have bx : (x == 1) = false := by simpa using hx1
    have E := hid e
    clear e ER hx1
    go_wp2_with fail
    go_loopw [22, 6] (fun i m wr => ∃ (j : Nat) (y : Int), i = .int .i64 j ∧ m = .int .u64 y ∧ j ≤ t ∧ 0 ≤ y ∧ y ≤ 18446744073709551615 ∧ stLoop n (t - j) y = R ∧ Ext w wr) (fun i _ _ => t - (intOf i).toNat)
    case atStart => exact ⟨0, x, rfl, rfl, by omega, hx.1, by omega, E.out, (by repeat (first | exact Ext.refl _ | assumption | refine Ext.drew ?_ | refine Ext.drewN ?_ _ | refine Ext.alloc ?_ _ | refine Ext.trans ?_ (by assumption)))⟩
    case round =>
      obtain ⟨j, y, rfl, rfl, hj, hy0, hy1, hS, hw⟩ := hrel
      have HS := hid hS; clear hS
      by_cases hlt : j < t
      · have hs := HS.out
        rw [show t - j = (t - (j + 1)) + 1 by omega, stLoop] at hs
        by_cases hy : y = n - 1
        · rw [if_pos hy] at hs
          subst hs
          have by1 : (y == n - 1) = true := by simpa using hy
          clear hy HS E
          go_wp2_with fail
          go_ret
          exact ⟨rfl, (by repeat (first | exact Ext.refl _ | assumption | refine Ext.drew ?_ | refine Ext.drewN ?_ _ | refine Ext.alloc ?_ _ | refine Ext.trans ?_ (by assumption)))⟩
        · rw [if_neg hy] at hs
          have HS2 := hid hs
          have by1 : (y == n - 1) = false := by simpa using hy
          clear hy hs HS
          have hp2 := powv_range n y 2
          go_wp2_with fail
          refine (power_any n y 2 _ (by omega) hn hy0 hy1 (by omega) (by omega)).mono ?_; rintro _ w3 ⟨rfl, x3⟩
          go_wp2_with fail
          go_roundw
          case rel => exact ⟨j + 1, _, by go_num, rfl, by omega, hp2.1, by omega, HS2.out, (by repeat (first | exact Ext.refl _ | assumption | refine Ext.drew ?_ | refine Ext.drewN ?_ _ | refine Ext.alloc ?_ _ | refine Ext.trans ?_ (by assumption)))⟩
          case measure => simp [intOf]; omega
      · have hs := HS.out
        rw [show t - j = 0 by omega, stLoop] at hs
        subst hs
        clear HS E
        go_wp2_with fail
        go_ret
        exact ⟨rfl, (by repeat (first | exact Ext.refl _ | assumption | refine Ext.drew ?_ | refine Ext.drewN ?_ _ | refine Ext.alloc ?_ _ | refine Ext.trans ?_ (by assumption)))⟩
def primeL (n : Int) : List Int → Bool
  | [] => true
  | b :: bs => if n % b = 0 then decide (n = b) else if standsB n b then primeL n bs else false
def bases : List Int := [2, 3, 5, 7, 11, 13, 17, 19, 23, 29, 31, 37]
def primeB (n : Int) : Bool := primeL n bases
theorem primeL_drop {n : Int} {k : Nat} (hk : k < bases.length) : primeL n (bases.drop k) = if n % bases.getD k 0 = 0 then decide (n = bases.getD k 0) else if standsB n (bases.getD k 0) then primeL n (bases.drop (k + 1)) else false := by
  rw [List.drop_eq_getElem_cons hk, primeL]; simp [List.getD, List.getElem?_eq_getElem hk]
theorem bases_pos {k : Nat} (hk : k < 12) : 2 ≤ bases.getD k 0 ∧ bases.getD k 0 ≤ 37 := by
  have : ∀ k, k < 12 → 2 ≤ bases.getD k 0 ∧ bases.getD k 0 ≤ 37 := by decide
  exact this k hk
theorem bases_at (k : Nat) (hk : k < 12) (w : World) : Sem.run Tryz.prog (Instr.index 128 (Value.agg #[.int .u64 2, .int .u64 3, .int .u64 5, .int .u64 7, .int .u64 11, .int .u64 13, .int .u64 17, .int .u64 19, .int .u64 23, .int .u64 29, .int .u64 31, .int .u64 37]) (.int .i64 (k : Int))) w =
    .ok (.int .u64 (bases.getD k 0)) w := by
  rcases (by omega : k = 0 ∨ k = 1 ∨ k = 2 ∨ k = 3 ∨ k = 4 ∨ k = 5 ∨ k = 6 ∨ k = 7 ∨ k = 8 ∨ k = 9 ∨ k = 10 ∨ k = 11) with rfl | rfl | rfl | rfl | rfl | rfl | rfl | rfl | rfl | rfl | rfl | rfl
  all_goals kernel_rfl
set_option maxRecDepth 100000 in
set_option maxHeartbeats 1000000 in
theorem isPrime_any (n : Int) (w : World) (hn0 : 2 ≤ n) (hn : n ≤ 18446744073709551615) (hT : Tab w) :
    Calls Tryz.prog 73 #[.int .u64 n] w (Ret (.bool (primeB n)) w) := by
  obtain ⟨R, eR⟩ : ∃ R, primeB n = R := ⟨_, rfl⟩
  rw [eR]
  have ER := hid eR; have HT := hid hT
  clear eR hT
  go_enter Tryz.func73, Tryz.ntmps73
  go_wp2_with fail
  go_loopw [6] (fun i wr => ∃ k : Nat, i = .int .i64 k ∧ k ≤ 12 ∧ primeL n (bases.drop k) = R ∧ Ext w wr) (fun i _ => 12 - (intOf i).toNat)
  case atStart => exact ⟨0, rfl, by omega, ER.out, (by repeat (first | exact Ext.refl _ | assumption | refine Ext.drew ?_ | refine Ext.drewN ?_ _ | refine Ext.alloc ?_ _ | refine Ext.trans ?_ (by assumption)))⟩
  case round =>
    obtain ⟨k, rfl, hk, hR, hw⟩ := hrel
    have HR := hid hR; clear hR
    by_cases hlt : k < 12
    · have hat := bases_at k hlt wr
      have hp := bases_pos hlt
      have hd := primeL_drop (n := n) (k := k) (by simpa [bases] using hlt)
      rw [HR.out] at hd
      generalize bases.getD k 0 = b at *
      by_cases hz : n % b = 0
      · rw [if_pos hz] at hd
        subst hd
        have bz : (n % b == 0) = true := by simpa using hz
        have hm : n.tmod b = n % b := Int.tmod_eq_emod_of_nonneg (by omega)
        clear hz ER HR
        go_wp2_with fail
        go_ret
        exact ⟨ret_bool (by rw [Bool.eq_iff_iff]; simp), (by repeat (first | exact Ext.refl _ | assumption | refine Ext.drew ?_ | refine Ext.drewN ?_ _ | refine Ext.alloc ?_ _ | refine Ext.trans ?_ (by assumption)))⟩
      · rw [if_neg hz] at hd
        have bz : (n % b == 0) = false := by simpa using hz
        obtain ⟨x, ex⟩ : ∃ x, standsB n b = x := ⟨_, rfl⟩
        rw [ex] at hd
        have EX := hid ex
        clear hz ex
        cases x with
        | false =>
          have hd2 : R = false := by simpa using hd
          subst hd2
          clear hd ER HR
          go_wp2_with fail
          refine (stands_any n b _ hn0 hn (by omega) (HT.out.ext (by repeat (first | exact Ext.refl _ | assumption | refine Ext.drew ?_ | refine Ext.drewN ?_ _ | refine Ext.alloc ?_ _ | refine Ext.trans ?_ (by assumption))))).mono ?_; rintro _ w2 ⟨rfl, x2⟩
          rw [EX.out]
          go_wp2_with fail
          go_ret
          exact ⟨rfl, (by repeat (first | exact Ext.refl _ | assumption | refine Ext.drew ?_ | refine Ext.drewN ?_ _ | refine Ext.alloc ?_ _ | refine Ext.trans ?_ (by assumption)))⟩
        | true =>
          have hd2 : R = primeL n (bases.drop (k + 1)) := by simpa using hd
          have HD := hid hd2
          clear hd hd2
          go_wp2_with fail
          refine (stands_any n b _ hn0 hn (by omega) (HT.out.ext (by repeat (first | exact Ext.refl _ | assumption | refine Ext.drew ?_ | refine Ext.drewN ?_ _ | refine Ext.alloc ?_ _ | refine Ext.trans ?_ (by assumption))))).mono ?_; rintro _ w2 ⟨rfl, x2⟩
          rw [EX.out]
          go_wp2_with fail
          go_roundw
          case rel => exact ⟨k + 1, by go_num, by omega, HD.out.symm, (by repeat (first | exact Ext.refl _ | assumption | refine Ext.drew ?_ | refine Ext.drewN ?_ _ | refine Ext.alloc ?_ _ | refine Ext.trans ?_ (by assumption)))⟩
          case measure => simp [intOf]; omega
    · have h := HR.out
      rw [List.drop_eq_nil_of_le (by simp [bases]; omega), primeL] at h
      subst h
      clear HR ER
      go_wp2_with fail
      go_ret
      exact ⟨rfl, (by repeat (first | exact Ext.refl _ | assumption | refine Ext.drew ?_ | refine Ext.drewN ?_ _ | refine Ext.alloc ?_ _ | refine Ext.trans ?_ (by assumption)))⟩
end Go.Proofs.YthomeenmcajmdaaGreatDoor
