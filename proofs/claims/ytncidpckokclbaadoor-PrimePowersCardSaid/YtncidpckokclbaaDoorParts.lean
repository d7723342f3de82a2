/- What prime.Parts and Small answer, and the document's own. -/
import Derived.Test.YtncidpckokclbaaDoorField
import Derived.Test.YtncidpckokclbaaDoorPKit
import Derived.Maps.AppendAt
namespace Go.Proofs.YtncidpckokclbaaDoor
open Go.RowKit Go.Maps

/-- how often d divides n (no more than f times), and what is left -/
def stripT (d : Int) : Nat → Int → Int
  | 0, _ => 0
  | f + 1, n => if n % d = 0 then stripT d f (n / d) + 1 else 0
def stripN (d : Int) : Nat → Int → Int
  | 0, n => n
  | f + 1, n => if n % d = 0 then stripN d f (n / d) else n
/-- the parts from d on, and what is left -/
def partsF : Nat → Int → Int → List (Int × Int) × Int
  | 0, _, n => ([], n)
  | f + 1, d, n => if d * d ≤ n then
      (if 0 < stripT d 64 n then (d, stripT d 64 n) :: (partsF f (d + 1) (stripN d 64 n)).1 else (partsF f (d + 1) (stripN d 64 n)).1, (partsF f (d + 1) (stripN d 64 n)).2)
    else ([], n)
/-- the parts of a number, and the error -/
def partsD (n : Int) : List (Int × Int) × Int :=
  if n ≤ 0 ∨ 9223372036854775808 ≤ n then ([], 1) else
    let r := partsF 65535 2 n
    if 4294967296 ≤ r.2 then ([], 3) else if 1 < r.2 then (r.1 ++ [(r.2, 1)], 0) else (r.1, 0)

theorem info_part : (Tryd.prog.info? 37).map (fun i => (i.zero, i.size, i.bytes)) = some (some (.agg #[.int .u64 0, .int .i64 0]), 2, 16) := by kernel_rfl

theorem strip_bound {n : Int} {t : Nat} (h : n * 2 ^ t < 18446744073709551616) (hn : 1 ≤ n) : t < 64 := by
  rcases Nat.lt_or_ge t 64 with h1 | h1
  · exact h1
  · exfalso
    have e : (2 : Int) ^ t = 2 ^ 64 * 2 ^ (t - 64) := by rw [← Int.pow_add]; congr 1; omega
    have h2 : (1 : Int) ≤ 2 ^ (t - 64) := by
      have := Int.pow_pos (n := 2) (m := t - 64) (by omega)
      omega
    have h3 : (2 : Int) ^ 64 ≤ 2 ^ t := by rw [e]; omega
    have h4 := Int.mul_le_mul hn h3 (by decide) (by omega)
    have : (2 : Int) ^ 64 = 18446744073709551616 := by decide
    omega

theorem strip_zero {d n : Int} (f : Nat) (h : n % d ≠ 0) : stripT d f n = 0 ∧ stripN d f n = n := by
  cases f with
  | zero => exact ⟨rfl, rfl⟩
  | succ f => simp only [stripT, stripN, if_neg h]; exact ⟨trivial, trivial⟩
theorem strip_step {d n : Int} {f : Nat} (h : n % d = 0) : stripT d (f + 1) n = stripT d f (n / d) + 1 ∧ stripN d (f + 1) n = stripN d f (n / d) := by
  simp only [stripT, stripN, if_pos h]; exact ⟨trivial, trivial⟩
theorem strip_half {d n m : Int} {t : Nat} (hd : 2 ≤ d) (hn : 1 ≤ n) (hz : n % d = 0) (h : n * 2 ^ t ≤ m) : n / d * 2 ^ (t + 1) ≤ m ∧ 1 ≤ n / d ∧ n / d < n := by
  have e := Int.mul_ediv_cancel' (Int.dvd_of_emod_eq_zero hz)
  have hp : (0 : Int) < 2 ^ t := Int.pow_pos (by omega)
  generalize n / d = q at *
  have hq : 1 ≤ q := by
    rcases Int.lt_or_le q 1 with h1 | h1
    · have := Int.mul_nonpos_of_nonneg_of_nonpos (show 0 ≤ d by omega) (show q ≤ 0 by omega)
      omega
    · exact h1
  have h2 : 2 * q ≤ n := by rw [← e]; exact Int.mul_le_mul_of_nonneg_right hd (by omega)
  refine ⟨?_, hq, by omega⟩
  have h3 := Int.mul_le_mul_of_nonneg_right h2 (show 0 ≤ (2 : Int) ^ t by omega)
  have e3 : q * 2 ^ (t + 1) = 2 * q * 2 ^ t := by rw [Int.pow_succ, Int.mul_comm ((2:Int)^t) 2, ← Int.mul_assoc, Int.mul_comm q 2]
  omega

set_option maxRecDepth 100000 in
set_option maxHeartbeats 2000000 in
theorem Parts_any (n0 : Int) (w : World) (h0 : 0 ≤ n0) (h1 : n0 ≤ 18446744073709551615) :
    Calls Tryd.prog 16 #[.int .u64 n0] w fun e w' => ∃ v, e = .returned (.tuple #[v, .int .i64 (partsD n0).2]) ∧ w'.ownsRow w.heap.size 37 2 v (partsD n0).1.length (flatP (partsD n0).1) ∧ Ext w w' := by
  obtain ⟨i0, hi, hz0, hz1, hz2⟩ := info_parts info_part
  by_cases hz : n0 = 0
  · have e : partsD n0 = ([], 1) := by simp [partsD, hz]
    rw [e]
    clear e
    subst hz
    go_enter Tryd.func16, Tryd.ntmps16
    go_wp2_with fail
    go_ret2
    exact ⟨_, rfl, World.ownsRow_nil _ _ _ _, (by repeat (first | exact Ext.refl _ | assumption | refine Ext.drew ?_ | refine Ext.drewN ?_ _ | refine Ext.alloc ?_ _ | refine Ext.trans ?_ (by assumption)))⟩
  by_cases hb : 9223372036854775808 ≤ n0
  · have e : partsD n0 = ([], 1) := by simp [partsD, hb]
    rw [e]
    clear e
    have b0 : (n0 == 0) = false := by simpa using hz
    go_enter Tryd.func16, Tryd.ntmps16
    go_wp2_with fail
    go_ret2
    exact ⟨_, rfl, World.ownsRow_nil _ _ _ _, (by repeat (first | exact Ext.refl _ | assumption | refine Ext.drew ?_ | refine Ext.drewN ?_ _ | refine Ext.alloc ?_ _ | refine Ext.trans ?_ (by assumption)))⟩
  have b0 : (n0 == 0) = false := by simpa using hz
  obtain ⟨R, eR⟩ : ∃ R, partsF 65535 2 n0 = R := ⟨_, rfl⟩
  have eD : partsD n0 = if 4294967296 ≤ R.2 then ([], 3) else if 1 < R.2 then (R.1 ++ [(R.2, 1)], 0) else (R.1, 0) := by
    rw [← eR, partsD, if_neg (by omega)]
  rw [eD]
  obtain ⟨⟨fs, fe⟩, eX⟩ : ∃ x, (if 4294967296 ≤ R.2 then (([], 3) : List (Int × Int) × Int) else if 1 < R.2 then (R.1 ++ [(R.2, 1)], 0) else (R.1, 0)) = x := ⟨_, rfl⟩
  rw [eX]
  have EX := hid eX
  clear eX
  simp only
  obtain ⟨rs, rest⟩ := R
  have ER := hid eR
  clear eR eD
  go_enter Tryd.func16, Tryd.ntmps16
  go_wp2_with fail
  go_loopw [5, 0, 4] (fun i m v wr => ∃ (d n : Int) (acc : List (Int × Int)), i = .int .u64 d ∧ m = .int .u64 n ∧ 2 ≤ d ∧ d ≤ 65537 ∧ 1 ≤ n ∧ n ≤ n0 ∧ (acc.length : Int) + 2 ≤ d ∧
    (acc ++ (partsF (65537 - d).toNat d n).1 = rs ∧ (partsF (65537 - d).toNat d n).2 = rest) ∧ wr.ownsRow w.heap.size 37 2 v acc.length (flatP acc) ∧ Ext w wr) (fun i _ _ _ => 65538 - (intOf i).toNat)
  case atStart => exact ⟨2, n0, [], rfl, rfl, by omega, by omega, by omega, by omega, by simp, by rw [show (65537 - 2 : Int).toNat = 65535 by rfl, ER.out]; exact ⟨rfl, rfl⟩, World.ownsRow_nil _ _ _ _, (by repeat (first | exact Ext.refl _ | assumption | refine Ext.drew ?_ | refine Ext.drewN ?_ _ | refine Ext.alloc ?_ _ | refine Ext.trans ?_ (by assumption)))⟩
  case round =>
    obtain ⟨d, n, acc, rfl, rfl, hd, hd2, hn, hn2, hacc, hF, hown, hw⟩ := hrel
    have HF := hid hF; clear hF
    by_cases hgo : d ≤ 65536 ∧ d * d ≤ n
    · have ef : (65537 - d).toNat = (65537 - (d + 1)).toNat + 1 := by omega
      have hF := HF.out
      rw [ef, partsF, if_pos hgo.2] at hF
      simp only at hF
      obtain ⟨T, eT⟩ : ∃ T, stripT d 64 n = T := ⟨_, rfl⟩
      obtain ⟨N, eN⟩ : ∃ N, stripN d 64 n = N := ⟨_, rfl⟩
      rw [eT, eN] at hF
      have HF2 := hid hF
      have ET := hid eT; have EN := hid eN
      clear hF eT eN ef HF
      have hsq := hgo.2
      have hd3 := hgo.1
      have hs0 : 0 ≤ d * d := Int.mul_nonneg (by omega) (by omega)
      have bb : decide (d * d ≤ n) = true := by simpa using hsq
      clear hgo
      go_wp2_with fail
      go_loop [0, 6] (fun m i => ∃ (n' : Int) (t : Nat), m = .int .u64 n' ∧ i = .int .i64 t ∧ 1 ≤ n' ∧ n' ≤ n ∧ t ≤ 64 ∧ n' * 2 ^ t ≤ n ∧ T = t + stripT d (64 - t) n' ∧ N = stripN d (64 - t) n') (fun m _ => (intOf m).toNat)
      case atStart => exact ⟨n, 0, rfl, rfl, by omega, by omega, by omega, by simp, by simp [ET.out], by simp [EN.out]⟩
      case round =>
        obtain ⟨n', t, rfl, rfl, hn3, hn4, ht, hp, hT, hN⟩ := hrel
        have HT := hid hT; have HN := hid hN; have HPw := hid hp
        clear hT hN hp
        by_cases hz : n' % d = 0
        · have ht2 := strip_bound (n := n') (t := t) (by have := HPw.out; omega) hn3
          have es : 64 - t = (64 - (t + 1)) + 1 := by omega
          have h5 := strip_half hd hn3 hz HPw.out
          have hT := HT.out; have hN := HN.out
          rw [es, (strip_step hz).1] at hT
          rw [es, (strip_step hz).2] at hN
          have HT2 := hid hT; have HN2 := hid hN; have H5 := hid h5.1
          have h6 := h5.2.1; have h7 := h5.2.2
          clear hT hN h5 es
          have bz : (n' % d == 0) = true := by simpa using hz
          go_wp2_with fail
          go_round
          case rel => exact ⟨n' / d, t + 1, rfl, by go_num, h6, by omega, by omega, H5.out, by rw [HT2.out]; omega, HN2.out⟩
          case measure => simp [intOf]; omega
        · have hT := HT.out; have hN := HN.out
          rw [(strip_zero _ hz).1, Int.add_zero] at hT
          rw [(strip_zero _ hz).2] at hN
          subst hT; subst hN
          have bz : (N % d == 0) = false := by simpa using hz
          have hF := HF2.out
          clear HT HN hz HF2
          by_cases ht0 : t = 0
          · subst ht0
            rw [if_neg (by simp)] at hF
            have HF3 := hid hF; clear hF
            go_wp2_with fail
            go_roundw
            case rel => exact ⟨d + 1, N, acc, rfl, rfl, by omega, by omega, hn3, by omega, by omega, HF3.out, hown, (by repeat (first | exact Ext.refl _ | assumption | refine Ext.drew ?_ | refine Ext.drewN ?_ _ | refine Ext.alloc ?_ _ | refine Ext.trans ?_ (by assumption)))⟩
            case measure => simp [intOf]; omega
          · rw [if_pos (by omega)] at hF
            have HF3 := hid hF; clear hF
            have bt : decide ((t : Int) > 0) = true := by simp; omega
            go_wp2_with (first | (at_builtin; refine wpList_append_own _ rfl _ _ 28 rfl w.heap.size 37 i0 (.agg #[.int .u64 0, .int .i64 0]) 2 16 Tryd.underlying28 hi hz0 hz1 hz2 rfl (by decide) _ _ _ rfl (hown.alloc _) ⟨wr.heap.size, 0, none⟩ 1 1 [.int .u64 d, .int .i64 t] rfl rfl (cells_new _ _ _ rfl) (by simp [Value.oneCell']) (by simp only [maxLen]; omega) (by omega) (by have := hw.size; simp; omega) ?_; intro v' w3 hown3 hgrow3 hnil3) | fail)
            go_roundw
            case rel => exact ⟨d + 1, N, acc ++ [(d, (t : Int))], rfl, rfl, by omega, by omega, hn3, by omega, by simp; omega, by simpa using HF3.out, by rw [flatP_snoc]; simpa using hown3, (hw.alloc _).grown hgrow3 (fun k e => (hown.lt k e).1)⟩
            case measure => simp [intOf]; omega
    · have hF := HF.out
      have e : partsF (65537 - d).toNat d n = ([], n) := by
        by_cases h : d ≤ 65536
        · rw [show (65537 - d).toNat = (65537 - (d + 1)).toNat + 1 by omega, partsF, if_neg (fun h2 => hgo ⟨h, h2⟩)]
        · rw [show (65537 - d).toNat = 0 by omega, partsF]
      rw [e] at hF
      simp only [List.append_nil] at hF
      obtain ⟨rfl, rfl⟩ := hF
      clear HF e
      have hout := hown.lt
      have hX := EX.out
      clear EX
      have hs0 : 0 ≤ d * d := Int.mul_nonneg (by omega) (by omega)
      have key : d ≤ 65536 → decide (d * d ≤ n) = false ∧ d * d ≤ 4294967296 := fun h => ⟨by simpa using fun h2 => hgo ⟨h, h2⟩, by
        have := Int.mul_le_mul h h (by omega) (by omega)
        simpa using this⟩
      by_cases hl : 4294967296 ≤ n
      · rw [if_pos hl] at hX
        simp only [Prod.mk.injEq] at hX
        obtain ⟨rfl, rfl⟩ := hX
        by_cases hbig : d ≤ 65536
        · obtain ⟨bb, hs1⟩ := key hbig
          clear key hgo
          go_wp2_with fail
          go_ret2
          exact ⟨_, rfl, World.ownsRow_nil _ _ _ _, (by repeat (first | exact Ext.refl _ | assumption | refine Ext.drew ?_ | refine Ext.drewN ?_ _ | refine Ext.alloc ?_ _ | refine Ext.trans ?_ (by assumption)))⟩
        · clear key hgo
          go_wp2_with fail
          go_ret2
          exact ⟨_, rfl, World.ownsRow_nil _ _ _ _, (by repeat (first | exact Ext.refl _ | assumption | refine Ext.drew ?_ | refine Ext.drewN ?_ _ | refine Ext.alloc ?_ _ | refine Ext.trans ?_ (by assumption)))⟩
      rw [if_neg hl] at hX
      by_cases h1 : 1 < n
      · rw [if_pos h1] at hX
        simp only [Prod.mk.injEq] at hX
        obtain ⟨rfl, rfl⟩ := hX
        by_cases hbig : d ≤ 65536
        · obtain ⟨bb, hs1⟩ := key hbig
          clear key hgo
          go_wp2_with (first | (at_builtin; refine wpList_append_own _ rfl _ _ 28 rfl w.heap.size 37 i0 (.agg #[.int .u64 0, .int .i64 0]) 2 16 Tryd.underlying28 hi hz0 hz1 hz2 rfl (by decide) _ _ _ rfl (hown.alloc _) ⟨wr.heap.size, 0, none⟩ 1 1 [.int .u64 n, .int .i64 1] rfl rfl (cells_new _ _ _ rfl) (by simp [Value.oneCell']) (by simp only [maxLen]; omega) (by omega) (by have := hw.size; simp; omega) ?_; intro v' w3 hown3 hgrow3 hnil3) | fail)
          go_ret2
          exact ⟨_, rfl, (by rw [flatP_snoc]; simpa using hown3), (hw.alloc _).grown hgrow3 (fun k e => (hout k e).1)⟩
        · clear key hgo
          go_wp2_with (first | (at_builtin; refine wpList_append_own _ rfl _ _ 28 rfl w.heap.size 37 i0 (.agg #[.int .u64 0, .int .i64 0]) 2 16 Tryd.underlying28 hi hz0 hz1 hz2 rfl (by decide) _ _ _ rfl (hown.alloc _) ⟨wr.heap.size, 0, none⟩ 1 1 [.int .u64 n, .int .i64 1] rfl rfl (cells_new _ _ _ rfl) (by simp [Value.oneCell']) (by simp only [maxLen]; omega) (by omega) (by have := hw.size; simp; omega) ?_; intro v' w3 hown3 hgrow3 hnil3) | fail)
          go_ret2
          exact ⟨_, rfl, (by rw [flatP_snoc]; simpa using hown3), (hw.alloc _).grown hgrow3 (fun k e => (hout k e).1)⟩
      · rw [if_neg h1] at hX
        simp only [Prod.mk.injEq] at hX
        obtain ⟨rfl, rfl⟩ := hX
        by_cases hbig : d ≤ 65536
        · obtain ⟨bb, hs1⟩ := key hbig
          clear key hgo
          go_wp2_with fail
          go_ret2
          exact ⟨_, rfl, hown, (by repeat (first | exact Ext.refl _ | assumption | refine Ext.drew ?_ | refine Ext.drewN ?_ _ | refine Ext.alloc ?_ _ | refine Ext.trans ?_ (by assumption)))⟩
        · clear key hgo
          go_wp2_with fail
          go_ret2
          exact ⟨_, rfl, hown, (by repeat (first | exact Ext.refl _ | assumption | refine Ext.drew ?_ | refine Ext.drewN ?_ _ | refine Ext.alloc ?_ _ | refine Ext.trans ?_ (by assumption)))⟩
end Go.Proofs.YtncidpckokclbaaDoor
