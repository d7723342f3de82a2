/- What the document's own Parts and Same answer. -/
import Derived.Test.YtncidpckokclbaaDoorParts
import Derived.Test.YtncidpckokclbaaDoorProof
namespace Go.Proofs.YtncidpckokclbaaDoor
open Go.RowKit Go.Maps

theorem partsF_one (f : Nat) (d : Int) (hd : 2 ≤ d) : partsF f d 1 = ([], 1) := by
  cases f with
  | zero => rfl
  | succ f =>
    have : 2 * 2 ≤ d * d := Int.mul_le_mul hd hd (by omega) (by omega)
    rw [partsF, if_neg (by omega)]

set_option maxRecDepth 100000 in
set_option maxHeartbeats 4000000 in
theorem rParts_any (n0 : Int) (w : World) (h0 : 0 ≤ n0) (h1 : n0 ≤ 18446744073709551615) :
    Calls Tryd.prog 17 #[.int .u64 n0] w fun e w' => ∃ v, e = .returned (.tuple #[v, .int .i64 (partsD n0).2]) ∧ w'.ownsRow w.heap.size 37 2 v (partsD n0).1.length (flatP (partsD n0).1) ∧ Ext w w' := by
  obtain ⟨i0, hi, hz0, hz1, hz2⟩ := info_parts info_part
  by_cases hz : n0 = 0
  · have e : partsD n0 = ([], 1) := by simp [partsD, hz]
    rw [e]
    clear e
    subst hz
    go_enter Tryd.func17, Tryd.ntmps17
    go_wp2_with fail
    go_ret2
    exact ⟨_, rfl, World.ownsRow_nil _ _ _ _, (by repeat (first | exact Ext.refl _ | assumption | refine Ext.drew ?_ | refine Ext.drewN ?_ _ | refine Ext.alloc ?_ _ | refine Ext.trans ?_ (by assumption)))⟩
  by_cases hb : 9223372036854775808 ≤ n0
  · have e : partsD n0 = ([], 1) := by simp [partsD, hb]
    rw [e]
    clear e
    have b0 : (n0 == 0) = false := by simpa using hz
    go_enter Tryd.func17, Tryd.ntmps17
    go_wp2_with fail
    go_ret2
    exact ⟨_, rfl, World.ownsRow_nil _ _ _ _, (by repeat (first | exact Ext.refl _ | assumption | refine Ext.drew ?_ | refine Ext.drewN ?_ _ | refine Ext.alloc ?_ _ | refine Ext.trans ?_ (by assumption)))⟩
  have b0 : (n0 == 0) = false := by simpa using hz
  obtain ⟨R, eR⟩ : ∃ R, partsF 65535 2 n0 = R := ⟨_, rfl⟩
  have eD : partsD n0 = if 4294967296 ≤ R.2 then ([], 3) else if 1 < R.2 then (R.1 ++ [(R.2, 1)], 0) else (R.1, 0) := by
    rw [← eR, partsD, if_neg (by omega)]
  rw [eD]
  obtain ⟨⟨fs, fe⟩, eX⟩ : ∃ x, (if 4294967296 ≤ R.2 then (([], 3) : List (Int × Int) × Int) else if 1 < R.2 then (R.1 ++ [(R.2, 1)], 0) else (R.1, 0)) = x := ⟨_, rfl⟩
  rw [eX]
  have EX := hid eX
  clear eX
  simp only
  obtain ⟨rs, rest⟩ := R
  have ER := hid eR
  clear eR eD
  have hone : ∀ acc : List (Int × Int), acc = rs → rest = 1 → acc = fs ∧ fe = 0 := fun acc h h' => by
    have hX := EX.out
    simp only at hX
    subst h; subst h'
    rw [if_neg (by omega), if_neg (by omega)] at hX
    simp only [Prod.mk.injEq] at hX
    exact ⟨hX.1, hX.2.symm⟩
  have hjump : ∀ acc : List (Int × Int), acc = rs → rest < 4294967296 → 1 < rest → acc ++ [(rest, 1)] = fs ∧ fe = 0 := fun acc h h' h'' => by
    have hX := EX.out
    simp only at hX
    subst h
    rw [if_neg (by omega), if_pos h''] at hX
    simp only [Prod.mk.injEq] at hX
    exact ⟨hX.1, hX.2.symm⟩
  have H1 := hid hone; have HJ := hid hjump
  clear hone hjump
  go_enter Tryd.func17, Tryd.ntmps17
  go_wp2_with fail
  go_loopw [5, 0, 4] (fun i m v wr => ∃ (d n : Int) (acc : List (Int × Int)), i = .int .u64 d ∧ m = .int .u64 n ∧ 2 ≤ d ∧ d ≤ 4294967296 ∧ 1 ≤ n ∧ n ≤ n0 ∧ acc.length ≤ 65540 ∧
    ((n = 1 ∧ acc = fs ∧ fe = 0) ∨ (1 < n ∧ d ≤ 65537 ∧ (acc.length : Int) + 2 ≤ d ∧ acc ++ (partsF (65537 - d).toNat d n).1 = rs ∧ (partsF (65537 - d).toNat d n).2 = rest)) ∧
    wr.ownsRow w.heap.size 37 2 v acc.length (flatP acc) ∧ Ext w wr) (fun i m _ _ => if intOf m = 1 then 0 else (65538 - intOf i).toNat)
  case atStart =>
    refine ⟨2, n0, [], rfl, rfl, by omega, by omega, by omega, by omega, by simp, ?_, World.ownsRow_nil _ _ _ _, (by repeat (first | exact Ext.refl _ | assumption | refine Ext.drew ?_ | refine Ext.drewN ?_ _ | refine Ext.alloc ?_ _ | refine Ext.trans ?_ (by assumption)))⟩
    have he : partsF (65537 - 2 : Int).toNat 2 n0 = (rs, rest) := ER.out
    by_cases hn : n0 = 1
    · subst hn
      rw [partsF_one _ 2 (by omega)] at he
      simp only [Prod.mk.injEq] at he
      exact .inl ⟨rfl, H1.out [] he.1 he.2.symm⟩
    · exact .inr ⟨by omega, by omega, by simp, by rw [he]; rfl, by rw [he]⟩
  case round =>
    obtain ⟨d, n, acc, rfl, rfl, hd, hd2, hn, hn2, hal, hcase, hown, hw⟩ := hrel
    have hout := hown.lt
    rcases hcase with ⟨rfl, rfl, rfl⟩ | ⟨hn1, hd3, hacc, hF1, hF2⟩
    · clear EX H1 HJ ER
      by_cases hd4 : d ≤ 65536
      · go_wp2_with fail
        go_ret2
        exact ⟨_, rfl, hown, (by repeat (first | exact Ext.refl _ | assumption | refine Ext.drew ?_ | refine Ext.drewN ?_ _ | refine Ext.alloc ?_ _ | refine Ext.trans ?_ (by assumption)))⟩
      · go_wp2_with fail
        go_ret2
        exact ⟨_, rfl, hown, (by repeat (first | exact Ext.refl _ | assumption | refine Ext.drew ?_ | refine Ext.drewN ?_ _ | refine Ext.alloc ?_ _ | refine Ext.trans ?_ (by assumption)))⟩
    · by_cases hd4 : d ≤ 65536
      · have hs0 : 0 ≤ d * d := Int.mul_nonneg (by omega) (by omega)
        have hs1 : d * d ≤ 4294967296 := by
          have := Int.mul_le_mul hd4 hd4 (by omega) (by omega)
          simpa using this
        have ef : (65537 - d).toNat = (65537 - (d + 1)).toNat + 1 := by omega
        by_cases hj : n < 4294967296 ∧ n < d * d
        · -- what is left is a prime: q jumps to it
          rw [ef, partsF, if_neg (by omega)] at hF1 hF2
          simp only [List.append_nil] at hF1 hF2
          have hfin := HJ.out acc hF1 (by omega) (by omega)
          rw [← hF2] at hfin
          have HFIN := hid hfin
          have hj1 := hj.1
          have bb : decide (d * d > n) = true := by simpa using hj.2
          have hnn : ¬ n = 0 := by omega
          have hnd : n / n = 1 := Int.ediv_self hnn
          have h1n : (1 : Int) % n = 1 := Int.emod_eq_of_lt (by omega) hn1
          have hnm : n % n = 0 := Int.emod_self
          clear hj hF1 hF2 ef hfin EX H1 HJ ER
          go_wp2_with fail
          go_loop [0, 6] (fun m i => (m = .int .u64 n ∧ i = .int .i64 0) ∨ (m = .int .u64 1 ∧ i = .int .i64 1)) (fun m _ => (intOf m).toNat)
          case atStart => exact .inl ⟨rfl, rfl⟩
          case round =>
            rcases hrel with ⟨rfl, rfl⟩ | ⟨rfl, rfl⟩
            · go_wp2_with fail
              go_round
              case rel => exact .inr ⟨rfl, rfl⟩
              case measure => simp [intOf]; omega
            · go_wp2_with (first | (at_builtin; refine wpList_append_own _ rfl _ _ 28 rfl w.heap.size 37 i0 (.agg #[.int .u64 0, .int .i64 0]) 2 16 Tryd.underlying28 hi hz0 hz1 hz2 rfl (by decide) _ _ _ rfl (hown.alloc _) ⟨wr.heap.size, 0, none⟩ 1 1 [.int .u64 n, .int .i64 1] rfl rfl (cells_new _ _ _ rfl) (by simp [Value.oneCell']) (by simp only [maxLen]; omega) (by omega) (by have := hw.size; simp; omega) ?_; intro v' w3 hown3 hgrow3 hnil3) | fail)
              go_roundw
              case rel => exact ⟨n + 1, 1, acc ++ [(n, 1)], rfl, rfl, by omega, by omega, by omega, by omega, by simp; omega, .inl ⟨rfl, HFIN.out.1, HFIN.out.2⟩, by rw [flatP_snoc]; simpa using hown3, (hw.alloc _).grown hgrow3 (fun k e => (hout k e).1)⟩
              case measure => simp [intOf, show ¬ n = 1 by omega]; omega
        · have hsq : d * d ≤ n := by omega
          rw [ef, partsF, if_pos hsq] at hF1 hF2
          simp only at hF1 hF2
          have bb : decide (d * d > n) = false := by simpa using hsq
          obtain ⟨T, eT⟩ : ∃ T, stripT d 64 n = T := ⟨_, rfl⟩
          obtain ⟨N, eN⟩ : ∃ N, stripN d 64 n = N := ⟨_, rfl⟩
          rw [eT, eN] at hF1
          rw [eN] at hF2
          have HF1 := hid hF1; have HF2 := hid hF2; have ET := hid eT; have EN := hid eN
          clear hF1 hF2 eT eN ef EX ER HJ
          by_cases hbig : n < 4294967296
          · go_wp2_with fail
            go_loop [0, 6] (fun m i => ∃ (n' : Int) (t : Nat), m = .int .u64 n' ∧ i = .int .i64 t ∧ 1 ≤ n' ∧ n' ≤ n ∧ t ≤ 64 ∧ n' * 2 ^ t ≤ n ∧ T = t + stripT d (64 - t) n' ∧ N = stripN d (64 - t) n') (fun m _ => (intOf m).toNat)
            case atStart => exact ⟨n, 0, rfl, rfl, by omega, by omega, by omega, by simp, by simp [ET.out], by simp [EN.out]⟩
            case round =>
              obtain ⟨n', t, rfl, rfl, hn3, hn4, ht, hp, hT, hN⟩ := hrel
              have HT := hid hT; have HN := hid hN; have HPw := hid hp
              clear hT hN hp
              by_cases hz : n' % d = 0
              · have ht2 := strip_bound (n := n') (t := t) (by have := HPw.out; omega) hn3
                have es : 64 - t = (64 - (t + 1)) + 1 := by omega
                have h5 := strip_half hd hn3 hz HPw.out
                have hT := HT.out; have hN := HN.out
                rw [es, (strip_step hz).1] at hT
                rw [es, (strip_step hz).2] at hN
                have HT2 := hid hT; have HN2 := hid hN; have H5 := hid h5.1
                have h6 := h5.2.1; have h7 := h5.2.2
                clear hT hN h5 es
                have bz : (n' % d == 0) = true := by simpa using hz
                go_wp2_with fail
                go_round
                case rel => exact ⟨n' / d, t + 1, rfl, by go_num, h6, by omega, by omega, H5.out, by rw [HT2.out]; omega, HN2.out⟩
                case measure => simp [intOf]; omega
              · have hT := HT.out; have hN := HN.out
                rw [(strip_zero _ hz).1, Int.add_zero] at hT
                rw [(strip_zero _ hz).2] at hN
                subst hT; subst hN
                have bz : (N % d == 0) = false := by simpa using hz
                have hF1 := HF1.out; have hF2 := HF2.out
                have hnx : ∀ acc' : List (Int × Int), acc' ++ (partsF (65537 - (d + 1)).toNat (d + 1) N).1 = rs → (acc'.length : Int) + 2 ≤ d + 1 →
                    ((N = 1 ∧ acc' = fs ∧ fe = 0) ∨ (1 < N ∧ d + 1 ≤ 65537 ∧ (acc'.length : Int) + 2 ≤ d + 1 ∧ acc' ++ (partsF (65537 - (d + 1)).toNat (d + 1) N).1 = rs ∧ (partsF (65537 - (d + 1)).toNat (d + 1) N).2 = rest)) := fun acc' h h' => by
                  by_cases e1 : N = 1
                  · left
                    have hF2 := HF2.out
                    rw [e1, partsF_one _ _ (by omega)] at h hF2
                    simp only [List.append_nil] at h
                    exact ⟨e1, H1.out acc' h hF2.symm⟩
                  · exact .inr ⟨by omega, by omega, h', h, HF2.out⟩
                have HNX := hid hnx
                clear HT HN hz HF1 HF2 hF2 hnx
                by_cases ht0 : t = 0
                · subst ht0
                  rw [if_neg (by simp)] at hF1
                  have HF3 := hid hF1; clear hF1
                  go_wp2_with fail
                  go_roundw
                  case rel => exact ⟨d + 1, N, acc, rfl, rfl, by omega, by omega, hn3, by omega, by omega, HNX.out acc HF3.out (by omega), hown, (by repeat (first | exact Ext.refl _ | assumption | refine Ext.drew ?_ | refine Ext.drewN ?_ _ | refine Ext.alloc ?_ _ | refine Ext.trans ?_ (by assumption)))⟩
                  case measure => by_cases e : N = 1 <;> simp [intOf, e, show ¬ n = 1 by omega] <;> omega
                · rw [if_pos (by omega)] at hF1
                  have HF3 := hid hF1; clear hF1
                  have bt : decide ((t : Int) > 0) = true := by simp; omega
                  go_wp2_with (first | (at_builtin; refine wpList_append_own _ rfl _ _ 28 rfl w.heap.size 37 i0 (.agg #[.int .u64 0, .int .i64 0]) 2 16 Tryd.underlying28 hi hz0 hz1 hz2 rfl (by decide) _ _ _ rfl (hown.alloc _) ⟨wr.heap.size, 0, none⟩ 1 1 [.int .u64 d, .int .i64 t] rfl rfl (cells_new _ _ _ rfl) (by simp [Value.oneCell']) (by simp only [maxLen]; omega) (by omega) (by have := hw.size; simp; omega) ?_; intro v' w3 hown3 hgrow3 hnil3) | fail)
                  go_roundw
                  case rel => exact ⟨d + 1, N, acc ++ [(d, (t : Int))], rfl, rfl, by omega, by omega, hn3, by omega, by simp; omega, HNX.out _ (by simpa using HF3.out) (by simp; omega), by rw [flatP_snoc]; simpa using hown3, (hw.alloc _).grown hgrow3 (fun k e => (hout k e).1)⟩
                  case measure => by_cases e : N = 1 <;> simp [intOf, e, show ¬ n = 1 by omega] <;> omega
          · go_wp2_with fail
            go_loop [0, 6] (fun m i => ∃ (n' : Int) (t : Nat), m = .int .u64 n' ∧ i = .int .i64 t ∧ 1 ≤ n' ∧ n' ≤ n ∧ t ≤ 64 ∧ n' * 2 ^ t ≤ n ∧ T = t + stripT d (64 - t) n' ∧ N = stripN d (64 - t) n') (fun m _ => (intOf m).toNat)
            case atStart => exact ⟨n, 0, rfl, rfl, by omega, by omega, by omega, by simp, by simp [ET.out], by simp [EN.out]⟩
            case round =>
              obtain ⟨n', t, rfl, rfl, hn3, hn4, ht, hp, hT, hN⟩ := hrel
              have HT := hid hT; have HN := hid hN; have HPw := hid hp
              clear hT hN hp
              by_cases hz : n' % d = 0
              · have ht2 := strip_bound (n := n') (t := t) (by have := HPw.out; omega) hn3
                have es : 64 - t = (64 - (t + 1)) + 1 := by omega
                have h5 := strip_half hd hn3 hz HPw.out
                have hT := HT.out; have hN := HN.out
                rw [es, (strip_step hz).1] at hT
                rw [es, (strip_step hz).2] at hN
                have HT2 := hid hT; have HN2 := hid hN; have H5 := hid h5.1
                have h6 := h5.2.1; have h7 := h5.2.2
                clear hT hN h5 es
                have bz : (n' % d == 0) = true := by simpa using hz
                go_wp2_with fail
                go_round
                case rel => exact ⟨n' / d, t + 1, rfl, by go_num, h6, by omega, by omega, H5.out, by rw [HT2.out]; omega, HN2.out⟩
                case measure => simp [intOf]; omega
              · have hT := HT.out; have hN := HN.out
                rw [(strip_zero _ hz).1, Int.add_zero] at hT
                rw [(strip_zero _ hz).2] at hN
                subst hT; subst hN
                have bz : (N % d == 0) = false := by simpa using hz
                have hF1 := HF1.out; have hF2 := HF2.out
                have hnx : ∀ acc' : List (Int × Int), acc' ++ (partsF (65537 - (d + 1)).toNat (d + 1) N).1 = rs → (acc'.length : Int) + 2 ≤ d + 1 →
                    ((N = 1 ∧ acc' = fs ∧ fe = 0) ∨ (1 < N ∧ d + 1 ≤ 65537 ∧ (acc'.length : Int) + 2 ≤ d + 1 ∧ acc' ++ (partsF (65537 - (d + 1)).toNat (d + 1) N).1 = rs ∧ (partsF (65537 - (d + 1)).toNat (d + 1) N).2 = rest)) := fun acc' h h' => by
                  by_cases e1 : N = 1
                  · left
                    have hF2 := HF2.out
                    rw [e1, partsF_one _ _ (by omega)] at h hF2
                    simp only [List.append_nil] at h
                    exact ⟨e1, H1.out acc' h hF2.symm⟩
                  · exact .inr ⟨by omega, by omega, h', h, HF2.out⟩
                have HNX := hid hnx
                clear HT HN hz HF1 HF2 hF2 hnx
                by_cases ht0 : t = 0
                · subst ht0
                  rw [if_neg (by simp)] at hF1
                  have HF3 := hid hF1; clear hF1
                  go_wp2_with fail
                  go_roundw
                  case rel => exact ⟨d + 1, N, acc, rfl, rfl, by omega, by omega, hn3, by omega, by omega, HNX.out acc HF3.out (by omega), hown, (by repeat (first | exact Ext.refl _ | assumption | refine Ext.drew ?_ | refine Ext.drewN ?_ _ | refine Ext.alloc ?_ _ | refine Ext.trans ?_ (by assumption)))⟩
                  case measure => by_cases e : N = 1 <;> simp [intOf, e, show ¬ n = 1 by omega] <;> omega
                · rw [if_pos (by omega)] at hF1
                  have HF3 := hid hF1; clear hF1
                  have bt : decide ((t : Int) > 0) = true := by simp; omega
                  go_wp2_with (first | (at_builtin; refine wpList_append_own _ rfl _ _ 28 rfl w.heap.size 37 i0 (.agg #[.int .u64 0, .int .i64 0]) 2 16 Tryd.underlying28 hi hz0 hz1 hz2 rfl (by decide) _ _ _ rfl (hown.alloc _) ⟨wr.heap.size, 0, none⟩ 1 1 [.int .u64 d, .int .i64 t] rfl rfl (cells_new _ _ _ rfl) (by simp [Value.oneCell']) (by simp only [maxLen]; omega) (by omega) (by have := hw.size; simp; omega) ?_; intro v' w3 hown3 hgrow3 hnil3) | fail)
                  go_roundw
                  case rel => exact ⟨d + 1, N, acc ++ [(d, (t : Int))], rfl, rfl, by omega, by omega, hn3, by omega, by simp; omega, HNX.out _ (by simpa using HF3.out) (by simp; omega), by rw [flatP_snoc]; simpa using hown3, (hw.alloc _).grown hgrow3 (fun k e => (hout k e).1)⟩
                  case measure => by_cases e : N = 1 <;> simp [intOf, e, show ¬ n = 1 by omega] <;> omega
      · -- all divisors are tried
        have hd5 : (65537 - d).toNat = 0 := by omega
        rw [hd5, partsF] at hF1 hF2
        simp only [List.append_nil] at hF1 hF2
        subst hF1; subst hF2
        have hX := EX.out
        clear EX H1 HJ ER
        by_cases hl : 4294967296 ≤ n
        · rw [if_pos hl] at hX
          simp only [Prod.mk.injEq] at hX
          obtain ⟨rfl, rfl⟩ := hX
          go_wp2_with fail
          go_ret2
          exact ⟨_, rfl, World.ownsRow_nil _ _ _ _, (by repeat (first | exact Ext.refl _ | assumption | refine Ext.drew ?_ | refine Ext.drewN ?_ _ | refine Ext.alloc ?_ _ | refine Ext.trans ?_ (by assumption)))⟩
        · rw [if_neg hl, if_pos hn1] at hX
          simp only [Prod.mk.injEq] at hX
          obtain ⟨rfl, rfl⟩ := hX
          go_wp2_with (first | (at_builtin; refine wpList_append_own _ rfl _ _ 28 rfl w.heap.size 37 i0 (.agg #[.int .u64 0, .int .i64 0]) 2 16 Tryd.underlying28 hi hz0 hz1 hz2 rfl (by decide) _ _ _ rfl (hown.alloc _) ⟨wr.heap.size, 0, none⟩ 1 1 [.int .u64 n, .int .i64 1] rfl rfl (cells_new _ _ _ rfl) (by simp [Value.oneCell']) (by simp only [maxLen]; omega) (by omega) (by have := hw.size; simp; omega) ?_; intro v' w3 hown3 hgrow3 hnil3) | fail)
          go_ret2
          exact ⟨_, rfl, by rw [flatP_snoc]; simpa using hown3, (hw.alloc _).grown hgrow3 (fun k e => (hout k e).1)⟩

set_option maxHeartbeats 1000000 in
theorem Same_eq (v u : Value) (ps : List (Int × Int)) (w : World) (hv : Parts w v ps) (hu : Parts w u ps) :
    Calls Tryd.prog 18 #[v, u] w (Ret (.bool true) w) := by
  obtain ⟨a, cap, rfl, hc1, hc2, hc⟩ := hv
  obtain ⟨a', cap', rfl, hd1, hd2, hd⟩ := hu
  have Hc := hid hc; have Hd := hid hd
  clear hc hd
  go_enter Tryd.func18, Tryd.ntmps18
  go_wp2_with fail
  go_loopw [5] (fun i wr => ∃ k : Nat, i = .int .i64 k ∧ k ≤ ps.length ∧ Ext w wr) (fun i _ => ps.length - (intOf i).toNat)
  case atStart => exact ⟨0, rfl, by omega, (by repeat (first | exact Ext.refl _ | assumption | refine Ext.drew ?_ | refine Ext.drewN ?_ _ | refine Ext.alloc ?_ _ | refine Ext.trans ?_ (by assumption)))⟩
  case round =>
    obtain ⟨k, rfl, hk, hw⟩ := hrel
    by_cases hlt : k < ps.length
    · obtain ⟨b, off, rfl, hb, hcell⟩ := Hc.out (by omega)
      obtain ⟨b', off', rfl, hb', hcell'⟩ := Hd.out (by omega)
      have g1 := (hw.cells _ _ hb).trans (hcell k hlt).1
      have g2 := (hw.cells _ _ hb).trans (hcell k hlt).2
      have g3 := (hw.cells _ _ hb').trans (hcell' k hlt).1
      have g4 := (hw.cells _ _ hb').trans (hcell' k hlt).2
      clear hcell hcell'
      generalize ps.getD k (0, 0) = q at *
      obtain ⟨q1, q2⟩ := q
      simp only at g1 g2 g3 g4
      go_wp2_with fail
      go_quiet (fail)
      go_wp2_with fail
      go_roundw
      case rel => exact ⟨k + 1, by go_num, by omega, (by repeat (first | exact Ext.refl _ | assumption | refine Ext.drew ?_ | refine Ext.drewN ?_ _ | refine Ext.alloc ?_ _ | refine Ext.trans ?_ (by assumption)))⟩
      case measure => simp [intOf]; omega
    · go_wp2_with fail
      go_ret
      exact ⟨rfl, (by repeat (first | exact Ext.refl _ | assumption | refine Ext.drew ?_ | refine Ext.drewN ?_ _ | refine Ext.alloc ?_ _ | refine Ext.trans ?_ (by assumption)))⟩
end Go.Proofs.YtncidpckokclbaaDoor
