/- SeriesSums: whatever the number, the rows, the list and how many, the law answers true, and nothing that was there has turned. No condition. -/
import Derived.Test.YtbpbagejblbacaaAwake04
import Derived.Test.YtbpbagejblbacaaRuleN
import Derived.Deep.RegionHeld3
import Derived.Deep.DrawnRows
import Derived.Deep.DeepCutAuto
namespace Go.Proofs.Ytbpbagejblbacaa.seriesSums
open Go.ChangeShapes Go.WideShapes Go.ChangeAt Go.RowKit

set_option maxRecDepth 100000 in
set_option maxHeartbeats 1000000 in
theorem walk_skip (p cu : Int) (v u z : Value) (s t c : List Int) (w : World) (h0 : 0 ≤ p) (h1 : p ≤ 18446744073709551615) (hv : Ints .u64 w v s) (hu : Ints .u64 w u t) (hz : Ints .u64 w z c) (hs : U64s s) (ht : U64s t)
    (h : takenB p = false ∨ 40 < s.length ∨ 40 < c.length ∨ hasB p s = false ∨ hasB p t = false) :
    Calls Try.prog 7 #[.int .u64 p, v, u, z, .int .u8 cu] w (Ret (.bool true) w) := by
  have cP : ∀ W, Calls Try.prog 20 #[.int .u64 p] W fun e w' => e = .returned (.bool (takenB p)) ∧ W = w' := fun W => prime_any p W h0
  have cH : ∀ W, Ext w W → Calls Try.prog 22 #[.int .u64 p, v] W fun e w' => e = .returned (.bool (hasB p s)) ∧ W = w' := fun W hW => has_any p v s W h0 h1 (hv.ext hW) hs
  have cI : ∀ W, Ext w W → Calls Try.prog 22 #[.int .u64 p, u] W fun e w' => e = .returned (.bool (hasB p t)) ∧ W = w' := fun W hW => has_any p u t W h0 h1 (hu.ext hW) ht
  obtain ⟨T, hT⟩ : ∃ T, takenB p = T := ⟨_, rfl⟩
  obtain ⟨B, hB⟩ : ∃ B, hasB p s = B := ⟨_, rfl⟩
  obtain ⟨C, hC⟩ : ∃ C, hasB p t = C := ⟨_, rfl⟩
  rw [hT] at cP h; rw [hB] at cH h; rw [hC] at cI h
  have CP := hid cP; have CH := hid cH; have CI := hid cI
  clear cP cH cI hT hB hC hs ht
  obtain ⟨a, cap, rfl, k1, k2, k3⟩ := hv
  obtain ⟨a', cap', rfl, m1, m2, m3⟩ := hu
  obtain ⟨a'', cap'', rfl, n1, n2, n3⟩ := hz
  clear k3 m3 n3
  cases T with
  | false =>
    clear h
    go_enter Try.func7, Try.ntmps7
    go_wp2_with (first | (go_at_call 8; refine (awake04 w).mono ?_; rintro _ w1 ⟨rfl, x1⟩) | (go_at_call 20; refine (CP.out w1).mono ?_; rintro _ _ ⟨rfl, rfl⟩))
    go_ret
    exact ⟨rfl, (by repeat (first | exact Ext.refl _ | assumption | refine Ext.drew ?_ | refine Ext.drewN ?_ _ | refine Ext.alloc ?_ _ | refine Ext.trans ?_ (by assumption)))⟩
  | true =>
    by_cases g1 : 40 < s.length
    · clear h
      go_enter Try.func7, Try.ntmps7
      go_wp2_with (first | (go_at_call 8; refine (awake04 w).mono ?_; rintro _ w1 ⟨rfl, x1⟩) | (go_at_call 20; refine (CP.out w1).mono ?_; rintro _ _ ⟨rfl, rfl⟩))
      go_ret
      exact ⟨rfl, (by repeat (first | exact Ext.refl _ | assumption | refine Ext.drew ?_ | refine Ext.drewN ?_ _ | refine Ext.alloc ?_ _ | refine Ext.trans ?_ (by assumption)))⟩
    · by_cases g2 : 40 < c.length
      · clear h
        go_enter Try.func7, Try.ntmps7
        go_wp2_with (first | (go_at_call 8; refine (awake04 w).mono ?_; rintro _ w1 ⟨rfl, x1⟩) | (go_at_call 20; refine (CP.out w1).mono ?_; rintro _ _ ⟨rfl, rfl⟩))
        go_ret
        exact ⟨rfl, (by repeat (first | exact Ext.refl _ | assumption | refine Ext.drew ?_ | refine Ext.drewN ?_ _ | refine Ext.alloc ?_ _ | refine Ext.trans ?_ (by assumption)))⟩
      · cases B with
        | false =>
          clear h
          go_enter Try.func7, Try.ntmps7
          go_wp2_with (first | (go_at_call 8; refine (awake04 w).mono ?_; rintro _ w1 ⟨rfl, x1⟩) | (go_at_call 20; refine (CP.out w1).mono ?_; rintro _ _ ⟨rfl, rfl⟩) | (go_at_call_of 22 a; refine (CH.out w1 x1).mono ?_; rintro _ _ ⟨rfl, rfl⟩))
          go_ret
          exact ⟨rfl, (by repeat (first | exact Ext.refl _ | assumption | refine Ext.drew ?_ | refine Ext.drewN ?_ _ | refine Ext.alloc ?_ _ | refine Ext.trans ?_ (by assumption)))⟩
        | true =>
          obtain rfl : C = false := by
            rcases h with h | h | h | h | h <;> first | exact absurd h g2 | exact absurd h g1 | exact h | cases h
          clear h
          go_enter Try.func7, Try.ntmps7
          go_wp2_with (first | (go_at_call 8; refine (awake04 w).mono ?_; rintro _ w1 ⟨rfl, x1⟩) | (go_at_call 20; refine (CP.out w1).mono ?_; rintro _ _ ⟨rfl, rfl⟩) | (go_at_call_of 22 a; refine (CH.out w1 x1).mono ?_; rintro _ _ ⟨rfl, rfl⟩) | (go_at_call_of 22 a'; refine (CI.out w1 x1).mono ?_; rintro _ _ ⟨rfl, rfl⟩))
          go_ret
          exact ⟨rfl, (by repeat (first | exact Ext.refl _ | assumption | refine Ext.drew ?_ | refine Ext.drewN ?_ _ | refine Ext.alloc ?_ _ | refine Ext.trans ?_ (by assumption)))⟩

set_option maxRecDepth 100000 in
set_option maxHeartbeats 4000000 in
theorem walk_yes (p cu : Int) (v u z : Value) (s t c : List Int) (w : World) (hv : Ints .u64 w v s) (hu : Ints .u64 w u t) (hz : Ints .u64 w z c) (hs : Rng p s) (ht : Rng p t) (hc : U64s c) (hp : rightB p = true) (hT : takenB p = true)
    (g1 : ¬ 40 < s.length) (g2 : ¬ 40 < c.length) (hc0 : 0 ≤ cu) :
    Calls Try.prog 7 #[.int .u64 p, v, u, z, .int .u8 cu] w (Ret (.bool true) w) := by
  have hp2 := rightB_true hp
  obtain ⟨i0, hi, hz0, hz1, hz2⟩ := info_parts info_u64p
  have hF := taken_fld hT
  have cP : ∀ W, Calls Try.prog 20 #[.int .u64 p] W fun e w' => e = .returned (.bool true) ∧ W = w' := fun W => hT ▸ prime_any p W (by omega)
  have cH : ∀ W, Ext w W → Calls Try.prog 22 #[.int .u64 p, v] W fun e w' => e = .returned (.bool true) ∧ W = w' := fun W hW => has_yes p v s W (hv.ext hW) (hs.u64 hp2.2) (hs.has hp)
  have cI : ∀ W, Ext w W → Calls Try.prog 22 #[.int .u64 p, u] W fun e w' => e = .returned (.bool true) ∧ W = w' := fun W hW => has_yes p u t W (hu.ext hW) (ht.u64 hp2.2) (ht.has hp)
  have cS : ∀ W, Ext w W → Calls Try.prog 12 #[.int .u64 p, z] W fun e w' => e = .returned (.bool (ruleB p c)) ∧ W = w' := fun W hW => sRight p z c W (by omega) (by omega) (hz.ext hW) hc
  have CP := hid cP; have CH := hid cH; have CI := hid cI; have CS := hid cS; have Hv := hid hv; have Hu := hid hu; have Hz := hid hz; have Hs := hid hs; have Ht := hid ht; have Hc := hid hc; have Hp := hid hp; have HF := hid hF
  clear cP cH cI cS hs ht hc hp hT hF
  obtain ⟨a, cap, rfl, k1, k2, k3⟩ := hv
  obtain ⟨a', cap', rfl, m1, m2, m3⟩ := hu
  obtain ⟨a'', cap'', rfl, n1, n2, n3⟩ := hz
  have K3 := hid k3; have M3 := hid m3
  clear k3 m3 n3
  obtain ⟨n, hn⟩ : ∃ n, s.length = n := ⟨_, rfl⟩
  obtain ⟨m, hm⟩ : ∃ m, t.length = m := ⟨_, rfl⟩
  have Hn := hid hn; have Hm := hid hm
  rw [hn] at CH Hv g1 k1 K3 ⊢
  rw [hm] at CI Hu m1 M3 ⊢
  clear hn hm
  obtain ⟨q, hq, hqn⟩ : ∃ q : Nat, cu.tmod 20 = (q : Int) ∧ q < 20 := by
    have h1 : cu.tmod 20 = cu % 20 := Int.tmod_eq_emod_of_nonneg hc0
    exact ⟨(cu % 20).toNat, by rw [h1]; omega, by omega⟩
  obtain ⟨Q, hQ⟩ : ∃ Q, q + q = Q := ⟨_, rfl⟩
  have hQi : 2 * (q : Int) = (Q : Int) := by omega
  go_enter Try.func7, Try.ntmps7
  go_wp2_with (first | (go_at_call 8; refine (awake04 w).mono ?_; rintro _ w1 ⟨rfl, x1⟩) | (go_at_call 20; refine (CP.out w1).mono ?_; rintro _ _ ⟨rfl, rfl⟩) | (go_at_call_of 22 a; refine (CH.out w1 x1).mono ?_; rintro _ _ ⟨rfl, rfl⟩) | (go_at_call_of 22 a'; refine (CI.out w1 x1).mono ?_; rintro _ _ ⟨rfl, rfl⟩) | fail)
  refine (sRule_p p _ s w1 Hp.out HF.out (Hv.out.ext x1) Hs.out (by rw [Hn.out]; omega)).mono ?_
  rintro _ w2 ⟨a2, c2, la, ra, rfl, l2, i2, x2, r2⟩
  have y2 : Ext w w2 := x1.trans x2
  clear x1 x2
  go_upto_if 67 with fail
  go_cut [13, 14] (fun b f w' => Ext w2 w')
  case first =>
    by_cases hn0 : 0 < n
    · have hl1 : Hid ((s.drop 1).length = n - 1) := hid (by rw [List.length_drop, Hn.out])
      have hd := hid ((Hv.out.ext y2).dropq 1 (by rw [Hn.out]; omega))
      have hdr : Hid (Rng p (s.drop 1)) := hid (fun x hx => Hs.out x (List.mem_of_mem_drop hx))
      have hd0 := hd.out
      by_cases hcap : cap = 1
      · rw [if_pos hcap] at hd0
        subst hcap
        obtain rfl : n = 1 := by omega
        have hd1 : Hid (Ints .u64 w2 (.slice a 0 0) (s.drop 1)) := hid hd0
        clear hd0 hd
        go_wp2_with fail
        refine (sRule_p p _ (s.drop 1) w2 Hp.out HF.out hd1.out hdr.out (by rw [hl1.out]; omega)).mono ?_
        rintro _ w3 ⟨a3, c3, lb, rb, rfl, l3, i3, x3, r3⟩
        have h32 : lb ≤ la := by rw [← l2.out, ← l3.out]; exact r2.out.tail (by rw [Hn.out]; exact hn0) r3.out
        go_wp2_with fail
        go_meet
        exact x3
      · rw [if_neg hcap] at hd0
        have hd1 := hid hd0
        clear hd0 hd
        go_wp2_with fail
        refine (sRule_p p _ (s.drop 1) w2 Hp.out HF.out hd1.out hdr.out (by rw [hl1.out]; omega)).mono ?_
        rintro _ w3 ⟨a3, c3, lb, rb, rfl, l3, i3, x3, r3⟩
        have h32 : lb ≤ la := by rw [← l2.out, ← l3.out]; exact r2.out.tail (by rw [Hn.out]; exact hn0) r3.out
        go_wp2_with fail
        go_meet
        exact x3
    · go_wp2_with fail
      go_meet
      exact Ext.refl _
  case rest =>
    have hx3 : Ext w2 wc := by assumption
    have y3 : Ext w wc := y2.trans hx3
    rename World => w3
    obtain ⟨E, hE⟩ : ∃ E, ((m : Int) == (n : Int)) = E := ⟨_, rfl⟩
    go_upto_if 88 with fail
    have HE := hid hE
    clear hE
    go_cut [15, 16, 17, 18, 19, 20, 21, 22] (fun s1 s2 s3 s4 s5 s6 s7 s8 w' => Ext w3 w')
    case first =>
      cases E with
      | true =>
        have Hmn := hid (show m = n by have := HE.out; simp at this; omega)
        go_wp2_with fail
        go_loopw [16, 15] (fun i rv wr => ∃ k : Nat, i = .int .i64 k ∧ k ≤ n ∧ Hid (wr.ownsRow w3.heap.size 22 1 rv k (((sumL p s t).take k).map (Value.int .u64))) ∧ Ext w3 wr) (fun i _ _ => n - (intOf i).toNat)
        case atStart => exact ⟨0, rfl, Nat.zero_le _, hid (World.ownsRow_nil _ _ _ _), Ext.refl _⟩
        case round =>
          obtain ⟨k, rfl, hk, hown, hx⟩ := hrel
          by_cases hlt : k < n
          · obtain ⟨b, off, rfl, hb, hcell⟩ := K3.out (by omega)
            obtain ⟨b', off', rfl, hb', hcell'⟩ := M3.out (by rw [Hmn.out]; omega)
            have hkm : k < m := by rw [Hmn.out]; exact hlt
            have g := ((y3.trans hx).cells _ _ hb).trans (hcell k hlt)
            have g' := ((y3.trans hx).cells _ _ hb').trans (hcell' k hkm)
            have r := Hs.out.get (k := k) (by rw [Hn.out]; exact hlt)
            have r' := Ht.out.get (k := k) (by rw [Hm.out]; exact hkm)
            obtain ⟨y, ey⟩ : ∃ y, s.getD k 0 = y := ⟨_, rfl⟩
            obtain ⟨y', ey'⟩ : ∃ y, t.getD k 0 = y := ⟨_, rfl⟩
            rw [ey] at g r; rw [ey'] at g' r'
            obtain ⟨z, ez, z0, z1⟩ := name_mod (p := p) (y + y') hp2.1
            have hlm := hid (show (((sumL p s t).take k).map (Value.int .u64)) ++ [Value.int .u64 z] = ((sumL p s t).take (k + 1)).map (Value.int .u64) by
              rw [take_snoc _ k (by rw [sumL_len, Hn.out]; exact hlt), List.map_append, sumL_get s t (by rw [Hn.out]; exact hlt), ey, ey', ez]; rfl)
            have Ez := hid ez
            clear ey ey' ez hcell hcell'
            have gs := hid (fun (W : World) (hW : Ext wr W) => And.intro ((hW.cells _ _ (cell_lt g)).trans g) ((hW.cells _ _ (cell_lt g')).trans g'))
            go_wp2_with fail
            go_region_held3 (fun w' => w'.cell? ⟨b, off + k, none⟩ = some (.int .u64 y) ∧ w'.cell? ⟨b', off' + k, none⟩ = some (.int .u64 y')) (first | exact gs.out _ ((Ext.refl wr).drew) | exact gs.out _ (((Ext.refl wr).drew).trans x5))
              ((go_at_call 26; refine (add_as p y y' z _ Hp.out r.1 r.2 r'.1 r'.2 Ez.out).mono ?_; rintro _ w5 ⟨rfl, x5⟩))
            have e5 : Ext wr w5 := ((Ext.refl wr).drew).trans x5
            have hx5 : Ext w3 w5 := hx.trans e5
            have hsz := hx5.size
            have hown5 := hid (ownsRow_ext hown.out e5)
            clear x5 g g'
            go_wp2_with (first | (at_builtin; refine wpList_append_own _ rfl _ _ 23 rfl w3.heap.size 22 i0 (.int .u64 0) 1 8 Try.underlying23 hi hz0 hz1 hz2 rfl (by decide) _ _ _ rfl (hown5.out.alloc _) ⟨w5.heap.size, 0, none⟩ 1 1 [.int .u64 z] rfl rfl (cells_new _ _ _ (by simp)) (by simp [Value.oneCell']) (by simp only [maxLen]; omega) (by omega) (by simp; omega) ?_; intro v' w6 hown6 hgrow6 hnil6) | fail)
            go_roundw
            case rel =>
             exact ⟨k + 1, by go_num, by omega, hid (by rw [← hlm.out]; exact hown6), (hx5.alloc _).grown hgrow6 (fun t e => (hown5.out.lt t e).1)⟩
            case measure => simp [intOf]; omega
          · obtain rfl : k = n := by omega
            have ho := hown.out
            have hml : (sumL p s t).length = k := by rw [sumL_len, Hn.out]
            rw [List.take_of_length_le (by omega)] at ho
            obtain ⟨a5, c5, rfl, c52, c53, c54, c55⟩ := WRow.of_owns ho
            have hI : Hid (Ints .u64 wr (.slice a5 k c5) (sumL p s t)) := hid (by
              rcases Nat.eq_zero_or_pos k with h0 | h0
              · exact ⟨a5, c5, by rw [c54], by omega, c53, fun h => by omega⟩
              · obtain ⟨g4, rfl, hg4, hw4⟩ := c55 h0
                exact hw4.ints' c54 c52 c53)
            have hmr : Hid (Rng p (sumL p s t)) := hid (sumL_rng hp2.1 s t)
            have Hml := hid hml
            clear c55 ho hown c54 hml
            have y5 : Ext w wr := y3.trans hx
            go_wp2_with fail
            refine (sRule_p p _ t wr Hp.out HF.out (Hu.out.ext y5) Ht.out (by rw [Hm.out, Hmn.out]; omega)).mono ?_
            rintro _ w6 ⟨a6, c6, lb, rb, rfl, l6, i6, x6, r6⟩
            clear i6
            go_wp2_with fail
            refine (sRule_p p _ (sumL p s t) w6 Hp.out HF.out (hI.out.ext x6) hmr.out (by rw [Hml.out]; omega)).mono ?_
            rintro _ w7 ⟨a7, c7, ld, rd, rfl, l7, i7, x7, r7⟩
            have hsum := r2.out.sum (by rw [Hm.out, Hn.out]; exact Hmn.out) r6.out r7.out
            rw [l7.out, l2.out, l6.out] at hsum
            have q1 : 1 ≤ la ∧ la ≤ 41 := by have h1 := r2.out.2.2.1; have h2 := r2.out.2.2.2.1; rw [l2.out, Hn.out] at h2; rw [l2.out] at h1; omega
            have q2 : 1 ≤ lb ∧ lb ≤ 41 := by have h1 := r6.out.2.2.1; have h2 := r6.out.2.2.2.1; rw [l6.out, Hm.out, Hmn.out] at h2; rw [l6.out] at h1; omega
            have q3 : 1 ≤ ld ∧ ld ≤ 41 := by have h1 := r7.out.2.2.1; have h2 := r7.out.2.2.2.1; rw [l7.out, Hml.out] at h2; rw [l7.out] at h1; omega
            obtain ⟨q1, q1'⟩ := q1
            obtain ⟨q2, q2'⟩ := q2
            obtain ⟨q3, q3'⟩ := q3
            have b2 : ¬ ((la : Int) - 1 + (lb : Int) - 1 < (ld : Int) - 1) := by omega
            have e7 : Ext w3 w7 := hx.trans (x6.trans x7)
            clear i7
            go_wp2_with fail
            all_goals
              first
                | (exfalso; omega)
                | (go_meet; exact e7)
      | false =>
        go_wp2_with fail
        go_meet
        exact Ext.refl _
    case rest =>
      have hx4 : Ext w3 wc := by assumption
      have y4 : Ext w wc := y3.trans hx4
      clear hx4 hx3
      rename World => w4
      obtain ⟨R, hR⟩ : ∃ R, ruleB p c = R := ⟨_, rfl⟩
      rw [hR] at CS
      cases R with
      | false =>
        go_wp2_with (go_at_call 12; refine (CS.out w4 y4).mono ?_; rintro _ _ ⟨rfl, rfl⟩)
        go_ret
        exact ⟨rfl, y4⟩
      | true =>
        have HR := hid hR
        clear hR
        have ho1 := hid (onL_onL (p := p) c s q q)
        have hr1 := hid (onL_rng (c := c) hp2.1 Hs.out q)
        have hll := hid (onL_len (p := p) c s q)
        go_wp2_with (go_at_call 12; refine (CS.out w4 y4).mono ?_; rintro _ _ ⟨rfl, rfl⟩)
        refine (sOn_yes p Q _ _ s c w4 (Hv.out.ext y4) (Hz.out.ext y4) HR.out Hs.out Hc.out (by omega) (by rw [Hn.out]; omega)).mono ?_
        rintro _ w5 ⟨v5, rfl, i5, x5⟩
        have I5 := hid i5
        have y5 : Ext w w5 := y4.trans x5
        clear i5
        go_wp2_with fail
        refine (sOn_yes p q _ _ s c w5 (Hv.out.ext y5) (Hz.out.ext y5) HR.out Hs.out Hc.out (by omega) (by rw [Hn.out]; omega)).mono ?_
        rintro _ w6 ⟨v6, rfl, i6, x6⟩
        have I6 := hid i6
        have y6 : Ext w w6 := y5.trans x6
        clear i6
        go_wp2_with fail
        refine (sOn_yes p q _ _ (onL p c s q) c w6 I6.out (Hz.out.ext y6) HR.out hr1.out Hc.out (by omega) (by rw [hll.out, Hn.out]; omega)).mono ?_
        rw [ho1.out, hQ]
        rintro _ w7 ⟨v7, rfl, i7, x7⟩
        have I7 := hid i7
        have y7 : Ext w w7 := y6.trans x7
        clear i7
        go_wp2_with fail
        refine (same_yes _ _ (onL p c s Q) w7 (I5.out.ext (x6.trans x7)) I7.out).mono ?_
        rintro _ w8 ⟨rfl, x8⟩
        go_wp2_with fail
        go_ret
        exact ⟨rfl, y7.trans x8⟩

theorem walk (p : Int) (v : Value) (s : List Int) (u : Value) (t : List Int) (z : Value) (c : List Int) (cu : Int) (w : World) (hp : (Lit.int .u64 p).wf = true) (hv : Ints .u64 w v s) (hs : ∀ x ∈ s, (Lit.int .u64 x).wf = true) (hu : Ints .u64 w u t) (ht : ∀ x ∈ t, (Lit.int .u64 x).wf = true)
    (hz : Ints .u64 w z c) (hc : ∀ x ∈ c, (Lit.int .u64 x).wf = true) (hcu : (Lit.int .u8 cu).wf = true) :
    Calls Try.prog 7 #[.int .u64 p, v, u, z, .int .u8 cu] w (Ret (.bool true) w) := by
  obtain ⟨h0, h1⟩ := u64_wf hp
  obtain ⟨c0, _⟩ := u8_wf hcu
  have hs' : U64s s := fun x hx => u64_wf (hs x hx)
  have ht' : U64s t := fun x hx => u64_wf (ht x hx)
  have hc' : U64s c := fun x hx => u64_wf (hc x hx)
  by_cases h : takenB p = false ∨ 40 < s.length ∨ 40 < c.length ∨ hasB p s = false ∨ hasB p t = false
  · exact walk_skip p cu v u z s t c w h0 h1 hv hu hz hs' ht' h
  · have hT : takenB p = true := by
      cases hT : takenB p
      · exact absurd (.inl hT) h
      · rfl
    have hB : hasB p s = true := by
      cases hB : hasB p s
      · exact absurd (.inr (.inr (.inr (.inl hB)))) h
      · rfl
    have hC : hasB p t = true := by
      cases hC : hasB p t
      · exact absurd (.inr (.inr (.inr (.inr hC)))) h
      · rfl
    exact walk_yes p cu v u z s t c w hv hu hz (fun y hy => ⟨(hs' y hy).1, (hasB_true hB).2 y hy⟩) (fun y hy => ⟨(ht' y hy).1, (hasB_true hC).2 y hy⟩) hc' (hasB_true hB).1 hT (fun e => h (.inr (.inl e))) (fun e => h (.inr (.inr (.inl e)))) c0

theorem own : ownKnob Try.prog.godebug = none := by kernel_rfl
set_option maxRecDepth 100000 in
theorem lifted (os : Os) (started : os.Started) (H : Type) (enc : TypeId × Value → H) :
    ReturnsInHanded {} Try.checked os 7 .any (Rows.seriesSumsSpec.pre6 enc Try.prog Try.f7 Rows.seriesSumsRow.domain false) (Rows.seriesSumsSpec.post enc Try.prog Try.f7 false true false false) := by
  refine returnsInHanded_of_change (C := Try.checked) own started (by kernel_rfl) Try.func7
    (ChangeSpec.witness6 (enc := enc) (C := Try.checked) false ⟨#[], #[.int .u64 0, .slice none 0 0, .slice none 0 0, .slice none 0 0, .int .u8 0], []⟩ 8 (by kernel_rfl) (by kernel_rfl) (by kernel_rfl) (by kernel_rfl)) ?_
  intro W base args ds gs before hval0 hW _ _
  have hval : ∀ (j : Nat) t v, Try.f7.params[j]? = some t → args[j]? = some v → Value.okWide Try.prog W .any base t v := hval0
  have hW' := hW
  obtain ⟨p, q, hA0, hV, rfl, _, _⟩ := hW
  have hA : DataW.TrodAll enc Try.prog W 0 (fun _ => true) true Try.f7.params.toList args.toList ds p := hA0
  rw [Try.params7] at hA hval
  obtain ⟨v0, vs0, d0, ds0, p0, q0, hargs, rfl, rfl, h0, r0⟩ := trodAll_cons hA
  obtain ⟨v1, vs1, d1, ds1, p1, q1, rfl, rfl, rfl, h1, r1⟩ := trodAll_cons r0
  obtain ⟨v2, vs2, d2, ds2, p2, q2, rfl, rfl, rfl, h2, r2⟩ := trodAll_cons r1
  obtain ⟨v3, vs3, d3, ds3, p3, q3, rfl, rfl, rfl, h3, r3⟩ := trodAll_cons r2
  obtain ⟨v4, vs4, d4, ds4, p4, q4, rfl, rfl, rfl, h4, r4⟩ := trodAll_cons r3
  obtain ⟨rfl, rfl, rfl⟩ := trodAll_nil r4
  obtain rfl : args = #[v0, v1, v2, v3, v4] := by cases args; simp_all
  obtain ⟨rfl, rfl⟩ := trodVars_none hV
  obtain ⟨a0, rfl, rfl, rfl, w0⟩ := open_int Try.underlying22 (hval 0 22 v0 rfl rfl) h0
  obtain ⟨xs1, i1, w1⟩ := open_Ints Try.underlying23 Try.underlying22 (by kernel_rfl) (hval 1 23 v1 rfl rfl) h1
  obtain ⟨xs2, i2, w2⟩ := open_Ints Try.underlying23 Try.underlying22 (by kernel_rfl) (hval 2 23 v2 rfl rfl) h2
  obtain ⟨xs3, i3, w3⟩ := open_Ints Try.underlying23 Try.underlying22 (by kernel_rfl) (hval 3 23 v3 rfl rfl) h3
  obtain ⟨a4, rfl, rfl, rfl, w4⟩ := open_int Try.underlying5 (hval 4 5 v4 rfl rfl) h4
  refine (walk a0 v1 xs1 v2 xs2 v3 xs3 a4 W w0 i1 w1 i2 w2 i3 w3 w4).mono fun e W' ⟨he, hg⟩ => ⟨_, he, ?_⟩
  exact law_post (by kernel_rfl) (by kernel_rfl) rfl Try.underlying4 rfl rfl hW' hg

/-- the statement -/
theorem proved : Rows.SeriesSumsSaid :=
  OpenClaim.holds_of_wide 7 Try.f7 rfl rfl rfl rfl rfl rfl rfl ⟨rfl, rfl, rfl, rfl, rfl⟩ rfl rfl rfl rfl rfl (by kernel_rfl) Try.func7 (by kernel_rfl)
    (of_decide_eq_true (by kernel_rfl)) (by unfold Func.isWrapper; first | (rw [if_pos (by decide +kernel)]; kernel_rfl) | (rw [if_neg (by decide +kernel)]; exact ⟨rfl, rfl⟩))
    (fun os started H enc _ => lifted os started H enc)
end Go.Proofs.Ytbpbagejblbacaa.seriesSums
