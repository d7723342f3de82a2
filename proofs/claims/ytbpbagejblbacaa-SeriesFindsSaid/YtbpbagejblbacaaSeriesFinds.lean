/- SeriesFinds: whatever the number, the first numbers and the list, the law answers true, and nothing that was there has turned. No condition. -/
import Derived.Test.YtbpbagejblbacaaAwake04
import Derived.Test.YtbpbagejblbacaaTurned04
import Derived.Test.YtbpbagejblbacaaFindsM
import Derived.Test.YtbpbagejblbacaaPNorm
import Derived.Test.YtbpbagejblbacaaDiv
namespace Go.Proofs.Ytbpbagejblbacaa.seriesFinds
open Go.ChangeShapes Go.WideShapes Go.ChangeAt Go.RowKit

set_option maxRecDepth 100000 in
set_option maxHeartbeats 1000000 in
theorem walk_skip (p : Int) (v u : Value) (s c : List Int) (w : World) (h0 : 0 ≤ p) (h1 : p ≤ 18446744073709551615) (hv : Ints .u64 w v s) (hu : Ints .u64 w u c) (hs : U64s s) (hc : U64s c)
    (h : takenB p = false ∨ ruleB p c = false ∨ hasB p s = false ∨ 13 < c.length ∨ (s.length : Int) ≠ (c.length : Int) - 1) :
    Calls Try.prog 5 #[.int .u64 p, v, u] w (Ret (.bool true) w) := by
  have cP : ∀ W, Calls Try.prog 20 #[.int .u64 p] W fun e w' => e = .returned (.bool (takenB p)) ∧ W = w' := fun W => prime_any p W h0
  have cH : ∀ W, Ext w W → Calls Try.prog 22 #[.int .u64 p, v] W fun e w' => e = .returned (.bool (hasB p s)) ∧ W = w' := fun W hW => has_any p v s W h0 h1 (hv.ext hW) hs
  have cR : ∀ W, Ext w W → Calls Try.prog 12 #[.int .u64 p, u] W fun e w' => e = .returned (.bool (ruleB p c)) ∧ W = w' := fun W hW => sRight p u c W h0 h1 (hu.ext hW) hc
  obtain ⟨T, hT⟩ : ∃ T, takenB p = T := ⟨_, rfl⟩
  obtain ⟨B, hB⟩ : ∃ B, hasB p s = B := ⟨_, rfl⟩
  obtain ⟨R, hR⟩ : ∃ R, ruleB p c = R := ⟨_, rfl⟩
  rw [hT] at cP h; rw [hB] at cH h; rw [hR] at cR h
  have CP := hid cP; have CH := hid cH; have CR := hid cR
  clear cP cH cR hT hB hR hs hc
  obtain ⟨a, cap, rfl, k1, k2, k3⟩ := hv
  obtain ⟨a', cap', rfl, m1, m2, m3⟩ := hu
  clear k3 m3
  cases T with
  | false =>
    clear h
    go_enter Try.func5, Try.ntmps5
    go_wp2_with (first | (go_at_call 8; refine (awake04 w).mono ?_; rintro _ w1 ⟨rfl, x1⟩) | (go_at_call 20; refine (CP.out w1).mono ?_; rintro _ _ ⟨rfl, rfl⟩))
    go_ret
    exact ⟨rfl, (by repeat (first | exact Ext.refl _ | assumption | refine Ext.drew ?_ | refine Ext.drewN ?_ _ | refine Ext.alloc ?_ _ | refine Ext.trans ?_ (by assumption)))⟩
  | true =>
    cases R with
    | false =>
      clear h
      go_enter Try.func5, Try.ntmps5
      go_wp2_with (first | (go_at_call 8; refine (awake04 w).mono ?_; rintro _ w1 ⟨rfl, x1⟩) | (go_at_call 20; refine (CP.out w1).mono ?_; rintro _ _ ⟨rfl, rfl⟩) | (go_at_call 12; refine (CR.out w1 x1).mono ?_; rintro _ _ ⟨rfl, rfl⟩))
      go_ret
      exact ⟨rfl, (by repeat (first | exact Ext.refl _ | assumption | refine Ext.drew ?_ | refine Ext.drewN ?_ _ | refine Ext.alloc ?_ _ | refine Ext.trans ?_ (by assumption)))⟩
    | true =>
      cases B with
      | false =>
        clear h
        go_enter Try.func5, Try.ntmps5
        go_wp2_with (first | (go_at_call 8; refine (awake04 w).mono ?_; rintro _ w1 ⟨rfl, x1⟩) | (go_at_call 20; refine (CP.out w1).mono ?_; rintro _ _ ⟨rfl, rfl⟩) | (go_at_call 12; refine (CR.out w1 x1).mono ?_; rintro _ _ ⟨rfl, rfl⟩) | (go_at_call 22; refine (CH.out w1 x1).mono ?_; rintro _ _ ⟨rfl, rfl⟩))
        go_ret
        exact ⟨rfl, (by repeat (first | exact Ext.refl _ | assumption | refine Ext.drew ?_ | refine Ext.drewN ?_ _ | refine Ext.alloc ?_ _ | refine Ext.trans ?_ (by assumption)))⟩
      | true =>
        by_cases g1 : 13 < c.length
        · clear h
          go_enter Try.func5, Try.ntmps5
          go_wp2_with (first | (go_at_call 8; refine (awake04 w).mono ?_; rintro _ w1 ⟨rfl, x1⟩) | (go_at_call 20; refine (CP.out w1).mono ?_; rintro _ _ ⟨rfl, rfl⟩) | (go_at_call 12; refine (CR.out w1 x1).mono ?_; rintro _ _ ⟨rfl, rfl⟩) | (go_at_call 22; refine (CH.out w1 x1).mono ?_; rintro _ _ ⟨rfl, rfl⟩))
          go_ret
          exact ⟨rfl, (by repeat (first | exact Ext.refl _ | assumption | refine Ext.drew ?_ | refine Ext.drewN ?_ _ | refine Ext.alloc ?_ _ | refine Ext.trans ?_ (by assumption)))⟩
        · have g2 : (s.length : Int) ≠ (c.length : Int) - 1 := by
            rcases h with h | h | h | h | h <;> first | exact h | exact absurd h g1 | cases h
          have b1 : ((s.length : Int) != (c.length : Int) - 1) = true := by simpa using g2
          clear h g2
          go_enter Try.func5, Try.ntmps5
          go_wp2_with (first | (go_at_call 8; refine (awake04 w).mono ?_; rintro _ w1 ⟨rfl, x1⟩) | (go_at_call 20; refine (CP.out w1).mono ?_; rintro _ _ ⟨rfl, rfl⟩) | (go_at_call 12; refine (CR.out w1 x1).mono ?_; rintro _ _ ⟨rfl, rfl⟩) | (go_at_call 22; refine (CH.out w1 x1).mono ?_; rintro _ _ ⟨rfl, rfl⟩))
          go_ret
          exact ⟨rfl, (by repeat (first | exact Ext.refl _ | assumption | refine Ext.drew ?_ | refine Ext.drewN ?_ _ | refine Ext.alloc ?_ _ | refine Ext.trans ?_ (by assumption)))⟩

set_option maxRecDepth 100000 in
set_option maxHeartbeats 4000000 in
theorem walk_yes (p : Int) (v u : Value) (s c : List Int) (w : World) (hv : Ints .u64 w v s) (hu : Ints .u64 w u c) (hs : Rng p s) (hc : U64s c) (hT : takenB p = true) (hR : ruleB p c = true) (g1 : ¬ 13 < c.length) (g2 : c.length = s.length + 1) :
    Calls Try.prog 5 #[.int .u64 p, v, u] w (Ret (.bool true) w) := by
  obtain ⟨hp, hcr, r3, r4, hc0⟩ := (ruleB_iff hc).1 hR
  have hp2 := rightB_true hp
  have hF := taken_fld hT
  have cP : ∀ W, Calls Try.prog 20 #[.int .u64 p] W fun e w' => e = .returned (.bool true) ∧ W = w' := fun W => hT ▸ prime_any p W (by omega)
  have cH : ∀ W, Ext w W → Calls Try.prog 22 #[.int .u64 p, v] W fun e w' => e = .returned (.bool true) ∧ W = w' := fun W hW => has_yes p v s W (hv.ext hW) (hs.u64 hp2.2) (hs.has hp)
  have cR : ∀ W, Ext w W → Calls Try.prog 12 #[.int .u64 p, u] W fun e w' => e = .returned (.bool true) ∧ W = w' := fun W hW => hR ▸ sRight p u c W (by omega) (by omega) (hu.ext hW) hc
  have CP := hid cP; have CH := hid cH; have CR := hid cR; have Hv := hid hv; have Hu := hid hu; have Hs := hid hs; have Hc := hid hc; have Hp := hid hp; have HF := hid hF; have HR := hid hR; have Hcr := hid hcr; have Hc0 := hid hc0
  clear cP cH cR hs hc hp hF hR hT hcr hc0 r3 r4
  obtain ⟨a, cap, rfl, k1, k2, k3⟩ := hv
  obtain ⟨a', cap', rfl, m1, m2, m3⟩ := hu
  clear k3 m3
  obtain ⟨n, hn⟩ : ∃ n, s.length = n := ⟨_, rfl⟩
  have Hn := hid hn
  rw [hn] at CH Hv k1 g2 ⊢
  have Hcl := hid g2
  rw [g2] at CR Hu g1 m1 ⊢
  clear hn g2
  obtain ⟨N2, hN2⟩ : ∃ N, 2 * n = N := ⟨_, rfl⟩
  obtain ⟨N3, hN3⟩ : ∃ N, n + 2 * n = N := ⟨_, rfl⟩
  have hN2i : 2 * (n : Int) = (N2 : Int) := by omega
  have hN3i : 3 * (n : Int) = (N3 : Int) := by omega
  have hsr := hid (onL_rng (c := c) hp2.1 Hs.out n)
  have hsl := hid (show (onL p c s n).length = N2 by rw [onL_len, Hn.out]; omega)
  have b0 : ((n : Int) != ((n + 1 : Nat) : Int) - 1) = false := by simp
  have HN2 := hid hN2; have HN3 := hid hN3
  have hN2b : N2 ≤ 24 := by omega
  have hN3b : N3 ≤ 36 := by omega
  clear hN2 hN3
  go_enter Try.func5, Try.ntmps5
  go_wp2_with (first | (go_at_call 8; refine (awake04 w).mono ?_; rintro _ w1 ⟨rfl, x1⟩) | (go_at_call 20; refine (CP.out w1).mono ?_; rintro _ _ ⟨rfl, rfl⟩) | (go_at_call 12; refine (CR.out w1 x1).mono ?_; rintro _ _ ⟨rfl, rfl⟩) | (go_at_call 22; refine (CH.out w1 x1).mono ?_; rintro _ _ ⟨rfl, rfl⟩) | fail)
  refine (sOn_yes p n _ _ s c w1 (Hv.out.ext x1) (Hu.out.ext x1) HR.out Hs.out Hc.out (by omega) (by rw [Hn.out]; omega)).mono ?_
  rintro _ w2 ⟨v2, rfl, i2, x2⟩
  have I2 := hid i2
  have y2 : Ext w w2 := x1.trans x2
  clear i2 x1 x2
  go_wp2_with fail
  refine (sRule_p p _ (onL p c s n) w2 Hp.out HF.out I2.out hsr.out (by rw [hsl.out]; omega)).mono ?_
  rintro _ w3 ⟨a3, c3, nd, d, rfl, l3, i3, x3, r3⟩
  have y3 : Ext w w3 := y2.trans x3
  have hf := finds hp2.1 Hs.out Hn.out Hcr.out Hc0.out Hcl.out r3.out
  rw [HN3.out, HN2.out, l3.out, Hcl.out] at hf
  obtain ⟨f1, f2, f3, f4, f5⟩ := hf
  have F2 := hid f2; have F3 := hid f3; have F4 := hid f4; have F5 := hid f5
  clear f2 f3 f4 f5
  go_wp2_with fail
  refine (sOn_yes p N3 _ _ s c w3 (Hv.out.ext y3) (Hu.out.ext y3) HR.out Hs.out Hc.out (by omega) (by rw [Hn.out]; omega)).mono ?_
  rintro _ w4 ⟨v4, rfl, i4, x4⟩
  have I4 := hid i4
  have y4 : Ext w w4 := y3.trans x4
  clear i4
  go_wp2_with fail
  refine (sOn_yes p N2 _ _ (onL p c s n) d w4 (I2.out.ext (x3.trans x4)) (i3.out.ext x4) r3.out.1 hsr.out (r3.out.2.1.u64 hp2.2) (by omega) (by rw [hsl.out]; omega)).mono ?_
  rw [← F2.out]
  rintro _ w5 ⟨v5, rfl, i5, x5⟩
  have I5 := hid i5
  have y5 : Ext w w5 := y4.trans x5
  clear i5
  go_wp2_with fail
  refine (same_yes _ _ _ w5 (I4.out.ext x5) I5.out).mono ?_
  rintro _ w6 ⟨rfl, x6⟩
  have y6 : Ext w w6 := y5.trans x6
  go_wp2_with fail
  refine (rTurned _ c w6 (Hu.out.ext y6) (by rw [Hcl.out]; omega)).mono ?_
  rintro _ w7 ⟨v7, rfl, i7, x7⟩
  have I7 := hid i7
  have y7 : Ext w w7 := y6.trans x7
  clear i7
  have hcu := hid (show U64s c.reverse from fun x hx => Hc.out x (List.mem_reverse.1 hx))
  go_wp2_with fail
  refine (pNorm_yes p _ c.reverse w7 Hp.out I7.out hcu.out (by rw [List.length_reverse, Hcl.out]; omega)).mono ?_
  rintro _ w8 ⟨v8, zs, rfl, i8, j8, e8, x8⟩
  have I8 := hid i8; have J8 := hid j8; have E8 := hid e8
  have y8 : Ext w w8 := y7.trans x8
  clear i8 j8 e8
  have z38 : Ext w3 w8 := x4.trans (x5.trans (x6.trans (x7.trans x8)))
  go_wp2_with fail
  refine (sPoly_yes p _ d w8 (i3.out.ext z38) r3.out.1 (r3.out.2.1.u64 hp2.2)).mono ?_
  rintro _ w9 ⟨v9, rfl, i9, x9⟩
  have I9 := hid i9
  have y9 : Ext w w9 := y8.trans x9
  clear i9
  have hd1 : 1 ≤ nd := by rw [← l3.out]; exact r3.out.2.2.1
  have hd0 := (ruleB_iff' r3.out.1).2.2.2
  have hld : lead d.reverse = 1 := by
    unfold lead
    rw [List.length_reverse, rev_get d (by rw [l3.out]; omega), show d.length - 1 - (d.length - 1) = 0 by omega]; exact hd0
  have hPd : Hid (Pol p d.reverse) := hid ⟨fun x hx => r3.out.2.1 x (List.mem_reverse.1 hx), fun _ => by rw [show d.reverse.getD (d.reverse.length - 1) 0 = lead d.reverse from rfl, hld]; decide⟩
  have hzl : zs.length ≤ n + 1 := J8.out.len_le (by rw [E8.out]; exact (pol_low _).mono (by rw [List.length_reverse, Hcl.out]; omega))
  have Hld := hid hld
  have hun := hid (show unitB p (lead d.reverse) = true by rw [Hld.out]; exact HF.out 1 (by omega) (by omega))
  have hne := hid (show d.reverse ≠ [] from fun h => by have := congrArg List.length h; rw [List.length_reverse, l3.out] at this; simp at this; omega)
  have hdl := hid (show zs.length ≤ 512 ∧ d.reverse.length ≤ 512 from ⟨by omega, by rw [List.length_reverse, l3.out]; omega⟩)
  clear hd0 hld
  go_wp2_with fail
  refine (pDiv_yes p _ _ zs d.reverse w9 Hp.out (I8.out.ext x9) I9.out J8.out hPd.out hdl.out hne.out hun.out).mono ?_
  rintro _ w10 ⟨v10, v11, qs, rs, rfl, i10, i11, j10, j11, e10, g10, g11, x10, _, _⟩
  have hrs : rs = [] := by
    rw [List.length_reverse, l3.out] at g10 g11
    have hC : Ser.rev n (pol p zs) = pol p c := by rw [E8.out, pol_rev Hcl.out, Ser.rev_rev ((pol_low c).mono (by rw [Hcl.out]; omega))]
    have hdn : d.length = nd - 1 + 1 := by rw [l3.out]; omega
    have hD : Ser.rev (nd - 1) (pol p d.reverse) = pol p d := by rw [pol_rev hdn, Ser.rev_rev ((pol_low d).mono (by omega))]
    have f3 := F3.out.less (show 3 * n ≤ 4 * n by omega)
    have f4 := F4.out.less (show 3 * n ≤ 4 * n by omega)
    refine finds_div (N := 3 * n) (s := pol p (onL p c s n)) hp2.1 HF.out hC hD ((pol_low _).mono (by rw [List.length_reverse, l3.out]; omega)) (by omega) (by omega) j11 (by omega) e10 f3 f4 (fun i hi => F5.out i (by have := HN2.out; omega)) ?_
    have hl := r3.out.2.2.2.2.2
    rw [hsl.out, l3.out] at hl
    rw [show 3 * n - n = N2 by have := HN2.out; omega]
    exact hl
  subst hrs
  obtain ⟨a10, c10, rfl, _, _, q10⟩ := i10
  obtain ⟨a11, c11, rfl, _, _, q11⟩ := i11
  clear q10 q11 j10 j11 e10 g10 g11
  simp only [List.length_nil]
  go_wp2_with fail
  go_ret
  exact ⟨rfl, y9.trans x10⟩

theorem walk (p : Int) (v : Value) (s : List Int) (u : Value) (c : List Int) (w : World) (hp : (Lit.int .u64 p).wf = true) (hv : Ints .u64 w v s) (hs : ∀ x ∈ s, (Lit.int .u64 x).wf = true) (hu : Ints .u64 w u c) (hc : ∀ x ∈ c, (Lit.int .u64 x).wf = true) :
    Calls Try.prog 5 #[.int .u64 p, v, u] w (Ret (.bool true) w) := by
  obtain ⟨h0, h1⟩ := u64_wf hp
  have hs' : U64s s := fun x hx => u64_wf (hs x hx)
  have hc' : U64s c := fun x hx => u64_wf (hc x hx)
  by_cases h : takenB p = false ∨ ruleB p c = false ∨ hasB p s = false ∨ 13 < c.length ∨ (s.length : Int) ≠ (c.length : Int) - 1
  · exact walk_skip p v u s c w h0 h1 hv hu hs' hc' h
  · have hT : takenB p = true := by
      cases hT : takenB p
      · exact absurd (.inl hT) h
      · rfl
    have hR : ruleB p c = true := by
      cases hR : ruleB p c
      · exact absurd (.inr (.inl hR)) h
      · rfl
    have hB : hasB p s = true := by
      cases hB : hasB p s
      · exact absurd (.inr (.inr (.inl hB))) h
      · rfl
    have g1 : ¬ 13 < c.length := fun e => h (.inr (.inr (.inr (.inl e))))
    have g2 : c.length = s.length + 1 := by
      apply Classical.byContradiction
      intro e
      exact h (.inr (.inr (.inr (.inr (by omega)))))
    exact walk_yes p v u s c w hv hu (fun y hy => ⟨(hs' y hy).1, (hasB_true hB).2 y hy⟩) hc' hT hR g1 g2

theorem own : ownKnob Try.prog.godebug = none := by kernel_rfl
set_option maxRecDepth 100000 in
theorem lifted (os : Os) (started : os.Started) (H : Type) (enc : TypeId × Value → H) :
    ReturnsInHanded {} Try.checked os 5 .any (Rows.seriesFindsSpec.pre6 enc Try.prog Try.f5 Rows.seriesFindsRow.domain false) (Rows.seriesFindsSpec.post enc Try.prog Try.f5 false true false false) := by
  refine returnsInHanded_of_change (C := Try.checked) own started (by kernel_rfl) Try.func5
    (ChangeSpec.witness6 (enc := enc) (C := Try.checked) false ⟨#[], #[.int .u64 0, .slice none 0 0, .slice none 0 0], []⟩ 8 (by kernel_rfl) (by kernel_rfl) (by kernel_rfl) (by kernel_rfl)) ?_
  intro W base args ds gs before hval0 hW _ _
  have hval : ∀ (j : Nat) t v, Try.f5.params[j]? = some t → args[j]? = some v → Value.okWide Try.prog W .any base t v := hval0
  have hW' := hW
  obtain ⟨p, q, hA0, hV, rfl, _, _⟩ := hW
  have hA : DataW.TrodAll enc Try.prog W 0 (fun _ => true) true Try.f5.params.toList args.toList ds p := hA0
  rw [Try.params5] at hA hval
  obtain ⟨v0, vs0, d0, ds0, p0, q0, hargs, rfl, rfl, h0, r0⟩ := trodAll_cons hA
  obtain ⟨v1, vs1, d1, ds1, p1, q1, rfl, rfl, rfl, h1, r1⟩ := trodAll_cons r0
  obtain ⟨v2, vs2, d2, ds2, p2, q2, rfl, rfl, rfl, h2, r2⟩ := trodAll_cons r1
  obtain ⟨rfl, rfl, rfl⟩ := trodAll_nil r2
  obtain rfl : args = #[v0, v1, v2] := by cases args; simp_all
  obtain ⟨rfl, rfl⟩ := trodVars_none hV
  obtain ⟨a0, rfl, rfl, rfl, w0⟩ := open_int Try.underlying22 (hval 0 22 v0 rfl rfl) h0
  obtain ⟨xs1, i1, w1⟩ := open_Ints Try.underlying23 Try.underlying22 (by kernel_rfl) (hval 1 23 v1 rfl rfl) h1
  obtain ⟨xs2, i2, w2⟩ := open_Ints Try.underlying23 Try.underlying22 (by kernel_rfl) (hval 2 23 v2 rfl rfl) h2
  refine (walk a0 v1 xs1 v2 xs2 W w0 i1 w1 i2 w2).mono fun e W' ⟨he, hg⟩ => ⟨_, he, ?_⟩
  exact law_post (by kernel_rfl) (by kernel_rfl) rfl Try.underlying4 rfl rfl hW' hg

/-- the statement -/
theorem proved : Rows.SeriesFindsSaid :=
  OpenClaim.holds_of_wide 5 Try.f5 rfl rfl rfl rfl rfl rfl rfl ⟨rfl, rfl, rfl, rfl, rfl⟩ rfl rfl rfl rfl rfl (by kernel_rfl) Try.func5 (by kernel_rfl)
    (of_decide_eq_true (by kernel_rfl)) (by unfold Func.isWrapper; first | (rw [if_pos (by decide +kernel)]; kernel_rfl) | (rw [if_neg (by decide +kernel)]; exact ⟨rfl, rfl⟩))
    (fun os started H enc _ => lifted os started H enc)
end Go.Proofs.Ytbpbagejblbacaa.seriesFinds
