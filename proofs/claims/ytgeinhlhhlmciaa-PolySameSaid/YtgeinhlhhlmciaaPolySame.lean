/- PolySame: whatever the number and the lists, the law answers true, and nothing that was there has turned. No condition. -/
import Derived.Test.YtgeinhlhhlmciaaSameM
namespace Go.Proofs.Ytgeinhlhhlmciaa.polySame
open Go.ChangeShapes Go.WideShapes Go.ChangeAt Go.RowKit

set_option maxRecDepth 100000 in
set_option maxHeartbeats 2000000 in
theorem walk_no (p : Int) (v u : Value) (xs ys : List Int) (w : World) (h0 : 0 ≤ p) (h1 : p ≤ 18446744073709551615) (hv : Ints .u64 w v xs) (hu : Ints .u64 w u ys) (hx : U64s xs) (hy : U64s ys)
    (h : ¬ (xs.length ≤ 40 ∧ ys.length ≤ 40 ∧ takenB p = true ∧ rightPB p xs = true ∧ rightPB p ys = true)) : Calls Try.prog 8 #[.int .u64 p, v, u] w (Ret (.bool true) w) := by
  have cP : ∀ W, Calls Try.prog 10 #[.int .u64 p] W fun e w' => e = .returned (.bool (takenB p)) ∧ W = w' := fun W => prime_any p W h0
  have cX : ∀ W, Ext w W → Calls Try.prog 11 #[.int .u64 p, v] W fun e w' => e = .returned (.bool (rightPB p xs)) ∧ W = w' := fun W hW => polRight_any p v xs W h0 h1 (hv.ext hW) hx
  have cY : ∀ W, Ext w W → Calls Try.prog 11 #[.int .u64 p, u] W fun e w' => e = .returned (.bool (rightPB p ys)) ∧ W = w' := fun W hW => polRight_any p u ys W h0 h1 (hu.ext hW) hy
  obtain ⟨T, hT⟩ : ∃ T, takenB p = T := ⟨_, rfl⟩
  obtain ⟨X, hX⟩ : ∃ X, rightPB p xs = X := ⟨_, rfl⟩
  obtain ⟨Y, hY⟩ : ∃ Y, rightPB p ys = Y := ⟨_, rfl⟩
  rw [hT] at cP h; rw [hX] at cX h; rw [hY] at cY h
  obtain ⟨a, cap, rfl, k1, k2, k3⟩ := hv
  obtain ⟨a', cap', rfl, m1, m2, m3⟩ := hu
  have CP := hid cP; have CX := hid cX; have CY := hid cY
  clear cP cX cY k3 m3 hT hX hY hx hy
  by_cases g1 : xs.length ≤ 40
  · by_cases g2 : ys.length ≤ 40
    · cases T with
      | false =>
        clear h
        go_enter Try.func8, Try.ntmps8
        go_wp2_with (first | (go_at_call 9; refine (awake03 w).mono ?_; rintro _ w1 ⟨rfl, x1⟩) | (go_at_call 10; refine (CP.out w1).mono ?_; rintro _ _ ⟨rfl, rfl⟩))
        go_ret
        exact ⟨rfl, (by repeat (first | exact Ext.refl _ | assumption | refine Ext.drew ?_ | refine Ext.drewN ?_ _ | refine Ext.alloc ?_ _ | refine Ext.trans ?_ (by assumption)))⟩
      | true =>
        cases X with
        | false =>
          clear h
          go_enter Try.func8, Try.ntmps8
          go_wp2_with (first | (go_at_call 9; refine (awake03 w).mono ?_; rintro _ w1 ⟨rfl, x1⟩) | (go_at_call 10; refine (CP.out w1).mono ?_; rintro _ _ ⟨rfl, rfl⟩) | (go_at_call_of 11 a; refine (CX.out w1 x1).mono ?_; rintro _ _ ⟨rfl, rfl⟩))
          go_ret
          exact ⟨rfl, (by repeat (first | exact Ext.refl _ | assumption | refine Ext.drew ?_ | refine Ext.drewN ?_ _ | refine Ext.alloc ?_ _ | refine Ext.trans ?_ (by assumption)))⟩
        | true =>
          cases Y with
          | false =>
            clear h
            go_enter Try.func8, Try.ntmps8
            go_wp2_with (first | (go_at_call 9; refine (awake03 w).mono ?_; rintro _ w1 ⟨rfl, x1⟩) | (go_at_call 10; refine (CP.out w1).mono ?_; rintro _ _ ⟨rfl, rfl⟩) | (go_at_call_of 11 a; refine (CX.out w1 x1).mono ?_; rintro _ _ ⟨rfl, rfl⟩) | (go_at_call_of 11 a'; refine (CY.out w1 x1).mono ?_; rintro _ _ ⟨rfl, rfl⟩))
            go_ret
            exact ⟨rfl, (by repeat (first | exact Ext.refl _ | assumption | refine Ext.drew ?_ | refine Ext.drewN ?_ _ | refine Ext.alloc ?_ _ | refine Ext.trans ?_ (by assumption)))⟩
          | true => exact absurd ⟨g1, g2, rfl, rfl, rfl⟩ h
    · clear h
      go_enter Try.func8, Try.ntmps8
      go_wp2_with (go_at_call 9; refine (awake03 w).mono ?_; rintro _ w1 ⟨rfl, x1⟩)
      go_ret
      exact ⟨rfl, (by repeat (first | exact Ext.refl _ | assumption | refine Ext.drew ?_ | refine Ext.drewN ?_ _ | refine Ext.alloc ?_ _ | refine Ext.trans ?_ (by assumption)))⟩
  · clear h
    go_enter Try.func8, Try.ntmps8
    go_wp2_with (go_at_call 9; refine (awake03 w).mono ?_; rintro _ w1 ⟨rfl, x1⟩)
    go_ret
    exact ⟨rfl, (by repeat (first | exact Ext.refl _ | assumption | refine Ext.drew ?_ | refine Ext.drewN ?_ _ | refine Ext.alloc ?_ _ | refine Ext.trans ?_ (by assumption)))⟩

set_option maxRecDepth 100000 in
set_option maxHeartbeats 4000000 in
theorem walk_yes (p : Int) (v u : Value) (xs ys : List Int) (w : World) (hv : Ints .u64 w v xs) (hu : Ints .u64 w u ys)
    (g1 : xs.length ≤ 40) (g2 : ys.length ≤ 40) (hT : takenB p = true) (hp : rightB p = true) (hX : Pol p xs) (hY : Pol p ys) : Calls Try.prog 8 #[.int .u64 p, v, u] w (Ret (.bool true) w) := by
  have hp2 := rightB_true hp
  have HF := hid (taken_fld hT)
  have cP : ∀ W, Calls Try.prog 10 #[.int .u64 p] W fun e w' => e = .returned (.bool true) ∧ W = w' := fun W => by
    have := prime_any p W (by omega)
    rwa [hT] at this
  have cX : ∀ W, Ext w W → Calls Try.prog 11 #[.int .u64 p, v] W fun e w' => e = .returned (.bool true) ∧ W = w' := fun W hW => polRight_yes p v xs W hp (hv.ext hW) hX (by omega)
  have cY : ∀ W, Ext w W → Calls Try.prog 11 #[.int .u64 p, u] W fun e w' => e = .returned (.bool true) ∧ W = w' := fun W hW => polRight_yes p u ys W hp (hu.ext hW) hY (by omega)
  have CP := hid cP; have CX := hid cX; have CY := hid cY
  have Hv := hid hv; have Hu := hid hu; have HX := hid hX; have HY := hid hY; have Hp := hid hp
  have H1 := hid (Pol.one (p := p) (c := 1) (by omega) (by omega))
  obtain ⟨a, cap, rfl, k1, k2, k3⟩ := hv
  obtain ⟨a', cap', rfl, m1, m2, m3⟩ := hu
  clear k3 m3 hX hY hp cP cX cY hT
  go_enter Try.func8, Try.ntmps8
  go_wp2_with (first | (go_at_call 9; refine (awake03 w).mono ?_; rintro _ w1 ⟨rfl, x1⟩) | (go_at_call 10; refine (CP.out w1).mono ?_; rintro _ _ ⟨rfl, rfl⟩) | (go_at_call_of 11 a; refine (CX.out w1 x1).mono ?_; rintro _ _ ⟨rfl, rfl⟩) | (go_at_call_of 11 a'; refine (CY.out w1 x1).mono ?_; rintro _ _ ⟨rfl, rfl⟩) | fail)
  refine (pGcd_yes p _ _ xs ys w1 Hp.out HF.out (Hv.out.ext x1) (Hu.out.ext x1) HX.out HY.out (by omega)).mono ?_
  rintro _ w2 ⟨v1, G, rfl, i1, j1, x2⟩
  have I1 := hid i1; have J1 := hid j1
  clear i1 j1
  have y2 : Ext w w2 := x1.trans x2
  go_wp2_with fail
  refine (pGcd_yes p _ _ ys xs w2 Hp.out HF.out (Hu.out.ext y2) (Hv.out.ext y2) HY.out HX.out (by omega)).mono ?_
  rintro _ w3 ⟨v2, H, rfl, i2, j2, x3⟩
  obtain rfl : H = G := j2.swap.unique hp2.1 J1.out
  have I2 := hid i2
  clear i2 j2 J1
  have y3 : Ext w w3 := y2.trans x3
  go_wp2_with fail
  refine (pLcm_any p _ _ xs ys w3 Hp.out HF.out (Hv.out.ext y3) (Hu.out.ext y3) HX.out HY.out (by omega) (by omega)).mono ?_
  rintro _ w4 ⟨v3, L, rfl, i3, j3, x4⟩
  have I3 := hid i3; have J3 := hid j3
  clear i3 j3
  have y4 : Ext w w4 := y3.trans x4
  go_wp2_with fail
  refine (pLcm_any p _ _ ys xs w4 Hp.out HF.out (Hu.out.ext y4) (Hv.out.ext y4) HY.out HX.out (by omega) (by omega)).mono ?_
  rintro _ w5 ⟨v4, K, rfl, i4, j4, x5⟩
  obtain rfl : K = L := j4.swap_eq HF.out hp2.1 HY.out HX.out J3.out
  have I4 := hid i4
  clear i4 j4 J3
  have y5 : Ext w w5 := y4.trans x5
  go_wp2_with fail
  refine (pMonic_any p _ xs w5 Hp.out HF.out (Hv.out.ext y5) HX.out (by omega)).mono ?_
  rintro _ w6 ⟨v5, M, rfl, i5, j5, x6⟩
  have I5 := hid i5; have J5 := hid j5
  clear i5 j5
  have y6 : Ext w w6 := y5.trans x6
  go_wp2_with fail
  refine (pGcd_yes p _ _ xs xs w6 Hp.out HF.out (Hv.out.ext y6) (Hv.out.ext y6) HX.out HX.out (by omega)).mono ?_
  rintro _ w7 ⟨v6, GA, rfl, i6, j6, x7⟩
  obtain rfl : GA = M := j6.unique hp2.1 J5.out.gcd
  have I6 := hid i6
  clear i6 j6
  have y7 : Ext w w7 := y6.trans x7
  go_wp2_with fail
  refine (pLcm_any p _ _ xs xs w7 Hp.out HF.out (Hv.out.ext y7) (Hv.out.ext y7) HX.out HX.out (by omega) (by omega)).mono ?_
  rintro _ w8 ⟨v7, LA, rfl, i7, j7, x8⟩
  obtain rfl : LA = GA := j7.self HF.out hp2.1 J5.out
  have I7 := hid i7
  clear i7 j7
  have y8 : Ext w w8 := y7.trans x8
  have C8 := hid (pGcd_yes p _ (.slice (some ⟨w8.heap.size, 0, none⟩) 1 1) xs [1] (w8.alloc (.cells #[.int .u64 1] 22)) Hp.out HF.out (Hv.out.ext (y8.alloc _)) Ints.new1 HX.out H1.out (by simp; omega))
  go_wp2_with fail
  refine C8.out.mono ?_
  rintro _ w9 ⟨v8, G1, rfl, i8, j8, x9⟩
  obtain rfl : G1 = [1] := j8.unique hp2.1 (gcd_one hp2.1 xs)
  have I8 := hid i8
  clear i8 j8 C8
  have y9 : Ext w w9 := (y8.alloc _).trans x9
  have x89 : Ext w8 w9 := ((Ext.refl w8).alloc _).trans x9
  have C9 := hid (pLcm_any p _ (.slice (some ⟨w9.heap.size, 0, none⟩) 1 1) xs [1] (w9.alloc (.cells #[.int .u64 1] 22)) Hp.out HF.out (Hv.out.ext (y9.alloc _)) Ints.new1 HX.out H1.out (by simp; omega) (by simp; omega))
  go_wp2_with fail
  refine C9.out.mono ?_
  rintro _ w10 ⟨v9, L1, rfl, i9, j9, x10⟩
  obtain rfl : L1 = LA := j9.unit HF.out hp2.1 J5.out
  have I9 := hid i9
  clear i9 j9 C9
  have y10 : Ext w w10 := (y9.alloc _).trans x10
  have x910 : Ext w9 w10 := ((Ext.refl w9).alloc _).trans x10
  have z8 : Ext w8 w10 := x89.trans x910
  have z7 : Ext w7 w10 := x8.trans z8
  have z6 : Ext w6 w10 := x7.trans z7
  have z5 : Ext w5 w10 := x6.trans z6
  have z4 : Ext w4 w10 := x5.trans z5
  have z3 : Ext w3 w10 := x4.trans z4
  have z2 : Ext w2 w10 := x3.trans z3
  have s1 := hid (same_yes v1 v2 H w10 (I1.out.ext z2) (I2.out.ext z3))
  go_wp2_with fail
  refine s1.out.mono ?_
  rintro _ w11 ⟨rfl, x11⟩
  have s2 := hid (same_yes v3 v4 K w11 (I3.out.ext (z4.trans x11)) (I4.out.ext (z5.trans x11)))
  go_wp2_with fail
  refine s2.out.mono ?_
  rintro _ w12 ⟨rfl, x12⟩
  have t12 : Ext w10 w12 := x11.trans x12
  have s3 := hid (same_yes v6 v5 L1 w12 (I6.out.ext (z7.trans t12)) (I5.out.ext (z6.trans t12)))
  go_wp2_with fail
  refine s3.out.mono ?_
  rintro _ w13 ⟨rfl, x13⟩
  have t13 : Ext w10 w13 := t12.trans x13
  have s4 := hid (same_yes v7 v5 L1 w13 (I7.out.ext (z8.trans t13)) (I5.out.ext (z6.trans t13)))
  go_wp2_with fail
  refine s4.out.mono ?_
  rintro _ w14 ⟨rfl, x14⟩
  have t14 : Ext w10 w14 := t13.trans x14
  have s5 := hid (same_yes v8 (.slice (some ⟨w14.heap.size, 0, none⟩) 1 1) [1] (w14.alloc (.cells #[.int .u64 1] 22)) (I8.out.ext ((x910.trans t14).alloc _)) Ints.new1)
  go_wp2_with fail
  refine s5.out.mono ?_
  rintro _ w15 ⟨rfl, x15⟩
  have t15 : Ext w10 w15 := (t14.alloc _).trans x15
  have s6 := hid (same_yes v9 v5 L1 w15 (I9.out.ext t15) (I5.out.ext (z6.trans t15)))
  go_wp2_with fail
  refine s6.out.mono ?_
  rintro _ w16 ⟨rfl, x16⟩
  go_wp2_with fail
  go_ret
  exact ⟨rfl, y10.trans (t15.trans x16)⟩

theorem walk (p : Int) (v : Value) (xs : List Int) (u : Value) (ys : List Int) (w : World) (hp : (Lit.int .u64 p).wf = true) (hv : Ints .u64 w v xs) (hx : ∀ x ∈ xs, (Lit.int .u64 x).wf = true) (hu : Ints .u64 w u ys) (hy : ∀ x ∈ ys, (Lit.int .u64 x).wf = true) :
    Calls Try.prog 8 #[.int .u64 p, v, u] w (Ret (.bool true) w) := by
  have hp := u64_wf hp
  have hx : U64s xs := fun x h => u64_wf (hx x h)
  have hy : U64s ys := fun x h => u64_wf (hy x h)
  by_cases h : xs.length ≤ 40 ∧ ys.length ≤ 40 ∧ takenB p = true ∧ rightPB p xs = true ∧ rightPB p ys = true
  · obtain ⟨g1, g2, g3, g4, g5⟩ := h
    obtain ⟨r1, r2, _⟩ := (rightPB_iff hx).1 g4
    obtain ⟨_, r3, _⟩ := (rightPB_iff hy).1 g5
    exact walk_yes p v u xs ys w hv hu g1 g2 g3 r1 r2 r3
  · exact walk_no p v u xs ys w hp.1 hp.2 hv hu hx hy h

theorem own : ownKnob Try.prog.godebug = none := by kernel_rfl
set_option maxRecDepth 100000 in
theorem lifted (os : Os) (started : os.Started) (H : Type) (enc : TypeId × Value → H) :
    ReturnsInHanded {} Try.checked os 8 .any (Rows.polySameSpec.pre6 enc Try.prog Try.f8 Rows.polySameRow.domain false) (Rows.polySameSpec.post enc Try.prog Try.f8 false true false false) := by
  refine returnsInHanded_of_change (C := Try.checked) own started (by kernel_rfl) Try.func8
    (ChangeSpec.witness6 (enc := enc) (C := Try.checked) false ⟨#[], #[.int .u64 0, .slice none 0 0, .slice none 0 0], []⟩ 8 (by kernel_rfl) (by kernel_rfl) (by kernel_rfl) (by kernel_rfl)) ?_
  intro W base args ds gs before hval0 hW _ _
  have hval : ∀ (j : Nat) t v, Try.f8.params[j]? = some t → args[j]? = some v → Value.okWide Try.prog W .any base t v := hval0
  have hW' := hW
  obtain ⟨p, q, hA0, hV, rfl, _, _⟩ := hW
  have hA : DataW.TrodAll enc Try.prog W 0 (fun _ => true) true Try.f8.params.toList args.toList ds p := hA0
  rw [Try.params8] at hA hval
  obtain ⟨v0, vs0, d0, ds0, p0, q0, hargs, rfl, rfl, h0, r0⟩ := trodAll_cons hA
  obtain ⟨v1, vs1, d1, ds1, p1, q1, rfl, rfl, rfl, h1, r1⟩ := trodAll_cons r0
  obtain ⟨v2, vs2, d2, ds2, p2, q2, rfl, rfl, rfl, h2, r2⟩ := trodAll_cons r1
  obtain ⟨rfl, rfl, rfl⟩ := trodAll_nil r2
  obtain rfl : args = #[v0, v1, v2] := by cases args; simp_all
  obtain ⟨rfl, rfl⟩ := trodVars_none hV
  obtain ⟨a0, rfl, rfl, rfl, w0⟩ := open_int Try.underlying22 (hval 0 22 v0 rfl rfl) h0
  obtain ⟨xs1, i1, w1⟩ := open_Ints Try.underlying23 Try.underlying22 (by kernel_rfl) (hval 1 23 v1 rfl rfl) h1
  obtain ⟨xs2, i2, w2⟩ := open_Ints Try.underlying23 Try.underlying22 (by kernel_rfl) (hval 2 23 v2 rfl rfl) h2
  refine (walk a0 v1 xs1 v2 xs2 W w0 i1 w1 i2 w2).mono fun e W' ⟨he, hg⟩ => ⟨_, he, ?_⟩
  exact law_post (by kernel_rfl) (by kernel_rfl) rfl Try.underlying4 rfl rfl hW' hg

/-- the statement -/
theorem proved : Rows.PolySameSaid :=
  OpenClaim.holds_of_wide 8 Try.f8 rfl rfl rfl rfl rfl rfl rfl ⟨rfl, rfl, rfl, rfl, rfl⟩ rfl rfl rfl rfl rfl (by kernel_rfl) Try.func8 (by kernel_rfl)
    (of_decide_eq_true (by kernel_rfl)) (by unfold Func.isWrapper; first | (rw [if_pos (by decide +kernel)]; kernel_rfl) | (rw [if_neg (by decide +kernel)]; exact ⟨rfl, rfl⟩))
    (fun os started H enc _ => lifted os started H enc)
end Go.Proofs.Ytgeinhlhhlmciaa.polySame
