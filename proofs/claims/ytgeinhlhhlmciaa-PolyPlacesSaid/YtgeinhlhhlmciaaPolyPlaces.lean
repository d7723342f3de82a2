/- PolyPlaces: whatever the number, the lists and the place, the law answers true, and nothing that was there has turned. No condition. -/
import Derived.Test.YtgeinhlhhlmciaaPlaces
namespace Go.Proofs.Ytgeinhlhhlmciaa.polyPlaces
open Go.ChangeShapes Go.WideShapes Go.ChangeAt Go.RowKit

set_option maxRecDepth 100000 in
set_option maxHeartbeats 2000000 in
theorem walk_no (p x : Int) (v u : Value) (xs ys : List Int) (w : World) (h0 : 0 ≤ p) (h1 : p ≤ 18446744073709551615) (hv : Ints .u64 w v xs) (hu : Ints .u64 w u ys) (hx : U64s xs) (hy : U64s ys)
    (h : ¬ (xs.length ≤ 100 ∧ ys.length ≤ 100 ∧ rightPB p xs = true ∧ rightPB p ys = true ∧ x < p)) : Calls Try.prog 5 #[.int .u64 p, v, u, .int .u64 x] w (Ret (.bool true) w) := by
  have cX : ∀ W, Ext w W → Calls Try.prog 11 #[.int .u64 p, v] W fun e w' => e = .returned (.bool (rightPB p xs)) ∧ W = w' := fun W hW => polRight_any p v xs W h0 h1 (hv.ext hW) hx
  have cY : ∀ W, Ext w W → Calls Try.prog 11 #[.int .u64 p, u] W fun e w' => e = .returned (.bool (rightPB p ys)) ∧ W = w' := fun W hW => polRight_any p u ys W h0 h1 (hu.ext hW) hy
  obtain ⟨X, hX⟩ : ∃ X, rightPB p xs = X := ⟨_, rfl⟩
  obtain ⟨Y, hY⟩ : ∃ Y, rightPB p ys = Y := ⟨_, rfl⟩
  rw [hX] at cX h; rw [hY] at cY h
  obtain ⟨a, cap, rfl, k1, k2, k3⟩ := hv
  obtain ⟨a', cap', rfl, m1, m2, m3⟩ := hu
  have CX := hid cX; have CY := hid cY
  clear cX cY k3 m3 hX hY hx hy
  by_cases g1 : xs.length ≤ 100
  · by_cases g2 : ys.length ≤ 100
    · cases X with
      | false =>
        clear h
        go_enter Try.func5, Try.ntmps5
        go_wp2_with (first | (go_at_call 9; refine (awake03 w).mono ?_; rintro _ w1 ⟨rfl, x1⟩) | (go_at_call_of 11 a; refine (CX.out w1 x1).mono ?_; rintro _ _ ⟨rfl, rfl⟩))
        go_ret
        exact ⟨rfl, (by repeat (first | exact Ext.refl _ | assumption | refine Ext.drew ?_ | refine Ext.drewN ?_ _ | refine Ext.alloc ?_ _ | refine Ext.trans ?_ (by assumption)))⟩
      | true =>
        cases Y with
        | false =>
          clear h
          go_enter Try.func5, Try.ntmps5
          go_wp2_with (first | (go_at_call 9; refine (awake03 w).mono ?_; rintro _ w1 ⟨rfl, x1⟩) | (go_at_call_of 11 a; refine (CX.out w1 x1).mono ?_; rintro _ _ ⟨rfl, rfl⟩) | (go_at_call_of 11 a'; refine (CY.out w1 x1).mono ?_; rintro _ _ ⟨rfl, rfl⟩))
          go_ret
          exact ⟨rfl, (by repeat (first | exact Ext.refl _ | assumption | refine Ext.drew ?_ | refine Ext.drewN ?_ _ | refine Ext.alloc ?_ _ | refine Ext.trans ?_ (by assumption)))⟩
        | true =>
          have g3 : p ≤ x := by
            apply Classical.byContradiction
            intro hn
            exact h ⟨g1, g2, rfl, rfl, by omega⟩
          clear h
          go_enter Try.func5, Try.ntmps5
          go_wp2_with (first | (go_at_call 9; refine (awake03 w).mono ?_; rintro _ w1 ⟨rfl, x1⟩) | (go_at_call_of 11 a; refine (CX.out w1 x1).mono ?_; rintro _ _ ⟨rfl, rfl⟩) | (go_at_call_of 11 a'; refine (CY.out w1 x1).mono ?_; rintro _ _ ⟨rfl, rfl⟩))
          go_ret
          exact ⟨rfl, (by repeat (first | exact Ext.refl _ | assumption | refine Ext.drew ?_ | refine Ext.drewN ?_ _ | refine Ext.alloc ?_ _ | refine Ext.trans ?_ (by assumption)))⟩
    · clear h
      go_enter Try.func5, Try.ntmps5
      go_wp2_with (go_at_call 9; refine (awake03 w).mono ?_; rintro _ w1 ⟨rfl, x1⟩)
      go_ret
      exact ⟨rfl, (by repeat (first | exact Ext.refl _ | assumption | refine Ext.drew ?_ | refine Ext.drewN ?_ _ | refine Ext.alloc ?_ _ | refine Ext.trans ?_ (by assumption)))⟩
  · clear h
    go_enter Try.func5, Try.ntmps5
    go_wp2_with (go_at_call 9; refine (awake03 w).mono ?_; rintro _ w1 ⟨rfl, x1⟩)
    go_ret
    exact ⟨rfl, (by repeat (first | exact Ext.refl _ | assumption | refine Ext.drew ?_ | refine Ext.drewN ?_ _ | refine Ext.alloc ?_ _ | refine Ext.trans ?_ (by assumption)))⟩

set_option maxRecDepth 100000 in
set_option maxHeartbeats 4000000 in
theorem walk_yes (p x : Int) (v u : Value) (xs ys : List Int) (w : World) (hv : Ints .u64 w v xs) (hu : Ints .u64 w u ys)
    (g1 : xs.length ≤ 100) (g2 : ys.length ≤ 100) (hp : rightB p = true) (hX : Pol p xs) (hY : Pol p ys) (hx0 : 0 ≤ x) (hx1 : x < p) : Calls Try.prog 5 #[.int .u64 p, v, u, .int .u64 x] w (Ret (.bool true) w) := by
  have hp2 := rightB_true hp
  have cX : ∀ W, Ext w W → Calls Try.prog 11 #[.int .u64 p, v] W fun e w' => e = .returned (.bool true) ∧ W = w' := fun W hW => polRight_yes p v xs W hp (hv.ext hW) hX (by omega)
  have cY : ∀ W, Ext w W → Calls Try.prog 11 #[.int .u64 p, u] W fun e w' => e = .returned (.bool true) ∧ W = w' := fun W hW => polRight_yes p u ys W hp (hu.ext hW) hY (by omega)
  have CX := hid cX; have CY := hid cY
  have Hv := hid hv; have Hu := hid hu; have HX := hid hX; have HY := hid hY; have Hp := hid hp
  obtain ⟨a, cap, rfl, k1, k2, k3⟩ := hv
  obtain ⟨a', cap', rfl, m1, m2, m3⟩ := hu
  have hlm := hid (show (pol p xs * pol p ys).low 199 from ((pol_low xs).mul (pol_low ys)).mono (by omega))
  have hls := hid (show (pol p xs + pol p ys).low 100 from ((pol_low xs).mono g1).add ((pol_low ys).mono g2))
  obtain ⟨eu, heu⟩ : ∃ y, hor p x xs.reverse = y := ⟨_, rfl⟩
  obtain ⟨ev, hev⟩ : ∃ y, hor p x ys.reverse = y := ⟨_, rfl⟩
  have ru := hor_range hp2.1 x xs.reverse
  have rv := hor_range hp2.1 x ys.reverse
  rw [heu] at ru; rw [hev] at rv
  have Heu := hid heu; have Hev := hid hev
  obtain ⟨ng, eng, n0, n1⟩ := name_mod (p := p) (0 - x) hp2.1
  have Hng := hid eng
  have lp := lin_pol hp2.1 x
  have lu := lin_unit hp2.1 x
  rw [eng] at lp lu
  have Lp := hid lp; have Lu := hid lu
  clear k3 m3 hX hY hp cX cY heu hev eng lp lu
  go_enter Try.func5, Try.ntmps5
  go_wp2_with (first | (go_at_call 9; refine (awake03 w).mono ?_; rintro _ w1 ⟨rfl, x1⟩) | (go_at_call_of 11 a; refine (CX.out w1 x1).mono ?_; rintro _ _ ⟨rfl, rfl⟩) | (go_at_call_of 11 a'; refine (CY.out w1 x1).mono ?_; rintro _ _ ⟨rfl, rfl⟩) | fail)
  refine (pAdd_yes p _ _ xs ys w1 Hp.out (Hv.out.ext x1) (Hu.out.ext x1) HX.out HY.out (by omega)).mono ?_
  rintro _ w2 ⟨vs, s, rfl, s4, s5, s6, x2⟩
  have hsl := s5.len_le (s6 ▸ hls.out)
  have S4 := hid s4; have S5 := hid s5; have S6 := hid s6
  clear s4 s5 s6
  have y2 : Ext w w2 := x1.trans x2
  go_wp2_with fail
  refine (pMul_yes p _ _ xs ys w2 Hp.out (Hv.out.ext y2) (Hu.out.ext y2) HX.out HY.out (by omega) (hlm.out.mono (by omega))).mono ?_
  rintro _ w3 ⟨vm, m, rfl, m4, m5, m6, x3⟩
  have hml := m5.len_le (m6 ▸ hlm.out)
  have M4 := hid m4; have M5 := hid m5; have M6 := hid m6
  clear m4 m5 m6
  have y3 : Ext w w3 := y2.trans x3
  go_wp2_with fail
  refine (pEval_as p x eu _ xs w3 Hp.out (Hv.out.ext y3) HX.out (by omega) hx0 hx1 Heu.out).mono ?_
  rintro _ w4 ⟨rfl, x4⟩
  have y4 : Ext w w4 := y3.trans x4
  go_wp2_with fail
  refine (pEval_as p x ev _ ys w4 Hp.out (Hu.out.ext y4) HY.out (by omega) hx0 hx1 Hev.out).mono ?_
  rintro _ w5 ⟨rfl, x5⟩
  have y5 : Ext w w5 := y4.trans x5
  obtain ⟨es, hes⟩ : ∃ y, hor p x s.reverse = y := ⟨_, rfl⟩
  obtain ⟨em, hem⟩ : ∃ y, hor p x m.reverse = y := ⟨_, rfl⟩
  have h1 := hor_add hp2.1 x S6.out
  have h2 := hor_mul hp2.1 x M6.out
  rw [Heu.out, Hev.out, hes] at h1
  rw [Heu.out, Hev.out, hem] at h2
  have Hes := hid hes; have Hem := hid hem; have H1 := hid h1; have H2 := hid h2
  clear hes hem h1 h2
  have z35 : Ext w3 w5 := x4.trans x5
  have z25 : Ext w2 w5 := x3.trans z35
  go_wp2_with fail
  refine (pEval_as p x es vs s w5 Hp.out (S4.out.ext z25) S5.out (by omega) hx0 hx1 Hes.out).mono ?_
  rintro _ w6 ⟨rfl, x6⟩
  have y6 : Ext w w6 := y5.trans x6
  go_wp2_with fail
  refine (pEval_as p x em vm m w6 Hp.out (M4.out.ext (z35.trans x6)) M5.out (by omega) hx0 hx1 Hem.out).mono ?_
  rintro _ w7 ⟨rfl, x7⟩
  have y7 : Ext w w7 := y6.trans x7
  go_wp2_with fail
  refine (add_as p eu ev es w7 Hp.out ru.1 ru.2 rv.1 rv.2 H1.out).mono ?_
  rintro _ w8 ⟨rfl, x8⟩
  have y8 : Ext w w8 := y7.trans x8
  go_wp2_with fail
  refine (mul_as p eu ev em w8 Hp.out ru.1 ru.2 rv.1 rv.2 H2.out).mono ?_
  rintro _ w9 ⟨rfl, x9⟩
  have y9 : Ext w w9 := y8.trans x9
  go_wp2_with fail
  refine (sub_as p 0 x ng w9 Hp.out (by omega) (by omega) hx0 hx1 Hng.out).mono ?_
  rintro _ w10 ⟨rfl, x10⟩
  have y10 : Ext w w10 := y9.trans x10
  have y11 : Ext w (w10.alloc (.cells #[.int .u64 ng, .int .u64 1] 22)) := y10.alloc _
  have cD := hid (pDiv_yes p _ (.slice (some ⟨w10.heap.size, 0, none⟩) 2 2) xs [ng, 1] (w10.alloc (.cells #[.int .u64 ng, .int .u64 1] 22)) Hp.out (Hv.out.ext y11) Ints.new2 HX.out Lp.out (by simp; omega) (by simp) Lu.out)
  go_wp2_with fail
  refine cD.out.mono ?_
  rintro _ w11 ⟨vq, vr, q, r, rfl, d1, d2, d3, d4, d5, d6, d7, x11, _, _⟩
  have hrest := rest_at hp2.1 x (pol_poly q) d4 (by simpa using d6) (by rw [Hng.out]; exact d5)
  rw [Heu.out] at hrest
  have D2 := hid d2
  obtain ⟨ar, cr, rfl, n1, n2, n3⟩ := d2
  have N3 := hid n3
  have hfin : Ext w w11 := y11.trans x11
  clear d1 d3 d4 d5 d6 d7 n3 cD
  by_cases hu0 : eu = 0
  · have hr := hrest.1 hu0
    subst hr
    subst hu0
    clear hrest
    go_wp2_with fail
    go_ret
    exact ⟨rfl, hfin⟩
  · have hr := hrest.2 hu0
    subst hr
    obtain ⟨b, off, rfl, hb, hc⟩ := N3.out (by simp)
    have c0 := hc 0 (by simp)
    rw [Nat.add_zero] at c0
    have b0 : (eu == 0) = false := by rw [beq_eq_false_iff_ne]; exact hu0
    clear hrest hu0 hc
    go_wp2_with fail
    go_ret
    exact ⟨rfl, hfin⟩

theorem walk (p : Int) (v : Value) (xs : List Int) (u : Value) (ys : List Int) (x : Int) (w : World) (hp : (Lit.int .u64 p).wf = true) (hv : Ints .u64 w v xs) (hx : ∀ x ∈ xs, (Lit.int .u64 x).wf = true) (hu : Ints .u64 w u ys) (hy : ∀ x ∈ ys, (Lit.int .u64 x).wf = true) (hx' : (Lit.int .u64 x).wf = true) :
    Calls Try.prog 5 #[.int .u64 p, v, u, .int .u64 x] w (Ret (.bool true) w) := by
  have hp := u64_wf hp
  have hx2 := u64_wf hx'
  have hx : U64s xs := fun x h => u64_wf (hx x h)
  have hy : U64s ys := fun x h => u64_wf (hy x h)
  by_cases h : xs.length ≤ 100 ∧ ys.length ≤ 100 ∧ rightPB p xs = true ∧ rightPB p ys = true ∧ x < p
  · obtain ⟨g1, g2, g4, g5, g6⟩ := h
    obtain ⟨r1, r2, _⟩ := (rightPB_iff hx).1 g4
    obtain ⟨_, r3, _⟩ := (rightPB_iff hy).1 g5
    exact walk_yes p x v u xs ys w hv hu g1 g2 r1 r2 r3 hx2.1 g6
  · exact walk_no p x v u xs ys w hp.1 hp.2 hv hu hx hy h

theorem own : ownKnob Try.prog.godebug = none := by kernel_rfl
set_option maxRecDepth 100000 in
theorem lifted (os : Os) (started : os.Started) (H : Type) (enc : TypeId × Value → H) :
    ReturnsInHanded {} Try.checked os 5 .any (Rows.polyPlacesSpec.pre6 enc Try.prog Try.f5 Rows.polyPlacesRow.domain false) (Rows.polyPlacesSpec.post enc Try.prog Try.f5 false true false false) := by
  refine returnsInHanded_of_change (C := Try.checked) own started (by kernel_rfl) Try.func5
    (ChangeSpec.witness6 (enc := enc) (C := Try.checked) false ⟨#[], #[.int .u64 0, .slice none 0 0, .slice none 0 0, .int .u64 0], []⟩ 8 (by kernel_rfl) (by kernel_rfl) (by kernel_rfl) (by kernel_rfl)) ?_
  intro W base args ds gs before hval0 hW _ _
  have hval : ∀ (j : Nat) t v, Try.f5.params[j]? = some t → args[j]? = some v → Value.okWide Try.prog W .any base t v := hval0
  have hW' := hW
  obtain ⟨p, q, hA0, hV, rfl, _, _⟩ := hW
  have hA : DataW.TrodAll enc Try.prog W 0 (fun _ => true) true Try.f5.params.toList args.toList ds p := hA0
  rw [Try.params5] at hA hval
  obtain ⟨v0, vs0, d0, ds0, p0, q0, hargs, rfl, rfl, h0, r0⟩ := trodAll_cons hA
  obtain ⟨v1, vs1, d1, ds1, p1, q1, rfl, rfl, rfl, h1, r1⟩ := trodAll_cons r0
  obtain ⟨v2, vs2, d2, ds2, p2, q2, rfl, rfl, rfl, h2, r2⟩ := trodAll_cons r1
  obtain ⟨v3, vs3, d3, ds3, p3, q3, rfl, rfl, rfl, h3, r3⟩ := trodAll_cons r2
  obtain ⟨rfl, rfl, rfl⟩ := trodAll_nil r3
  obtain rfl : args = #[v0, v1, v2, v3] := by cases args; simp_all
  obtain ⟨rfl, rfl⟩ := trodVars_none hV
  obtain ⟨a0, rfl, rfl, rfl, w0⟩ := open_int Try.underlying22 (hval 0 22 v0 rfl rfl) h0
  obtain ⟨xs1, i1, w1⟩ := open_Ints Try.underlying23 Try.underlying22 (by kernel_rfl) (hval 1 23 v1 rfl rfl) h1
  obtain ⟨xs2, i2, w2⟩ := open_Ints Try.underlying23 Try.underlying22 (by kernel_rfl) (hval 2 23 v2 rfl rfl) h2
  obtain ⟨a3, rfl, rfl, rfl, w3⟩ := open_int Try.underlying22 (hval 3 22 v3 rfl rfl) h3
  refine (walk a0 v1 xs1 v2 xs2 a3 W w0 i1 w1 i2 w2 w3).mono fun e W' ⟨he, hg⟩ => ⟨_, he, ?_⟩
  exact law_post (by kernel_rfl) (by kernel_rfl) rfl Try.underlying4 rfl rfl hW' hg

/-- the statement -/
theorem proved : Rows.PolyPlacesSaid :=
  OpenClaim.holds_of_wide 5 Try.f5 rfl rfl rfl rfl rfl rfl rfl ⟨rfl, rfl, rfl, rfl, rfl⟩ rfl rfl rfl rfl rfl (by kernel_rfl) Try.func5 (by kernel_rfl)
    (of_decide_eq_true (by kernel_rfl)) (by unfold Func.isWrapper; first | (rw [if_pos (by decide +kernel)]; kernel_rfl) | (rw [if_neg (by decide +kernel)]; exact ⟨rfl, rfl⟩))
    (fun os started H enc _ => lifted os started H enc)
end Go.Proofs.Ytgeinhlhhlmciaa.polyPlaces
