/- PolyDivides: whatever the number and the lists, the law answers true, and nothing that was there has turned. No condition. -/
import Derived.Test.YtgeinhlhhlmciaaAwake03
namespace Go.Proofs.Ytgeinhlhhlmciaa.polyDivides
open Go.ChangeShapes Go.WideShapes Go.ChangeAt Go.RowKit

set_option maxRecDepth 100000 in
set_option maxHeartbeats 2000000 in
theorem walk_no (p : Int) (v u : Value) (xs ys : List Int) (w : World) (h0 : 0 ≤ p) (h1 : p ≤ 18446744073709551615) (hv : Ints .u64 w v xs) (hu : Ints .u64 w u ys) (hx : U64s xs) (hy : U64s ys)
    (h : ¬ (xs.length ≤ 100 ∧ ys.length ≤ 100 ∧ takenB p = true ∧ rightPB p xs = true ∧ rightPB p ys = true)) : Calls Try.prog 3 #[.int .u64 p, v, u] w (Ret (.bool true) w) := by
  have cP : ∀ W, Calls Try.prog 10 #[.int .u64 p] W fun e w' => e = .returned (.bool (takenB p)) ∧ W = w' := fun W => prime_any p W h0
  have cX : ∀ W, Ext w W → Calls Try.prog 11 #[.int .u64 p, v] W fun e w' => e = .returned (.bool (rightPB p xs)) ∧ W = w' := fun W hW => polRight_any p v xs W h0 h1 (hv.ext hW) hx
  have cY : ∀ W, Ext w W → Calls Try.prog 11 #[.int .u64 p, u] W fun e w' => e = .returned (.bool (rightPB p ys)) ∧ W = w' := fun W hW => polRight_any p u ys W h0 h1 (hu.ext hW) hy
  obtain ⟨T, hT⟩ : ∃ T, takenB p = T := ⟨_, rfl⟩
  obtain ⟨X, hX⟩ : ∃ X, rightPB p xs = X := ⟨_, rfl⟩
  obtain ⟨Y, hY⟩ : ∃ Y, rightPB p ys = Y := ⟨_, rfl⟩
  rw [hT] at cP h; rw [hX] at cX h; rw [hY] at cY h
  obtain ⟨a, cap, rfl, k1, k2, k3⟩ := hv
  obtain ⟨a', cap', rfl, m1, m2, m3⟩ := hu
  have CP := hid cP; have CX := hid cX; have CY := hid cY
  clear cP cX cY k3 m3 hT hX hY hx hy
  by_cases g1 : xs.length ≤ 100
  · by_cases g2 : ys.length ≤ 100
    · cases T with
      | false =>
        clear h
        go_enter Try.func3, Try.ntmps3
        go_wp2_with (first | (go_at_call 9; refine (awake03 w).mono ?_; rintro _ w1 ⟨rfl, x1⟩) | (go_at_call 10; refine (CP.out w1).mono ?_; rintro _ _ ⟨rfl, rfl⟩))
        go_ret
        exact ⟨rfl, (by repeat (first | exact Ext.refl _ | assumption | refine Ext.drew ?_ | refine Ext.drewN ?_ _ | refine Ext.alloc ?_ _ | refine Ext.trans ?_ (by assumption)))⟩
      | true =>
        cases X with
        | false =>
          clear h
          go_enter Try.func3, Try.ntmps3
          go_wp2_with (first | (go_at_call 9; refine (awake03 w).mono ?_; rintro _ w1 ⟨rfl, x1⟩) | (go_at_call 10; refine (CP.out w1).mono ?_; rintro _ _ ⟨rfl, rfl⟩) | (go_at_call_of 11 a; refine (CX.out w1 x1).mono ?_; rintro _ _ ⟨rfl, rfl⟩))
          go_ret
          exact ⟨rfl, (by repeat (first | exact Ext.refl _ | assumption | refine Ext.drew ?_ | refine Ext.drewN ?_ _ | refine Ext.alloc ?_ _ | refine Ext.trans ?_ (by assumption)))⟩
        | true =>
          cases Y with
          | false =>
            clear h
            go_enter Try.func3, Try.ntmps3
            go_wp2_with (first | (go_at_call 9; refine (awake03 w).mono ?_; rintro _ w1 ⟨rfl, x1⟩) | (go_at_call 10; refine (CP.out w1).mono ?_; rintro _ _ ⟨rfl, rfl⟩) | (go_at_call_of 11 a; refine (CX.out w1 x1).mono ?_; rintro _ _ ⟨rfl, rfl⟩) | (go_at_call_of 11 a'; refine (CY.out w1 x1).mono ?_; rintro _ _ ⟨rfl, rfl⟩))
            go_ret
            exact ⟨rfl, (by repeat (first | exact Ext.refl _ | assumption | refine Ext.drew ?_ | refine Ext.drewN ?_ _ | refine Ext.alloc ?_ _ | refine Ext.trans ?_ (by assumption)))⟩
          | true => exact absurd ⟨g1, g2, rfl, rfl, rfl⟩ h
    · clear h
      go_enter Try.func3, Try.ntmps3
      go_wp2_with (go_at_call 9; refine (awake03 w).mono ?_; rintro _ w1 ⟨rfl, x1⟩)
      go_ret
      exact ⟨rfl, (by repeat (first | exact Ext.refl _ | assumption | refine Ext.drew ?_ | refine Ext.drewN ?_ _ | refine Ext.alloc ?_ _ | refine Ext.trans ?_ (by assumption)))⟩
  · clear h
    go_enter Try.func3, Try.ntmps3
    go_wp2_with (go_at_call 9; refine (awake03 w).mono ?_; rintro _ w1 ⟨rfl, x1⟩)
    go_ret
    exact ⟨rfl, (by repeat (first | exact Ext.refl _ | assumption | refine Ext.drew ?_ | refine Ext.drewN ?_ _ | refine Ext.alloc ?_ _ | refine Ext.trans ?_ (by assumption)))⟩

set_option maxRecDepth 100000 in
set_option maxHeartbeats 2000000 in
theorem walk_yes (p : Int) (v u : Value) (xs ys : List Int) (w : World) (hv : Ints .u64 w v xs) (hu : Ints .u64 w u ys)
    (g1 : xs.length ≤ 100) (g2 : ys.length ≤ 100) (hT : takenB p = true) (hp : rightB p = true) (hX : Pol p xs) (hY : Pol p ys) : Calls Try.prog 3 #[.int .u64 p, v, u] w (Ret (.bool true) w) := by
  have hp2 := rightB_true hp
  have HF := hid (taken_fld hT)
  have cP : ∀ W, Calls Try.prog 10 #[.int .u64 p] W fun e w' => e = .returned (.bool true) ∧ W = w' := fun W => by
    have := prime_any p W (by omega)
    rwa [hT] at this
  have cX : ∀ W, Ext w W → Calls Try.prog 11 #[.int .u64 p, v] W fun e w' => e = .returned (.bool true) ∧ W = w' := fun W hW => polRight_yes p v xs W hp (hv.ext hW) hX (by omega)
  have cY : ∀ W, Ext w W → Calls Try.prog 11 #[.int .u64 p, u] W fun e w' => e = .returned (.bool true) ∧ W = w' := fun W hW => polRight_yes p u ys W hp (hu.ext hW) hY (by omega)
  have CP := hid cP; have CX := hid cX; have CY := hid cY
  have Hv := hid hv; have Hu := hid hu; have HX := hid hX; have HY := hid hY; have Hp := hid hp
  obtain ⟨a, cap, rfl, k1, k2, k3⟩ := hv
  obtain ⟨a', cap', rfl, m1, m2, m3⟩ := hu
  clear k3 m3 hX hY hp cP cX cY hT
  by_cases hy0 : ys.length = 0
  · have e := List.eq_nil_of_length_eq_zero hy0
    subst e
    go_enter Try.func3, Try.ntmps3
    go_wp2_with (first | (go_at_call 9; refine (awake03 w).mono ?_; rintro _ w1 ⟨rfl, x1⟩) | (go_at_call 10; refine (CP.out w1).mono ?_; rintro _ _ ⟨rfl, rfl⟩) | (go_at_call_of 11 a; refine (CX.out w1 x1).mono ?_; rintro _ _ ⟨rfl, rfl⟩) | (go_at_call_of 11 a'; refine (CY.out w1 x1).mono ?_; rintro _ _ ⟨rfl, rfl⟩) | (go_at_call 12; refine (pDiv_zero p _ _ xs w1 Hp.out (Hv.out.ext x1) (Hu.out.ext x1) HX.out (by omega)).mono ?_; rintro _ w2 ⟨rfl, x2⟩))
    go_ret
    exact ⟨rfl, (by repeat (first | exact Ext.refl _ | assumption | refine Ext.drew ?_ | refine Ext.drewN ?_ _ | refine Ext.alloc ?_ _ | refine Ext.trans ?_ (by assumption)))⟩
  · have hne : Hid (ys ≠ []) := hid (fun e => hy0 (by rw [e]; rfl))
    have b1 : ((ys.length : Int) == 0) = false := by rw [beq_eq_false_iff_ne]; omega
    go_enter Try.func3, Try.ntmps3
    go_wp2_with (first | (go_at_call 9; refine (awake03 w).mono ?_; rintro _ w1 ⟨rfl, x1⟩) | (go_at_call 10; refine (CP.out w1).mono ?_; rintro _ _ ⟨rfl, rfl⟩) | (go_at_call_of 11 a; refine (CX.out w1 x1).mono ?_; rintro _ _ ⟨rfl, rfl⟩) | (go_at_call_of 11 a'; refine (CY.out w1 x1).mono ?_; rintro _ _ ⟨rfl, rfl⟩) | fail)
    refine (pDiv_yes p _ _ xs ys w1 Hp.out (Hv.out.ext x1) (Hu.out.ext x1) HX.out HY.out (by omega) hne.out (HF.out.unit_lead HY.out hne.out)).mono ?_
    rintro _ w2 ⟨vq, vr, q, r, rfl, d1, d2, d3, d4, d5, d6, d7, x2, _, _⟩
    have hlq : q.length ≤ 101 := by omega
    have hpos : 0 < ys.length := by omega
    have hlm : (pol p q * pol p ys).low 512 := ((pol_low q).mul (pol_low ys)).mono (by omega)
    have D1 := hid d1; have D2 := hid d2; have D3 := hid d3; have D4 := hid d4; have D5 := hid d5; have Hlm := hid hlm
    obtain ⟨ar, cr, rfl, n1, n2, n3⟩ := d2
    have cQ := hid (fun W (hW : Ext w2 W) => polRight_yes p vq q W Hp.out (D1.out.ext hW) D3.out (by omega))
    have cR := hid (fun W (hW : Ext w2 W) => polRight_yes p (.slice ar r.length cr) r W Hp.out (D2.out.ext hW) D4.out (by omega))
    clear d1 d3 d4 d5 hlm n3
    go_wp2_with fail
    refine (pMul_yes p vq _ q ys w2 Hp.out D1.out (Hu.out.ext (x1.trans x2)) D3.out HY.out (by omega) Hlm.out).mono ?_
    rintro _ w3 ⟨vm, m, rfl, m4, m5, m6, x3⟩
    have hml := m5.len_le (m6 ▸ Hlm.out)
    have M4 := hid m4; have M5 := hid m5; have M6 := hid m6
    clear m4 m5 m6
    go_wp2_with fail
    refine (pAdd_yes p vm _ m r w3 Hp.out M4.out (D2.out.ext x3) M5.out D4.out (by omega)).mono ?_
    rintro _ w4 ⟨vs, s, rfl, s4, s5, s6, x4⟩
    have hs : s = xs := s5.inj HX.out (by rw [s6, M6.out, ← D5.out])
    subst hs
    have S4 := hid s4
    clear s4 s5 s6
    go_wp2_with fail
    refine (same_yes vs _ s w4 S4.out (Hv.out.ext (x1.trans (x2.trans (x3.trans x4))))).mono ?_
    rintro _ w5 ⟨rfl, x5⟩
    have x25 : Ext w2 w5 := x3.trans (x4.trans x5)
    go_wp2_with (first | (go_at_call_of 11 vq; refine (cQ.out _ x25).mono ?_; rintro _ _ ⟨rfl, rfl⟩) | (go_at_call_of 11 ar; refine (cR.out _ x25).mono ?_; rintro _ _ ⟨rfl, rfl⟩))
    go_ret
    exact ⟨rfl, x1.trans (x2.trans x25)⟩

theorem walk (p : Int) (v : Value) (xs : List Int) (u : Value) (ys : List Int) (w : World) (hp : (Lit.int .u64 p).wf = true) (hv : Ints .u64 w v xs) (hx : ∀ x ∈ xs, (Lit.int .u64 x).wf = true) (hu : Ints .u64 w u ys) (hy : ∀ x ∈ ys, (Lit.int .u64 x).wf = true) :
    Calls Try.prog 3 #[.int .u64 p, v, u] w (Ret (.bool true) w) := by
  have hp := u64_wf hp
  have hx : U64s xs := fun x h => u64_wf (hx x h)
  have hy : U64s ys := fun x h => u64_wf (hy x h)
  by_cases h : xs.length ≤ 100 ∧ ys.length ≤ 100 ∧ takenB p = true ∧ rightPB p xs = true ∧ rightPB p ys = true
  · obtain ⟨g1, g2, g3, g4, g5⟩ := h
    obtain ⟨r1, r2, _⟩ := (rightPB_iff hx).1 g4
    obtain ⟨_, r3, _⟩ := (rightPB_iff hy).1 g5
    exact walk_yes p v u xs ys w hv hu g1 g2 g3 r1 r2 r3
  · exact walk_no p v u xs ys w hp.1 hp.2 hv hu hx hy h

theorem own : ownKnob Try.prog.godebug = none := by kernel_rfl
set_option maxRecDepth 100000 in
theorem lifted (os : Os) (started : os.Started) (H : Type) (enc : TypeId × Value → H) :
    ReturnsInHanded {} Try.checked os 3 .any (Rows.polyDividesSpec.pre6 enc Try.prog Try.f3 Rows.polyDividesRow.domain false) (Rows.polyDividesSpec.post enc Try.prog Try.f3 false true false false) := by
  refine returnsInHanded_of_change (C := Try.checked) own started (by kernel_rfl) Try.func3
    (ChangeSpec.witness6 (enc := enc) (C := Try.checked) false ⟨#[], #[.int .u64 0, .slice none 0 0, .slice none 0 0], []⟩ 8 (by kernel_rfl) (by kernel_rfl) (by kernel_rfl) (by kernel_rfl)) ?_
  intro W base args ds gs before hval0 hW _ _
  have hval : ∀ (j : Nat) t v, Try.f3.params[j]? = some t → args[j]? = some v → Value.okWide Try.prog W .any base t v := hval0
  have hW' := hW
  obtain ⟨p, q, hA0, hV, rfl, _, _⟩ := hW
  have hA : DataW.TrodAll enc Try.prog W 0 (fun _ => true) true Try.f3.params.toList args.toList ds p := hA0
  rw [Try.params3] at hA hval
  obtain ⟨v0, vs0, d0, ds0, p0, q0, hargs, rfl, rfl, h0, r0⟩ := trodAll_cons hA
  obtain ⟨v1, vs1, d1, ds1, p1, q1, rfl, rfl, rfl, h1, r1⟩ := trodAll_cons r0
  obtain ⟨v2, vs2, d2, ds2, p2, q2, rfl, rfl, rfl, h2, r2⟩ := trodAll_cons r1
  obtain ⟨rfl, rfl, rfl⟩ := trodAll_nil r2
  obtain rfl : args = #[v0, v1, v2] := by cases args; simp_all
  obtain ⟨rfl, rfl⟩ := trodVars_none hV
  obtain ⟨a0, rfl, rfl, rfl, w0⟩ := open_int Try.underlying22 (hval 0 22 v0 rfl rfl) h0
  obtain ⟨xs1, i1, w1⟩ := open_Ints Try.underlying23 Try.underlying22 (by kernel_rfl) (hval 1 23 v1 rfl rfl) h1
  obtain ⟨xs2, i2, w2⟩ := open_Ints Try.underlying23 Try.underlying22 (by kernel_rfl) (hval 2 23 v2 rfl rfl) h2
  refine (walk a0 v1 xs1 v2 xs2 W w0 i1 w1 i2 w2).mono fun e W' ⟨he, hg⟩ => ⟨_, he, ?_⟩
  exact law_post (by kernel_rfl) (by kernel_rfl) rfl Try.underlying4 rfl rfl hW' hg

/-- the statement -/
theorem proved : Rows.PolyDividesSaid :=
  OpenClaim.holds_of_wide 3 Try.f3 rfl rfl rfl rfl rfl rfl rfl ⟨rfl, rfl, rfl, rfl, rfl⟩ rfl rfl rfl rfl rfl (by kernel_rfl) Try.func3 (by kernel_rfl)
    (of_decide_eq_true (by kernel_rfl)) (by unfold Func.isWrapper; first | (rw [if_pos (by decide +kernel)]; kernel_rfl) | (rw [if_neg (by decide +kernel)]; exact ⟨rfl, rfl⟩))
    (fun os started H enc _ => lifted os started H enc)
end Go.Proofs.Ytgeinhlhhlmciaa.polyDivides
