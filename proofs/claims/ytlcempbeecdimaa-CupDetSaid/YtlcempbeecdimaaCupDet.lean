/- CupDet: whatever the number and the matrix, the law answers true, and nothing that was there has turned. No condition. -/
import Derived.Test.YtlcempbeecdimaaCupB4
import Derived.Test.YtlcempbeecdimaaOpenMat
namespace Go.Proofs.Ytlcempbeecdimaa.cupDet
open Go.ChangeShapes Go.WideShapes Go.ChangeAt Go.RowKit Go.Maps

set_option maxRecDepth 100000 in
set_option maxHeartbeats 2000000 in
theorem walk0 (p r c : Int) (v : Value) (xs : List Int) (w : World) (h0 : 0 ≤ p) (h1 : p ≤ 18446744073709551615) (hv : Ints .u64 w v xs) (hx : U64s xs) :
    Calls Try.prog 3 #[.int .u64 p, matV r c v] w (Ret (.bool true) w) := by
  have C1 := hid fun (W : World) => prime_any p W h0
  obtain ⟨T, hT⟩ : ∃ B, takenB p = B := ⟨_, rfl⟩
  rw [hT] at C1
  have C2 := hid fun (hf : T = true) (W : World) (hW : Ext w W) => cmDet p r c v xs W h0 h1 (hv.ext hW) hx fun _ => taken_fld (hT.trans hf)
  have C3 := hid fun (W : World) (hW : Ext w W) => mxRight p r c v xs W h0 h1 (hv.ext hW) hx
  have C4 := hid fun (h : (matB p r c xs && decide (r = c)) = true) (W : World) (hW : Ext w W) => (show Calls Try.prog 12 #[.int .u64 p, matV r c v] W (Ret (.int .u64 (detV p r c xs)) W) from by
    have h2 := h
    rw [Bool.and_eq_true, decide_eq_true_eq] at h2
    obtain ⟨h3, rfl⟩ := h2
    obtain ⟨m, n, e1, e2, ok⟩ := MatOk.of hx h3
    obtain rfl : m = n := by omega
    subst e1
    unfold detV
    rw [if_pos h, Int.toNat_natCast]
    exact r7Det p ok.hp m ok.hm.1 ok.hm.2 v xs W (hv.ext hW) ok.hx ok.hl)
  obtain ⟨M, hM⟩ : ∃ B, matB p r c xs = B := ⟨_, rfl⟩
  obtain ⟨Q, hQ⟩ : ∃ B, (r == c) = B := ⟨_, rfl⟩
  have hd : decide (r = c) = Q := by rw [← hQ]; rfl
  have hq : (r != c) = !Q := by rw [← hQ]; rfl
  have hV : detErr p r c xs = (if (M && Q) = true then 0 else 1) := by unfold detErr; rw [hM, hd]
  have hV0 : (M && Q) = false → detV p r c xs = 0 := fun h => by unfold detV; rw [hM, hd, h]; rfl
  rw [hM] at C3
  rw [hM, hd] at C4
  obtain ⟨E, hE⟩ : ∃ E, detErr p r c xs = E := ⟨_, rfl⟩
  obtain ⟨D, hD⟩ : ∃ D, detV p r c xs = D := ⟨_, rfl⟩
  rw [hD] at C4 hV0; rw [hE] at hV; rw [hE, hD] at C2
  obtain ⟨S, hS⟩ : ∃ B, decide (25 < (xs.length : Int)) = B := ⟨_, rfl⟩
  have HV := hid hV; have HV0 := hid hV0; have Hq := hid hq; have HS := hid hS
  clear hT hM hQ hd hq hV hV0 hE hD hS hx
  obtain ⟨a, cap, rfl, k1, k2, k3⟩ := hv
  clear k3
  have HA := hid (Blk.new w 25 #[.int .i64 r, .int .i64 c, .slice a xs.length cap])
  have hW0 := hid ((Ext.refl w).alloc (.cells #[.int .i64 r, .int .i64 c, .slice a xs.length cap] 25))
  unfold matV at C2 C3 C4
  unfold matV
  have hs := HS.out
  cases S with
  | true =>
    as_aux_lemma =>
      go_enter Try.func3, Try.ntmps3
      go_wp2_with fail
      refine (awake07 _).mono ?_
      rintro _ w1 ⟨rfl, x1⟩
      obtain ⟨a0, a1, a2⟩ := (HA.out.ext x1).at3
      go_wp2_with fail
      go_ret
      exact ⟨rfl, hW0.out.trans x1⟩
  | false =>
    cases T with
    | false =>
      as_aux_lemma =>
        go_enter Try.func3, Try.ntmps3
        go_wp2_with fail
        refine (awake07 _).mono ?_
        rintro _ w1 ⟨rfl, x1⟩
        obtain ⟨a0, a1, a2⟩ := (HA.out.ext x1).at3
        go_wp2_with fail
        refine (C1.out _).mono ?_
        rintro _ _ ⟨rfl, rfl⟩
        go_wp2_with fail
        go_ret
        exact ⟨rfl, hW0.out.trans x1⟩
    | true =>
      have hq := Hq.out
      cases M with
      | false =>
        have hv := HV.out
        have hd := HV0.out rfl
        simp only [Bool.false_and, Bool.false_eq_true, if_false] at hv
        subst hv; subst hd
        as_aux_lemma =>
          go_enter Try.func3, Try.ntmps3
          go_wp2_with fail
          refine (awake07 _).mono ?_
          rintro _ w1 ⟨rfl, x1⟩
          obtain ⟨a0, a1, a2⟩ := (HA.out.ext x1).at3
          go_wp2_with fail
          refine (C1.out _).mono ?_
          rintro _ _ ⟨rfl, rfl⟩
          go_wp2_with fail
          refine (C2.out (by trivial) _ (hW0.out.trans x1)).mono ?_
          rintro _ w2 ⟨rfl, x2⟩
          obtain ⟨c0, c1, c2⟩ := (HA.out.ext (x1.trans x2)).at3
          go_wp2_with fail
          refine (C3.out _ (hW0.out.trans (x1.trans x2))).mono ?_
          rintro _ w3 ⟨rfl, x3⟩
          go_wp2_with fail
          go_ret
          exact ⟨rfl, hW0.out.trans (x1.trans (x2.trans x3))⟩
      | true =>
        cases Q with
        | false =>
          have hv := HV.out
          have hd := HV0.out rfl
          simp only [Bool.and_false, Bool.false_eq_true, if_false] at hv
          subst hv; subst hd
          as_aux_lemma =>
            go_enter Try.func3, Try.ntmps3
            go_wp2_with fail
            refine (awake07 _).mono ?_
            rintro _ w1 ⟨rfl, x1⟩
            obtain ⟨a0, a1, a2⟩ := (HA.out.ext x1).at3
            go_wp2_with fail
            refine (C1.out _).mono ?_
            rintro _ _ ⟨rfl, rfl⟩
            go_wp2_with fail
            refine (C2.out (by trivial) _ (hW0.out.trans x1)).mono ?_
            rintro _ w2 ⟨rfl, x2⟩
            obtain ⟨c0, c1, c2⟩ := (HA.out.ext (x1.trans x2)).at3
            go_wp2_with fail
            refine (C3.out _ (hW0.out.trans (x1.trans x2))).mono ?_
            rintro _ w3 ⟨rfl, x3⟩
            obtain ⟨d0, d1, d2⟩ := (HA.out.ext (x1.trans (x2.trans x3))).at3
            go_wp2_with fail
            go_ret
            exact ⟨rfl, hW0.out.trans (x1.trans (x2.trans x3))⟩
        | true =>
          have hv := HV.out
          simp only [Bool.and_self, if_true] at hv
          subst hv
          have C5 := hid (C4.out (by trivial))
          as_aux_lemma =>
            go_enter Try.func3, Try.ntmps3
            go_wp2_with fail
            refine (awake07 _).mono ?_
            rintro _ w1 ⟨rfl, x1⟩
            obtain ⟨a0, a1, a2⟩ := (HA.out.ext x1).at3
            go_wp2_with fail
            refine (C1.out _).mono ?_
            rintro _ _ ⟨rfl, rfl⟩
            go_wp2_with fail
            refine (C2.out (by trivial) _ (hW0.out.trans x1)).mono ?_
            rintro _ w2 ⟨rfl, x2⟩
            obtain ⟨c0, c1, c2⟩ := (HA.out.ext (x1.trans x2)).at3
            go_wp2_with fail
            refine (C3.out _ (hW0.out.trans (x1.trans x2))).mono ?_
            rintro _ w3 ⟨rfl, x3⟩
            obtain ⟨d0, d1, d2⟩ := (HA.out.ext (x1.trans (x2.trans x3))).at3
            go_wp2_with fail
            refine (C5.out _ (hW0.out.trans (x1.trans (x2.trans x3)))).mono ?_
            rintro _ w4 ⟨rfl, x4⟩
            go_wp2_with fail
            go_ret
            exact ⟨rfl, hW0.out.trans (x1.trans (x2.trans (x3.trans x4)))⟩

/-- the law answers true -/
theorem walk (p r c : Int) (v : Value) (xs : List Int) (w : World) (hp : (Lit.int .u64 p).wf = true) (_ : (Lit.int .i64 r).wf = true) (_ : (Lit.int .i64 c).wf = true) (hv : Ints .u64 w v xs) (hx : ∀ x ∈ xs, (Lit.int .u64 x).wf = true) :
    Calls Try.prog 3 #[.int .u64 p, .agg #[.int .i64 r, .int .i64 c, v]] w (Ret (.bool true) w) :=
  walk0 p r c v xs w (u64_wf hp).1 (u64_wf hp).2 hv fun x h => u64_wf (hx x h)

theorem own : ownKnob Try.prog.godebug = none := by kernel_rfl
set_option maxRecDepth 100000 in
theorem lifted (os : Os) (started : os.Started) (H : Type) (enc : TypeId × Value → H) :
    ReturnsInHanded {} Try.checked os 3 .any (Rows.cupDetSpec.pre6 enc Try.prog Try.f3 Rows.cupDetRow.domain false) (Rows.cupDetSpec.post enc Try.prog Try.f3 false true false false) := by
  refine returnsInHanded_of_change (C := Try.checked) own started (by kernel_rfl) Try.func3
    (ChangeSpec.witness6 (enc := enc) (C := Try.checked) false ⟨#[], #[.int .u64 0, .agg #[.int .i64 0, .int .i64 0, .slice none 0 0]], []⟩ 8 (by kernel_rfl) (by kernel_rfl) (by kernel_rfl) (by kernel_rfl)) ?_
  intro W base args ds gs before hval0 hW _ _
  have hval : ∀ (j : Nat) t v, Try.f3.params[j]? = some t → args[j]? = some v → Value.okWide Try.prog W .any base t v := hval0
  have hW' := hW
  obtain ⟨p, q, hA0, hV, rfl, _, _⟩ := hW
  have hA : DataW.TrodAll enc Try.prog W 0 (fun _ => true) true Try.f3.params.toList args.toList ds p := hA0
  rw [Try.params3] at hA hval
  obtain ⟨v0, vs0, d0, ds0, p0, q0, hargs, rfl, rfl, h0, r0⟩ := trodAll_cons hA
  obtain ⟨v1, vs1, d1, ds1, p1, q1, rfl, rfl, rfl, h1, r1⟩ := trodAll_cons r0
  obtain ⟨rfl, rfl, rfl⟩ := trodAll_nil r1
  obtain rfl : args = #[v0, v1] := by cases args; simp_all
  obtain ⟨rfl, rfl⟩ := trodVars_none hV
  obtain ⟨a0, rfl, rfl, rfl, w0⟩ := open_int Try.underlying22 (hval 0 22 v0 rfl rfl) h0
  obtain ⟨mr1, mc1, mu1, xs1, rfl, wr1, wc1, i1, w1⟩ := open_Mat (hval 1 25 v1 rfl rfl) h1
  refine (walk a0 mr1 mc1 mu1 xs1 W w0 wr1 wc1 i1 w1).mono fun e W' ⟨he, hg⟩ => ⟨_, he, ?_⟩
  exact law_post (by kernel_rfl) (by kernel_rfl) rfl Try.underlying4 rfl rfl hW' hg

/-- the statement -/
theorem proved : Rows.CupDetSaid :=
  OpenClaim.holds_of_wide 3 Try.f3 rfl rfl rfl rfl rfl rfl rfl ⟨rfl, rfl, rfl, rfl, rfl⟩ rfl rfl rfl rfl rfl (by kernel_rfl) Try.func3 (by kernel_rfl)
    (of_decide_eq_true (by kernel_rfl)) (by unfold Func.isWrapper; first | (rw [if_pos (by decide +kernel)]; kernel_rfl) | (rw [if_neg (by decide +kernel)]; exact ⟨rfl, rfl⟩))
    (fun os started H enc _ => lifted os started H enc)
end Go.Proofs.Ytlcempbeecdimaa.cupDet
