/- MatrixRight: whatever the number, the matrices, the vector, the thin matrix and the side, the law answers true, and nothing that was there has turned. No condition. -/
import Derived.Test.YtlociefncogjeaaMatRFF
import Derived.Test.YtlociefncogjeaaMatRFT
import Derived.Test.YtlociefncogjeaaMatRTF
import Derived.Test.YtlociefncogjeaaMatRTT
namespace Go.Proofs.Ytlociefncogjeaa.matrixRight
open Go.ChangeShapes Go.WideShapes Go.ChangeAt Go.RowKit Go.Maps

set_option maxRecDepth 100000 in
set_option maxHeartbeats 4000000 in
theorem walk_skip (p r c r' c' r2 c2 n : Int) (v u vz vb vc vv : Value) (xs ys zs bs cs vs : List Int) (w : World) (_ : 0 ≤ p) (_ : p ≤ 18446744073709551615) (hv : Ints .u64 w v xs) (_ : U64s xs) (hu : Ints .u64 w u ys) (_ : U64s ys) (hz : Ints .u64 w vz zs) (_ : U64s zs) (hb : Ints .i64 w vb bs) (hc : Ints .i64 w vc cs) (hvv : Ints .u64 w vv vs) (_ : U64s vs)
    (h : (decide (xs.length ≤ 150) && decide (ys.length ≤ 150) && decide (zs.length ≤ 70) && decide (vs.length ≤ 150) && decide (cs.length ≤ 150) && decide (bs.length ≤ 70)) = false) :
    Calls Try.prog 3 #[.int .u64 p, matV r c v, matV r' c' u, vz, spV r2 c2 vb vc vv, .int .i64 n] w (Ret (.bool true) w) := by
  have CS1 := hid fun (W : World) (hW : Ext w W) => rmShort r c v xs W (hv.ext hW)
  have CS2 := hid fun (W : World) (hW : Ext w W) => rmShort r' c' u ys W (hu.ext hW)
  obtain ⟨S1, e1⟩ : ∃ B, decide (xs.length ≤ 150) = B := ⟨_, rfl⟩
  obtain ⟨S2, e2⟩ : ∃ B, decide (ys.length ≤ 150) = B := ⟨_, rfl⟩
  obtain ⟨L1, e3⟩ : ∃ B, decide (zs.length ≤ 70) = B := ⟨_, rfl⟩
  obtain ⟨L2, e4⟩ : ∃ B, decide (vs.length ≤ 150) = B := ⟨_, rfl⟩
  obtain ⟨L3, e5⟩ : ∃ B, decide (cs.length ≤ 150) = B := ⟨_, rfl⟩
  obtain ⟨L4, e6⟩ : ∃ B, decide (bs.length ≤ 70) = B := ⟨_, rfl⟩
  rw [e1] at CS1 h; rw [e2] at CS2 h; rw [e3, e4, e5, e6] at h
  have t3 : decide (70 < (zs.length : Int)) = !L1 := by rw [← e3, Bool.eq_iff_iff]; simp; omega
  have t4 : decide (150 < (vs.length : Int)) = !L2 := by rw [← e4, Bool.eq_iff_iff]; simp; omega
  have t5 : decide (150 < (cs.length : Int)) = !L3 := by rw [← e5, Bool.eq_iff_iff]; simp; omega
  have t6 : decide (70 < (bs.length : Int)) = !L4 := by rw [← e6, Bool.eq_iff_iff]; simp; omega
  clear e1 e2 e3 e4 e5 e6
  obtain ⟨a, cap, rfl, k1, k2, k3⟩ := hv
  obtain ⟨a', cap', rfl, k1', k2', k3'⟩ := hu
  obtain ⟨az, capz, rfl, j1, j2, j3⟩ := hz
  obtain ⟨ab, capb, rfl, l1, l2, l3⟩ := hb
  obtain ⟨ac, capc, rfl, m1, m2, m3⟩ := hc
  obtain ⟨av, capv, rfl, n1, n2, n3⟩ := hvv
  have hbx := hid (boxesMMS w 25 25 28 #[.int .i64 r, .int .i64 c, .slice a xs.length cap] #[.int .i64 r', .int .i64 c', .slice a' ys.length cap'] #[.int .i64 r2, .int .i64 c2, .slice ab bs.length capb, .slice ac cs.length capc, .slice av vs.length capv])
  have HA := hid hbx.out.1
  have HB := hid hbx.out.2.1
  have HS := hid hbx.out.2.2.1
  have hW0 := hid hbx.out.2.2.2
  clear k3 k3' j3 l3 m3 n3
  unfold matV at CS1 CS2
  unfold matV spV
  cases S1 with
  | false =>
    clear h
    as_aux_lemma =>
      go_enter Try.func3, Try.ntmps3
      go_wp2_with (first
        | (go_at_call 8; refine (awake05 _).mono ?_; rintro _ w1 ⟨rfl, x1⟩; have y1 : Ext w w1 := hW0.out.trans x1; obtain ⟨a0, a1, a2⟩ := (HA.out.ext x1).at3; obtain ⟨b0, b1, b2⟩ := (HB.out.ext x1).at3; obtain ⟨s0, s1, s2, s3, s4⟩ := (HS.out.ext x1).at5)
        | (go_at_call_of 9 a; refine (CS1.out w1 y1).mono ?_; rintro _ w2 ⟨rfl, x2⟩; have y2 := y1.trans x2; clear a0 a1 a2 b0 b1 b2 s0 s1 s2 s3 s4; obtain ⟨a0, a1, a2⟩ := (HA.out.ext (x1.trans x2)).at3; obtain ⟨b0, b1, b2⟩ := (HB.out.ext (x1.trans x2)).at3; obtain ⟨s0, s1, s2, s3, s4⟩ := (HS.out.ext (x1.trans x2)).at5)
        | fail)
      go_ret
      exact ⟨rfl, y2⟩
  | true =>
    cases S2 with
    | false =>
      clear h
      as_aux_lemma =>
        go_enter Try.func3, Try.ntmps3
        go_wp2_with (first
          | (go_at_call 8; refine (awake05 _).mono ?_; rintro _ w1 ⟨rfl, x1⟩; have y1 : Ext w w1 := hW0.out.trans x1; obtain ⟨a0, a1, a2⟩ := (HA.out.ext x1).at3; obtain ⟨b0, b1, b2⟩ := (HB.out.ext x1).at3; obtain ⟨s0, s1, s2, s3, s4⟩ := (HS.out.ext x1).at5)
          | (go_at_call_of 9 a; refine (CS1.out w1 y1).mono ?_; rintro _ w2 ⟨rfl, x2⟩; have y2 := y1.trans x2; clear a0 a1 a2 b0 b1 b2 s0 s1 s2 s3 s4; obtain ⟨a0, a1, a2⟩ := (HA.out.ext (x1.trans x2)).at3; obtain ⟨b0, b1, b2⟩ := (HB.out.ext (x1.trans x2)).at3; obtain ⟨s0, s1, s2, s3, s4⟩ := (HS.out.ext (x1.trans x2)).at5)
          | (go_at_call_of 9 a'; refine (CS2.out w2 y2).mono ?_; rintro _ w3 ⟨rfl, x3⟩; have y3 := y2.trans x3; clear a0 a1 a2 b0 b1 b2 s0 s1 s2 s3 s4; obtain ⟨a0, a1, a2⟩ := (HA.out.ext ((x1.trans x2).trans x3)).at3; obtain ⟨b0, b1, b2⟩ := (HB.out.ext ((x1.trans x2).trans x3)).at3; obtain ⟨s0, s1, s2, s3, s4⟩ := (HS.out.ext ((x1.trans x2).trans x3)).at5)
          | fail)
        go_ret
        exact ⟨rfl, y3⟩
    | true =>
      cases L1 with
      | false =>
        clear h
        as_aux_lemma =>
          go_enter Try.func3, Try.ntmps3
          go_wp2_with (first
            | (go_at_call 8; refine (awake05 _).mono ?_; rintro _ w1 ⟨rfl, x1⟩; have y1 : Ext w w1 := hW0.out.trans x1; obtain ⟨a0, a1, a2⟩ := (HA.out.ext x1).at3; obtain ⟨b0, b1, b2⟩ := (HB.out.ext x1).at3; obtain ⟨s0, s1, s2, s3, s4⟩ := (HS.out.ext x1).at5)
            | (go_at_call_of 9 a; refine (CS1.out w1 y1).mono ?_; rintro _ w2 ⟨rfl, x2⟩; have y2 := y1.trans x2; clear a0 a1 a2 b0 b1 b2 s0 s1 s2 s3 s4; obtain ⟨a0, a1, a2⟩ := (HA.out.ext (x1.trans x2)).at3; obtain ⟨b0, b1, b2⟩ := (HB.out.ext (x1.trans x2)).at3; obtain ⟨s0, s1, s2, s3, s4⟩ := (HS.out.ext (x1.trans x2)).at5)
            | (go_at_call_of 9 a'; refine (CS2.out w2 y2).mono ?_; rintro _ w3 ⟨rfl, x3⟩; have y3 := y2.trans x3; clear a0 a1 a2 b0 b1 b2 s0 s1 s2 s3 s4; obtain ⟨a0, a1, a2⟩ := (HA.out.ext ((x1.trans x2).trans x3)).at3; obtain ⟨b0, b1, b2⟩ := (HB.out.ext ((x1.trans x2).trans x3)).at3; obtain ⟨s0, s1, s2, s3, s4⟩ := (HS.out.ext ((x1.trans x2).trans x3)).at5)
            | fail)
          go_ret
          exact ⟨rfl, y3⟩
      | true =>
        cases L2 with
        | false =>
          clear h
          as_aux_lemma =>
            go_enter Try.func3, Try.ntmps3
            go_wp2_with (first
              | (go_at_call 8; refine (awake05 _).mono ?_; rintro _ w1 ⟨rfl, x1⟩; have y1 : Ext w w1 := hW0.out.trans x1; obtain ⟨a0, a1, a2⟩ := (HA.out.ext x1).at3; obtain ⟨b0, b1, b2⟩ := (HB.out.ext x1).at3; obtain ⟨s0, s1, s2, s3, s4⟩ := (HS.out.ext x1).at5)
              | (go_at_call_of 9 a; refine (CS1.out w1 y1).mono ?_; rintro _ w2 ⟨rfl, x2⟩; have y2 := y1.trans x2; clear a0 a1 a2 b0 b1 b2 s0 s1 s2 s3 s4; obtain ⟨a0, a1, a2⟩ := (HA.out.ext (x1.trans x2)).at3; obtain ⟨b0, b1, b2⟩ := (HB.out.ext (x1.trans x2)).at3; obtain ⟨s0, s1, s2, s3, s4⟩ := (HS.out.ext (x1.trans x2)).at5)
              | (go_at_call_of 9 a'; refine (CS2.out w2 y2).mono ?_; rintro _ w3 ⟨rfl, x3⟩; have y3 := y2.trans x3; clear a0 a1 a2 b0 b1 b2 s0 s1 s2 s3 s4; obtain ⟨a0, a1, a2⟩ := (HA.out.ext ((x1.trans x2).trans x3)).at3; obtain ⟨b0, b1, b2⟩ := (HB.out.ext ((x1.trans x2).trans x3)).at3; obtain ⟨s0, s1, s2, s3, s4⟩ := (HS.out.ext ((x1.trans x2).trans x3)).at5)
              | fail)
            go_ret
            exact ⟨rfl, y3⟩
        | true =>
          cases L3 with
          | false =>
            clear h
            as_aux_lemma =>
              go_enter Try.func3, Try.ntmps3
              go_wp2_with (first
                | (go_at_call 8; refine (awake05 _).mono ?_; rintro _ w1 ⟨rfl, x1⟩; have y1 : Ext w w1 := hW0.out.trans x1; obtain ⟨a0, a1, a2⟩ := (HA.out.ext x1).at3; obtain ⟨b0, b1, b2⟩ := (HB.out.ext x1).at3; obtain ⟨s0, s1, s2, s3, s4⟩ := (HS.out.ext x1).at5)
                | (go_at_call_of 9 a; refine (CS1.out w1 y1).mono ?_; rintro _ w2 ⟨rfl, x2⟩; have y2 := y1.trans x2; clear a0 a1 a2 b0 b1 b2 s0 s1 s2 s3 s4; obtain ⟨a0, a1, a2⟩ := (HA.out.ext (x1.trans x2)).at3; obtain ⟨b0, b1, b2⟩ := (HB.out.ext (x1.trans x2)).at3; obtain ⟨s0, s1, s2, s3, s4⟩ := (HS.out.ext (x1.trans x2)).at5)
                | (go_at_call_of 9 a'; refine (CS2.out w2 y2).mono ?_; rintro _ w3 ⟨rfl, x3⟩; have y3 := y2.trans x3; clear a0 a1 a2 b0 b1 b2 s0 s1 s2 s3 s4; obtain ⟨a0, a1, a2⟩ := (HA.out.ext ((x1.trans x2).trans x3)).at3; obtain ⟨b0, b1, b2⟩ := (HB.out.ext ((x1.trans x2).trans x3)).at3; obtain ⟨s0, s1, s2, s3, s4⟩ := (HS.out.ext ((x1.trans x2).trans x3)).at5)
                | fail)
              go_ret
              exact ⟨rfl, y3⟩
          | true =>
            cases L4 with
            | false =>
              clear h
              as_aux_lemma =>
                go_enter Try.func3, Try.ntmps3
                go_wp2_with (first
                  | (go_at_call 8; refine (awake05 _).mono ?_; rintro _ w1 ⟨rfl, x1⟩; have y1 : Ext w w1 := hW0.out.trans x1; obtain ⟨a0, a1, a2⟩ := (HA.out.ext x1).at3; obtain ⟨b0, b1, b2⟩ := (HB.out.ext x1).at3; obtain ⟨s0, s1, s2, s3, s4⟩ := (HS.out.ext x1).at5)
                  | (go_at_call_of 9 a; refine (CS1.out w1 y1).mono ?_; rintro _ w2 ⟨rfl, x2⟩; have y2 := y1.trans x2; clear a0 a1 a2 b0 b1 b2 s0 s1 s2 s3 s4; obtain ⟨a0, a1, a2⟩ := (HA.out.ext (x1.trans x2)).at3; obtain ⟨b0, b1, b2⟩ := (HB.out.ext (x1.trans x2)).at3; obtain ⟨s0, s1, s2, s3, s4⟩ := (HS.out.ext (x1.trans x2)).at5)
                  | (go_at_call_of 9 a'; refine (CS2.out w2 y2).mono ?_; rintro _ w3 ⟨rfl, x3⟩; have y3 := y2.trans x3; clear a0 a1 a2 b0 b1 b2 s0 s1 s2 s3 s4; obtain ⟨a0, a1, a2⟩ := (HA.out.ext ((x1.trans x2).trans x3)).at3; obtain ⟨b0, b1, b2⟩ := (HB.out.ext ((x1.trans x2).trans x3)).at3; obtain ⟨s0, s1, s2, s3, s4⟩ := (HS.out.ext ((x1.trans x2).trans x3)).at5)
                  | fail)
                go_ret
                exact ⟨rfl, y3⟩
            | true =>
              cases h


theorem i64_all {l : List Int} (h : ∀ x ∈ l, (Lit.int .i64 x).wf = true) : ∀ k, k < l.length → -9223372036854775808 ≤ l.getD k 0 ∧ l.getD k 0 ≤ 9223372036854775807 := fun k hk => by
  have e : l.getD k 0 = l[k] := by simp [List.getD, hk]
  rw [e]
  exact i64_wf (h _ (List.getElem_mem hk))
/-- the law answers true -/
theorem walk (p r c : Int) (v : Value) (xs : List Int) (r' c' : Int) (u : Value) (ys : List Int) (vz : Value) (zs : List Int) (r2 c2 : Int) (vb vc vv : Value) (bs cs vs : List Int) (n : Int) (w : World) (hp : (Lit.int .u64 p).wf = true) (_ : (Lit.int .i64 r).wf = true) (_ : (Lit.int .i64 c).wf = true) (hv : Ints .u64 w v xs) (hx : ∀ x ∈ xs, (Lit.int .u64 x).wf = true)
    (_ : (Lit.int .i64 r').wf = true) (_ : (Lit.int .i64 c').wf = true) (hu : Ints .u64 w u ys) (hy : ∀ x ∈ ys, (Lit.int .u64 x).wf = true) (hz : Ints .u64 w vz zs) (hzu : ∀ x ∈ zs, (Lit.int .u64 x).wf = true) (_ : (Lit.int .i64 r2).wf = true) (_ : (Lit.int .i64 c2).wf = true) (hb : Ints .i64 w vb bs) (hbw : ∀ x ∈ bs, (Lit.int .i64 x).wf = true) (hc : Ints .i64 w vc cs) (hcw : ∀ x ∈ cs, (Lit.int .i64 x).wf = true) (hvv : Ints .u64 w vv vs) (hvx : ∀ x ∈ vs, (Lit.int .u64 x).wf = true) (_ : (Lit.int .i64 n).wf = true) :
    Calls Try.prog 3 #[.int .u64 p, .agg #[.int .i64 r, .int .i64 c, v], .agg #[.int .i64 r', .int .i64 c', u], vz, .agg #[.int .i64 r2, .int .i64 c2, vb, vc, vv], .int .i64 n] w (Ret (.bool true) w) := by
  have hp' := u64_wf hp
  have hx' : U64s xs := fun x h => u64_wf (hx x h)
  have hy' : U64s ys := fun x h => u64_wf (hy x h)
  have hz' : U64s zs := fun x h => u64_wf (hzu x h)
  have hv' : U64s vs := fun x h => u64_wf (hvx x h)
  cases h : (decide (xs.length ≤ 150) && decide (ys.length ≤ 150) && decide (zs.length ≤ 70) && decide (vs.length ≤ 150) && decide (cs.length ≤ 150) && decide (bs.length ≤ 70)) with
  | false => exact walk_skip p r c r' c' r2 c2 n v u vz vb vc vv xs ys zs bs cs vs w hp'.1 hp'.2 hv hx' hu hy' hz hz' hb hc hvv hv' h
  | true =>
    cases h1 : matB p r c xs with
    | false =>
      cases h2 : hasB p zs with
      | false => exact walk_FF p r c r' c' r2 c2 n v u vz vb vc vv xs ys zs bs cs vs w hp'.1 hp'.2 hv hx' hu hy' hz hz' hb hc hvv hv' (i64_all hcw) (i64_all hbw) h h1 h2
      | true => exact walk_FT p r c r' c' r2 c2 n v u vz vb vc vv xs ys zs bs cs vs w hp'.1 hp'.2 hv hx' hu hy' hz hz' hb hc hvv hv' (i64_all hcw) (i64_all hbw) h h1 h2
    | true =>
      cases h2 : hasB p zs with
      | false => exact walk_TF p r c r' c' r2 c2 n v u vz vb vc vv xs ys zs bs cs vs w hp'.1 hp'.2 hv hx' hu hy' hz hz' hb hc hvv hv' (i64_all hcw) (i64_all hbw) h h1 h2
      | true => exact walk_TT p r c r' c' r2 c2 n v u vz vb vc vv xs ys zs bs cs vs w hp'.1 hp'.2 hv hx' hu hy' hz hz' hb hc hvv hv' (i64_all hcw) (i64_all hbw) h h1 h2

theorem own : ownKnob Try.prog.godebug = none := by kernel_rfl
set_option maxRecDepth 100000 in
theorem lifted (os : Os) (started : os.Started) (H : Type) (enc : TypeId × Value → H) :
    ReturnsInHanded {} Try.checked os 3 .any (Rows.matrixRightSpec.pre6 enc Try.prog Try.f3 Rows.matrixRightRow.domain false) (Rows.matrixRightSpec.post enc Try.prog Try.f3 false true false false) := by
  refine returnsInHanded_of_change (C := Try.checked) own started (by kernel_rfl) Try.func3
    (ChangeSpec.witness6 (enc := enc) (C := Try.checked) false ⟨#[], #[.int .u64 0, .agg #[.int .i64 0, .int .i64 0, .slice none 0 0], .agg #[.int .i64 0, .int .i64 0, .slice none 0 0], .slice none 0 0, .agg #[.int .i64 0, .int .i64 0, .slice none 0 0, .slice none 0 0, .slice none 0 0], .int .i64 0], []⟩ 8 (by kernel_rfl) (by kernel_rfl) (by kernel_rfl) (by kernel_rfl)) ?_
  intro W base args ds gs before hval0 hW _ _
  have hval : ∀ (j : Nat) t v, Try.f3.params[j]? = some t → args[j]? = some v → Value.okWide Try.prog W .any base t v := hval0
  have hW' := hW
  obtain ⟨p, q, hA0, hV, rfl, _, _⟩ := hW
  have hA : DataW.TrodAll enc Try.prog W 0 (fun _ => true) true Try.f3.params.toList args.toList ds p := hA0
  rw [Try.params3] at hA hval
  obtain ⟨v0, vs0, d0, ds0, p0, q0, hargs, rfl, rfl, h0, r0⟩ := trodAll_cons hA
  obtain ⟨v1, vs1, d1, ds1, p1, q1, rfl, rfl, rfl, h1, r1⟩ := trodAll_cons r0
  obtain ⟨v2, vs2, d2, ds2, p2, q2, rfl, rfl, rfl, h2, r2⟩ := trodAll_cons r1
  obtain ⟨v3, vs3, d3, ds3, p3, q3, rfl, rfl, rfl, h3, r3⟩ := trodAll_cons r2
  obtain ⟨v4, vs4, d4, ds4, p4, q4, rfl, rfl, rfl, h4, r4⟩ := trodAll_cons r3
  obtain ⟨v5, vs5, d5, ds5, p5, q5, rfl, rfl, rfl, h5, r5⟩ := trodAll_cons r4
  obtain ⟨rfl, rfl, rfl⟩ := trodAll_nil r5
  obtain rfl : args = #[v0, v1, v2, v3, v4, v5] := by cases args; simp_all
  obtain ⟨rfl, rfl⟩ := trodVars_none hV
  obtain ⟨a0, rfl, rfl, rfl, w0⟩ := open_int Try.underlying22 (hval 0 22 v0 rfl rfl) h0
  obtain ⟨mr1, mc1, mu1, xs1, rfl, wr1, wc1, i1, w1⟩ := open_Mat (hval 1 25 v1 rfl rfl) h1
  obtain ⟨mr2, mc2, mu2, xs2, rfl, wr2, wc2, i2, w2⟩ := open_Mat (hval 2 25 v2 rfl rfl) h2
  obtain ⟨xs3, i3, w3⟩ := open_Ints Try.underlying23 Try.underlying22 (by kernel_rfl) (hval 3 23 v3 rfl rfl) h3
  obtain ⟨mr4, mc4, ub4, uc4, uv4, bs4, cs4, vs4, rfl, wr4, wc4, ib4, wb4, ic4, wk4, iv4, wv4⟩ := open_Sparse (hval 4 28 v4 rfl rfl) h4
  obtain ⟨a5, rfl, rfl, rfl, w5⟩ := open_int Try.underlying3 (hval 5 3 v5 rfl rfl) h5
  refine (walk a0 mr1 mc1 mu1 xs1 mr2 mc2 mu2 xs2 v3 xs3 mr4 mc4 ub4 uc4 uv4 bs4 cs4 vs4 a5 W w0 wr1 wc1 i1 w1 wr2 wc2 i2 w2 i3 w3 wr4 wc4 ib4 wb4 ic4 wk4 iv4 wv4 w5).mono fun e W' ⟨he, hg⟩ => ⟨_, he, ?_⟩
  exact law_post (by kernel_rfl) (by kernel_rfl) rfl Try.underlying4 rfl rfl hW' hg

/-- the statement -/
theorem proved : Rows.MatrixRightSaid :=
  OpenClaim.holds_of_wide 3 Try.f3 rfl rfl rfl rfl rfl rfl rfl ⟨rfl, rfl, rfl, rfl, rfl⟩ rfl rfl rfl rfl rfl (by kernel_rfl) Try.func3 (by kernel_rfl)
    (of_decide_eq_true (by kernel_rfl)) (by unfold Func.isWrapper; first | (rw [if_pos (by decide +kernel)]; kernel_rfl) | (rw [if_neg (by decide +kernel)]; exact ⟨rfl, rfl⟩))
    (fun os started H enc _ => lifted os started H enc)
end Go.Proofs.Ytlociefncogjeaa.matrixRight
