/- ShapeParts: whatever the number, the matrix and the claim, the law answers true, and nothing that was there has turned. No condition. -/
import Derived.Test.YtnfnommiabalfaaShapePartsS
import Derived.Test.YtnfnommiabalfaaCntL
import Derived.Test.YtnfnommiabalfaaBun24
import Derived.Test.YtnfnommiabalfaaOpenClm
import Derived.Deep.RegionHeld3
namespace Go.Proofs.Ytnfnommiabalfaa.shapeParts
open Go.ChangeShapes Go.WideShapes Go.ChangeAt Go.RowKit Go.Maps

set_option maxRecDepth 100000 in
set_option maxHeartbeats 4000000 in
theorem walk_yes (P m n : Nat) (v : Value) (xs : List Int) (rv kv cv uv : Value) (R K : List Int) (C U : List (List Int)) (w : World) (hP : P ≤ 11) (hI : isB (P : Int) = true) (ok : MatOk (P : Int) m n xs) (hlen : xs.length ≤ 40) (hS : shortC R K C U = true) (hz : ShpZ (P : Int) m n R K C U)
    (hv : Ints .u64 w v xs) (hc : ClmR w rv kv cv uv R K C U) (hC : ∀ l ∈ C, U64s l) (hU : ∀ l ∈ U, U64s l) :
    Calls Try.prog 4 #[.int .u64 P, matV m n v, .agg #[rv, kv, cv, uv]] w (Ret (.bool true) w) := by
  have hp2 := rightB_true ok.hp
  have hf : Fld (P : Int) := fld_is ((isB_iff _).1 hI)
  have hn := ok.hn
  have CS := hid fun (W : World) (hW : Ext w W) => r13Short rv kv cv uv R K C U W (hc.ext hW)
  have CM := hid fun (W : World) (hW : Ext w W) => mxRight P m n v xs W (by omega) (by omega) (hv.ext hW) ok.u64
  have CH := hid fun (W : World) (hW : Ext w W) => shHas P R K C U rv kv cv uv W m n (by omega) (by omega) (hc.ext hW) hC hU
  have CI := hid fun (W : World) => Is_any (P : Int) W (by omega) (by omega)
  rw [hS] at CS; rw [ok.b] at CM; rw [hI] at CI; rw [shpB_iff.2 hz] at CH
  have CL := hid fun (W : World) (hW : Ext w W) (vx : Value) (x : List Int) (hvx : Ints .u64 W vx x) (hx : Rng (P : Int) x) (hxl : x.length = n) => shLooks_yes P R K C U rv kv cv uv W m n v vx xs x ok hz (hc.ext hW) (hv.ext hW) hvx hx hxl
  have CT := hid fun (W : World) (hW : Ext w W) => r7TakeCup P m n v xs W ok hf (hv.ext hW)
  obtain ⟨Z, eZ⟩ : ∃ Z, sameC (rowsZ (takeL P m n xs)) (colsZ (takeL P m n xs)) ((takeL P m n xs).C.map (padL (takeL P m n xs).U.length)) (takeL P m n xs).U R K C U = Z := ⟨_, rfl⟩
  have cup := (show CupOk (P : Int) m n C U from by
    obtain ⟨m', n', e1, e2, h, -, -⟩ := hz.ok
    have e1' : m = m' := by omega
    have e2' : n = n' := by omega
    subst e1'; subst e2'
    exact h)
  have hzi : Z = true ↔ zeroB (wrongL (P : Int) m U.length n C.flatten U.flatten xs) = true := by
    rw [wrong_made ok cup, ← eZ, sameC_iff]
    exact hz.same ok hf
  have HZ := hid (fun h : Z = true => silent_zero (p := P) (hzi.1 h))
  have HPT := hid (fun h : Z = false => silent_part (m := m) (k := U.length) (n := n) (xs := C.flatten) (ys := U.flatten) (zs := xs) hp2.1 hf (by
    rw [← Bool.not_eq_true, ← hzi, h]
    simp))
  have CZ := hid fun (W : World) (a b c d : Value) (hW : Ext w W) (h : ClmR W a b c d (rowsZ (takeL P m n xs)) (colsZ (takeL P m n xs)) ((takeL P m n xs).C.map (padL (takeL P m n xs).U.length)) (takeL P m n xs).U) => r13Same a b c d rv kv cv uv _ _ _ _ R K C U W h (hc.ext hW)
  rw [eZ] at CZ
  generalize rowsZ (takeL P m n xs) = R' at CT CZ
  generalize colsZ (takeL P m n xs) = K' at CT CZ
  generalize (takeL P m n xs).C.map (padL (takeL P m n xs).U.length) = C' at CT CZ
  generalize (takeL P m n xs).U = U' at CT CZ
  obtain ⟨lk, elk⟩ : ∃ f, shlB (P : Int) m n xs C U = f := ⟨_, rfl⟩
  have elk' : looksB (P : Int) m U.length n C.flatten U.flatten xs = lk := elk
  rw [elk] at CL
  rw [elk'] at HZ HPT
  have hp1 : 2 ≤ P := by omega
  clear hS hI ok hz hf hp2 hC hU eZ cup hzi elk elk'
  obtain ⟨⟨a1, k1, rfl⟩, ⟨a2, k2, rfl⟩, ⟨a3, k3, rfl⟩, ⟨a4, k4, rfl⟩⟩ := hc.slices
  obtain ⟨a, cap, rfl, -, -, -⟩ := hv
  have hb2 := boxes2 w 25 29 #[.int .i64 (m : Int), .int .i64 (n : Int), .slice a xs.length cap] #[.slice a1 R.length k1, .slice a2 K.length k2, .slice a3 C.length k3, .slice a4 U.length k4]
  have HM := hid hb2.1; have HC := hid hb2.2.1; have hW0 := hid hb2.2.2
  obtain ⟨w0, hw0⟩ : ∃ W, (w.alloc (.cells #[.int .i64 (m : Int), .int .i64 (n : Int), .slice a xs.length cap] 25)).alloc (.cells #[.slice a1 R.length k1, .slice a2 K.length k2, .slice a3 C.length k3, .slice a4 U.length k4] 29) = W := ⟨_, rfl⟩
  rw [hw0] at HM HC hW0
  clear hb2
  unfold matV at CM CL CT
  unfold matV
  have Hl := hid hlen
  go_enter Try.func4, Try.ntmps4
  go_wp2_with fail
  refine (awake13 _).mono ?_
  rintro _ w1 ⟨rfl, x1⟩
  go_wp2_with fail
  refine (CI.out _).mono ?_
  rintro _ _ ⟨rfl, rfl⟩
  obtain ⟨p0, p1, p2⟩ := (HM.out.ext x1).at3; obtain ⟨c0, c1, c2, c3⟩ := (HC.out.ext x1).at4
  go_wp2_with fail
  refine (CS.out _ (hW0.out.trans x1)).mono ?_
  rintro _ w2 ⟨rfl, x2⟩
  clear p0 p1 p2 c0 c1 c2 c3
  have x12 := x1.trans x2
  obtain ⟨p0, p1, p2⟩ := (HM.out.ext x12).at3
  go_wp2_with fail
  refine (CM.out _ (hW0.out.trans x12)).mono ?_
  rintro _ w3 ⟨rfl, x3⟩
  clear p0 p1 p2
  have x13 := x12.trans x3
  obtain ⟨p0, p1, p2⟩ := (HM.out.ext x13).at3; obtain ⟨c0, c1, c2, c3⟩ := (HC.out.ext x13).at4
  go_wp2_with fail
  refine (CH.out _ (hW0.out.trans x13)).mono ?_
  rintro _ w4 ⟨rfl, x4⟩
  clear p0 p1 p2 c0 c1 c2 c3
  have x14 := x13.trans x4
  have HM4 := hid (HM.out.ext x14); have HC4 := hid (HC.out.ext x14)
  have y4 := hW0.out.trans x14
  obtain ⟨p0, p1, p2⟩ := HM4.out.at3
  go_wp2_with fail
  clear CS CM CI CH HM HC x1 x2 x3 x4 x12 x13 x14
  go_loop [7, 8] (fun al i => ∃ (j Q : Nat), i = .int .i64 j ∧ al = .int .u64 Q ∧ j ≤ n ∧ Q ≤ 2000 ∧ 1 ≤ Q ∧ Hid (Q = P ^ j)) (fun _ i => n - (intOf i).toNat)
  case atStart => exact ⟨0, 1, rfl, rfl, Nat.zero_le _, by omega, by omega, hid rfl⟩
  case round =>
    obtain ⟨j, Q, rfl, rfl, hj, hQ, hQ1, hq⟩ := hrel
    by_cases hlt : j < n
    · obtain ⟨T, eT⟩ : ∃ T, Q * P = T := ⟨_, rfl⟩
      have eT' : (Q : Int) * (P : Int) = (T : Int) := by rw [← eT, Int.natCast_mul]
      have hT : T ≤ 22000 := by rw [← eT]; exact Nat.mul_le_mul hQ hP
      have hT1 : 1 ≤ T := by rw [← eT]; exact Nat.mul_pos hQ1 (by omega)
      have HNX := hid (show T = P ^ (j + 1) by rw [← eT, hq.out, Nat.pow_succ])
      clear eT
      by_cases g : 2000 < T
      · go_wp2_with fail
        go_ret
        exact ⟨rfl, y4⟩
      · go_wp2_with fail
        go_round
        case rel => exact ⟨j + 1, T, by go_num, by go_num, by omega, by omega, hT1, HNX⟩
        case measure => simp [intOf]; omega
    · obtain rfl : n = j := by omega
      clear p0 p1 p2
      obtain ⟨p0, p1, p2⟩ := HM4.out.at3
      go_wp2_with fail
      clear p0 p1 p2
      go_loopw [9, 10, 11, 12] (fun c i _ _ wr => ∃ (N c' : Nat), c = .int .u64 c' ∧ i = .int .u64 N ∧ N ≤ Q ∧ c' ≤ N ∧ Hid (c' = cntTo P n lk N) ∧ Ext w4 wr) (fun _ i _ _ _ => Q - (intOf i).toNat)
      case atStart => exact ⟨0, 0, rfl, rfl, Nat.zero_le _, Nat.le_refl _, hid rfl, Ext.refl _⟩
      case round =>
        obtain ⟨N, c', rfl, rfl, hN, hc', hcn, hxw⟩ := hrel
        rename World => wr
        have yr := y4.trans hxw
        by_cases hlt2 : N < Q
        · have CV := hid fun (W : World) => r12Vector P N n W ⟨by omega, by omega⟩ (by omega) hn.2
          obtain ⟨B, eB⟩ : ∃ B, lk (digV P N n) = B := ⟨_, rfl⟩
          have CL2 := hid fun (W : World) (hW : Ext w W) (v : Value) (hv : Ints .u64 W v (digV P N n)) => CL.out W hW v _ hv (digV_dig (by omega) n N) (digV_len P n N)
          rw [eB] at CL2
          have HE := hid eB
          have fs := hid fun (W : World) (hW : Ext wr W) => And.intro ((HM4.out.ext (hxw.trans hW)).at3) ((HC4.out.ext (hxw.trans hW)).at4)
          clear eB
          go_wp2_with fail
          go_region_held3 (fun w' => (w'.cell? ⟨w.heap.size, 0, none⟩ = some (.int .i64 (m : Int)) ∧ w'.cell? ⟨w.heap.size, 1, none⟩ = some (.int .i64 (n : Int)) ∧ w'.cell? ⟨w.heap.size, 2, none⟩ = some (.slice a xs.length cap)) ∧ (w'.cell? ⟨w.heap.size + 1, 0, none⟩ = some (.slice a1 R.length k1) ∧ w'.cell? ⟨w.heap.size + 1, 1, none⟩ = some (.slice a2 K.length k2) ∧ w'.cell? ⟨w.heap.size + 1, 2, none⟩ = some (.slice a3 C.length k3) ∧ w'.cell? ⟨w.heap.size + 1, 3, none⟩ = some (.slice a4 U.length k4)))
            (first | assumption | exact fs.out _ ((Ext.refl wr).drew) | exact fs.out _ (((Ext.refl wr).drew).trans x5) | exact fs.out _ (((Ext.refl wr).drew).trans (x5.trans x6)))
            ((first
              | (go_at_call 19; refine (CV.out _).mono ?_; rintro _ w5 ⟨v5, rfl, o5, x5⟩
                 have I5 := hid (own_ints o5)
                 have y5 : Ext wr w5 := (Ext.refl wr).drew.trans x5
                 clear o5
                 obtain ⟨a5, c5, rfl, -, -, -⟩ := I5.out)
              | (go_at_call 13; refine (CL2.out _ (yr.trans y5) _ I5.out).mono ?_; rintro _ w6 ⟨rfl, x6⟩)))
          cases B with
          | true =>
            go_wp2_with fail
            go_roundw
            case rel => exact ⟨N + 1, c' + 1, by go_num, by go_num, by omega, by omega, hid (by rw [cntTo_yes HE.out, hcn.out]), hxw.trans (y5.trans x6)⟩
            case measure => simp [intOf]; omega
          | false =>
            go_wp2_with fail
            go_roundw
            case rel => exact ⟨N + 1, c', by go_num, by go_num, by omega, by omega, hid (by rw [cntTo_no HE.out, hcn.out]), hxw.trans (y5.trans x6)⟩
            case measure => simp [intOf]; omega
        · obtain rfl : Q = N := by omega
          have hall : c' = cntV P n lk := by rw [hcn.out, hq.out, cntTo_all (by omega)]
          have HZ2 := hid fun h => hall.trans ((HZ.out h).trans hq.out.symm)
          have HPT2 := hid fun h => (show c' ≤ Q / P by rw [hall, hq.out]; exact HPT.out h)
          obtain ⟨p0, p1, p2⟩ := (HM4.out.ext hxw).at3
          clear hall HZ HPT CL hq hcn
          go_wp2_with fail
          refine (CT.out _ yr).mono ?_
          rintro _ w5 ⟨rv5, kv5, cv5, uv5, rfl, h1, h2, h3, h4, x5⟩
          have cl : ClmR w5 rv5 kv5 cv5 uv5 R' K' C' U' := ⟨h1, h2, h3, h4⟩
          have CL5 := hid cl
          obtain ⟨⟨b1, l1, rfl⟩, ⟨b2, l2, rfl⟩, ⟨b3, l3, rfl⟩, ⟨b4, l4, rfl⟩⟩ := cl.slices
          clear cl h1 h2 h3 h4 p0 p1 p2
          have HD := hid (Blk.new w5 29 #[.slice b1 R'.length l1, .slice b2 K'.length l2, .slice b3 C'.length l3, .slice b4 U'.length l4])
          have z5 := (Ext.refl w5).alloc (.cells #[.slice b1 R'.length l1, .slice b2 K'.length l2, .slice b3 C'.length l3, .slice b4 U'.length l4] 29)
          have y5 := yr.trans (x5.trans z5)
          obtain ⟨c0, c1, c2, c3⟩ := (HC4.out.ext (hxw.trans (x5.trans z5))).at4
          obtain ⟨d0, d1, d2, d3⟩ := HD.out.at4
          go_wp2_with fail
          refine (CZ.out _ _ _ _ _ y5 (CL5.out.ext z5)).mono ?_
          rintro _ w6 ⟨rfl, x6⟩
          clear c0 c1 c2 c3 d0 d1 d2 d3
          cases Z with
          | true =>
            obtain rfl : c' = Q := HZ2.out (by trivial)
            go_wp2_with fail
            go_ret
            exact ⟨ret_bool (by simp), y5.trans x6⟩
          | false =>
            have hd := HPT2.out (by trivial)
            obtain ⟨D, eD⟩ : ∃ D, Q / P = D := ⟨_, rfl⟩
            rw [eD] at hd
            have eDi : (Q : Int).tdiv (P : Int) = (D : Int) := by rw [Int.tdiv_eq_ediv_of_nonneg (by omega), ← eD]; rfl
            have hDQ : D ≤ Q := by rw [← eD]; exact Nat.div_le_self _ _
            clear eD
            go_wp2_with fail
            go_ret
            exact ⟨ret_bool (by simp), y5.trans x6⟩

theorem walk (p r c : Int) (v : Value) (xs : List Int) (rv kv cv uv : Value) (R K : List Int) (C U : List (List Int)) (w : World) (hp : (Lit.int .u64 p).wf = true)
    (_ : (Lit.int .i64 r).wf = true) (_ : (Lit.int .i64 c).wf = true) (hv : Ints .u64 w v xs) (hx : ∀ x ∈ xs, (Lit.int .u64 x).wf = true) (hc : ClmR w rv kv cv uv R K C U) (_ : ∀ x ∈ R, (Lit.int .i64 x).wf = true) (_ : ∀ x ∈ K, (Lit.int .i64 x).wf = true) (wC : ∀ l ∈ C, ∀ x ∈ l, (Lit.int .u64 x).wf = true) (wU : ∀ l ∈ U, ∀ x ∈ l, (Lit.int .u64 x).wf = true) :
    Calls Try.prog 4 #[.int .u64 p, .agg #[.int .i64 r, .int .i64 c, v], .agg #[rv, kv, cv, uv]] w (Ret (.bool true) w) := by
  have hp' := u64_wf hp
  have hx' : U64s xs := fun x hx' => by have := u64_wf (hx x hx'); omega
  have hC : ∀ l ∈ C, U64s l := fun l hl x hx => by have := u64_wf (wC l hl x hx); omega
  have hU : ∀ l ∈ U, U64s l := fun l hl x hx => by have := u64_wf (wU l hl x hx); omega
  cases h : (decide (p ≤ 11) && (isB p && (decide (xs.length ≤ 40) && (shortC R K C U && (matB p r c xs && shpB p r c R K C U)))))
  · exact walk_skip p r c v xs rv kv cv uv R K C U w (by omega) (by omega) hv hx' hc hC hU h
  · simp only [Bool.and_eq_true, decide_eq_true_eq] at h
    obtain ⟨h1, h2, h3, h4, h5, h6⟩ := h
    obtain ⟨m, n, rfl, rfl, ok⟩ := MatOk.of hx' h5
    obtain ⟨P, rfl⟩ := Int.eq_ofNat_of_zero_le (show 0 ≤ p by omega)
    exact walk_yes P m n v xs rv kv cv uv R K C U w (by omega) h2 ok h3 h4 (shpB_iff.1 h6) hv hc hC hU

theorem own : ownKnob Try.prog.godebug = none := by kernel_rfl
set_option maxRecDepth 100000 in
theorem lifted (os : Os) (started : os.Started) (H : Type) (enc : TypeId × Value → H) :
    ReturnsInHanded {} Try.checked os 4 .any (Rows.shapePartsSpec.pre6 enc Try.prog Try.f4 Rows.shapePartsRow.domain false) (Rows.shapePartsSpec.post enc Try.prog Try.f4 false true false false) := by
  refine returnsInHanded_of_change (C := Try.checked) own started (by kernel_rfl) Try.func4
    (ChangeSpec.witness6 (enc := enc) (C := Try.checked) false ⟨#[], #[.int .u64 0, .agg #[.int .i64 0, .int .i64 0, .slice none 0 0], .agg #[.slice none 0 0, .slice none 0 0, .slice none 0 0, .slice none 0 0]], []⟩ 8 (by kernel_rfl) (by kernel_rfl) (by kernel_rfl) (by kernel_rfl)) ?_
  intro W base args ds gs before hval0 hW _ _
  have hval : ∀ (j : Nat) t v, Try.f4.params[j]? = some t → args[j]? = some v → Value.okWide Try.prog W .any base t v := hval0
  have hW' := hW
  obtain ⟨p, q, hA0, hV, rfl, _, _⟩ := hW
  have hA : DataW.TrodAll enc Try.prog W 0 (fun _ => true) true Try.f4.params.toList args.toList ds p := hA0
  rw [Try.params4] at hA hval
  obtain ⟨v0, vs0, d0, ds0, p0, q0, hargs, rfl, rfl, h0, r0⟩ := trodAll_cons hA
  obtain ⟨v1, vs1, d1, ds1, p1, q1, rfl, rfl, rfl, h1, r1⟩ := trodAll_cons r0
  obtain ⟨v2, vs2, d2, ds2, p2, q2, rfl, rfl, rfl, h2, r2⟩ := trodAll_cons r1
  obtain ⟨rfl, rfl, rfl⟩ := trodAll_nil r2
  obtain rfl : args = #[v0, v1, v2] := by cases args; simp_all
  obtain ⟨rfl, rfl⟩ := trodVars_none hV
  obtain ⟨a0, rfl, rfl, rfl, w0⟩ := open_int Try.underlying22 (hval 0 22 v0 rfl rfl) h0
  obtain ⟨mr1, mc1, mu1, xs1, rfl, wr1, wc1, i1, w1⟩ := open_Mat (hval 1 25 v1 rfl rfl) h1
  obtain ⟨rv2, kv2, cv2, uv2, R2, K2, C2, U2, rfl, cm2, wR2, wK2, wC2, wU2⟩ := open_Cup (hval 2 29 v2 rfl rfl) h2
  refine (walk a0 mr1 mc1 mu1 xs1 rv2 kv2 cv2 uv2 R2 K2 C2 U2 W w0 wr1 wc1 i1 w1 cm2 wR2 wK2 wC2 wU2).mono fun e W' ⟨he, hg⟩ => ⟨_, he, ?_⟩
  exact law_post (by kernel_rfl) (by kernel_rfl) rfl Try.underlying4 rfl rfl hW' hg

/-- the statement -/
theorem proved : Rows.ShapePartsSaid :=
  OpenClaim.holds_of_wide 4 Try.f4 rfl rfl rfl rfl rfl rfl rfl ⟨rfl, rfl, rfl, rfl, rfl⟩ rfl rfl rfl rfl rfl (by kernel_rfl) Try.func4 (by kernel_rfl)
    (of_decide_eq_true (by kernel_rfl)) (by unfold Func.isWrapper; first | (rw [if_pos (by decide +kernel)]; kernel_rfl) | (rw [if_neg (by decide +kernel)]; exact ⟨rfl, rfl⟩))
    (fun os started H enc _ => lifted os started H enc)
end Go.Proofs.Ytnfnommiabalfaa.shapeParts
