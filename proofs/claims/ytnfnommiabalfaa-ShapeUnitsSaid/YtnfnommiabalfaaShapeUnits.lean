/- ShapeUnits: whatever the number, the matrix and the claim, the law answers true, and nothing that was there has turned. No condition. -/
import Derived.Test.YtnfnommiabalfaaShapeUnitsS
import Derived.Test.YtnfnommiabalfaaUnit1
import Derived.Test.YtnfnommiabalfaaOpenClm
namespace Go.Proofs.Ytnfnommiabalfaa.shapeUnits
open Go.ChangeShapes Go.WideShapes Go.ChangeAt Go.RowKit Go.Maps

set_option maxRecDepth 100000 in
set_option maxHeartbeats 4000000 in
theorem walk_yes (P m n : Nat) (v : Value) (xs : List Int) (rv kv cv uv : Value) (R K : List Int) (C U : List (List Int)) (w : World) (hI : takenB (P : Int) = true) (ok : MatOk (P : Int) m n xs) (hlen : xs.length ≤ 100) (hS : shortC R K C U = true) (hz : ShpZ (P : Int) m n R K C U)
    (hv : Ints .u64 w v xs) (hc : ClmR w rv kv cv uv R K C U) (hC : ∀ l ∈ C, U64s l) (hU : ∀ l ∈ U, U64s l) :
    Calls Try.prog 6 #[.int .u64 P, matV m n v, .agg #[rv, kv, cv, uv]] w (Ret (.bool true) w) := by
  have hp2 := rightB_true ok.hp
  have hf : Fld (P : Int) := taken_fld hI
  have hn := ok.hn
  have CS := hid fun (W : World) (hW : Ext w W) => r13Short rv kv cv uv R K C U W (hc.ext hW)
  have CM := hid fun (W : World) (hW : Ext w W) => mxRight P m n v xs W (by omega) (by omega) (hv.ext hW) ok.u64
  have CH := hid fun (W : World) (hW : Ext w W) => shHas P R K C U rv kv cv uv W m n (by omega) (by omega) (hc.ext hW) hC hU
  have CI := hid fun (W : World) => prime_any (P : Int) W (by omega)
  rw [hS] at CS; rw [ok.b] at CM; rw [hI] at CI; rw [shpB_iff.2 hz] at CH
  have CL := hid fun (W : World) (hW : Ext w W) (vx : Value) (x : List Int) (hvx : Ints .u64 W vx x) (hx : Rng (P : Int) x) (hxl : x.length = n) => shLooks_yes P R K C U rv kv cv uv W m n v vx xs x ok hz (hc.ext hW) (hv.ext hW) hvx hx hxl
  have CT := hid fun (W : World) (hW : Ext w W) => cmTake P m n v xs W ok hf (hv.ext hW)
  obtain ⟨Z, eZ⟩ : ∃ Z, sameC (profZ P m n xs) (colsZ (takeL P m n xs)) ((takeL P m n xs).C.map (padL (takeL P m n xs).U.length)) (takeL P m n xs).U R K C U = Z := ⟨_, rfl⟩
  have cup := (show CupOk (P : Int) m n C U from by
    obtain ⟨m', n', e1, e2, h, -, -⟩ := hz.ok
    have e1' : m = m' := by omega
    have e2' : n = n' := by omega
    subst e1'; subst e2'
    exact h)
  obtain ⟨lk, elk⟩ : ∃ f, shlB (P : Int) m n xs C U = f := ⟨_, rfl⟩
  have elk' : looksB (P : Int) m U.length n C.flatten U.flatten xs = lk := elk
  have hzi : Z = true ↔ ∀ i, i < n → lk (unitV n i) = true := by
    rw [← elk', units_zero hp2.1, wrong_made ok cup, ← eZ, sameC_iff]
    exact hz.same ok hf
  have HZ := hid hzi
  have HU := hid fun i => unitV_rng (p := (P : Int)) hp2.1 n i
  have CZ := hid fun (W : World) (a b c d : Value) (hW : Ext w W) (h : ClmR W a b c d (profZ P m n xs) (colsZ (takeL P m n xs)) ((takeL P m n xs).C.map (padL (takeL P m n xs).U.length)) (takeL P m n xs).U) => r13Same a b c d rv kv cv uv _ _ _ _ R K C U W h (hc.ext hW)
  rw [eZ] at CZ
  generalize profZ P m n xs = R' at CT CZ
  generalize colsZ (takeL P m n xs) = K' at CT CZ
  generalize (takeL P m n xs).C.map (padL (takeL P m n xs).U.length) = C' at CT CZ
  generalize (takeL P m n xs).U = U' at CT CZ
  rw [elk] at CL
  clear hS hI ok hz hf hp2 hC hU eZ cup hzi elk elk'
  obtain ⟨⟨a1, k1, rfl⟩, ⟨a2, k2, rfl⟩, ⟨a3, k3, rfl⟩, ⟨a4, k4, rfl⟩⟩ := hc.slices
  obtain ⟨a, cap, rfl, -, -, -⟩ := hv
  have hb2 := boxes2 w 25 29 #[.int .i64 (m : Int), .int .i64 (n : Int), .slice a xs.length cap] #[.slice a1 R.length k1, .slice a2 K.length k2, .slice a3 C.length k3, .slice a4 U.length k4]
  have HM := hid hb2.1; have HC := hid hb2.2.1; have hW0 := hid hb2.2.2
  obtain ⟨w0, hw0⟩ : ∃ W, (w.alloc (.cells #[.int .i64 (m : Int), .int .i64 (n : Int), .slice a xs.length cap] 25)).alloc (.cells #[.slice a1 R.length k1, .slice a2 K.length k2, .slice a3 C.length k3, .slice a4 U.length k4] 29) = W := ⟨_, rfl⟩
  rw [hw0] at HM HC hW0
  clear hb2
  unfold matV at CM CL CT
  unfold matV
  go_enter Try.func6, Try.ntmps6
  go_wp2_with fail
  refine (awake13 _).mono ?_
  rintro _ w1 ⟨rfl, x1⟩
  obtain ⟨p0, p1, p2⟩ := (HM.out.ext x1).at3; obtain ⟨c0, c1, c2, c3⟩ := (HC.out.ext x1).at4
  go_wp2_with fail
  refine (CS.out _ (hW0.out.trans x1)).mono ?_
  rintro _ w2 ⟨rfl, x2⟩
  clear p0 p1 p2 c0 c1 c2 c3
  go_wp2_with fail
  refine (CI.out _).mono ?_
  rintro _ _ ⟨rfl, rfl⟩
  have x12 := x1.trans x2
  obtain ⟨p0, p1, p2⟩ := (HM.out.ext x12).at3
  go_wp2_with fail
  refine (CM.out _ (hW0.out.trans x12)).mono ?_
  rintro _ w3 ⟨rfl, x3⟩
  clear p0 p1 p2
  have x13 := x12.trans x3
  obtain ⟨p0, p1, p2⟩ := (HM.out.ext x13).at3; obtain ⟨c0, c1, c2, c3⟩ := (HC.out.ext x13).at4
  go_wp2_with fail
  refine (CH.out _ (hW0.out.trans x13)).mono ?_
  rintro _ w4 ⟨rfl, x4⟩
  clear p0 p1 p2 c0 c1 c2 c3
  have x14 := x13.trans x4
  have HM4 := hid (HM.out.ext x14); have HC4 := hid (HC.out.ext x14)
  have y4 := hW0.out.trans x14
  go_wp2_with fail
  clear CS CM CI CH HM HC x1 x2 x3 x4 x12 x13 x14
  go_loopw [7, 8] (fun av iv wr => ∃ (k : Nat) (Ab : Bool), av = .bool Ab ∧ iv = .int .i64 k ∧ k ≤ n ∧ Hid (Ab = true ↔ ∀ j, j < k → lk (unitV n j) = true) ∧ Hid (Ext w4 wr)) (fun _ iv _ => n - (intOf iv).toNat)
  case atStart => exact ⟨0, true, rfl, rfl, Nat.zero_le _, hid ⟨fun _ j hj => absurd hj (Nat.not_lt_zero _), fun _ => rfl⟩, hid (Ext.refl _)⟩
  case round =>
    obtain ⟨k, Ab, rfl, rfl, hk, hA, hxk⟩ := hrel
    rename World => wr
    have yr := y4.trans hxk.out
    obtain ⟨p0, p1, p2⟩ := (HM4.out.ext hxk.out).at3
    by_cases hlt : k < n
    · have hg := made_get hlt
      have hk1 : (k : Int) < (n : Int) := by omega
      have z6 := (Ext.refl wr).alloc (.cells ((madeCells #[Value.int .u64 0] n).setIfInBounds k (.int .u64 1)) 22)
      have IE := hid (show Ints .u64 (wr.alloc (.cells ((madeCells #[Value.int .u64 0] n).setIfInBounds k (.int .u64 1)) 22)) (.slice (some ⟨wr.heap.size, 0, none⟩) n n) (unitV n k) from (WRow.made1 (w := wr) (t := 22) (n := n) (i := k) rfl).ints' (by rw [List.length_set, List.length_replicate]) (Nat.le_refl _) (by omega))
      have hmk := make_ints (P := Try.prog) 23 22 .u64 8 (by omega) (by kernel_rfl) (by kernel_rfl) n n (Nat.le_refl _) (by omega)
      obtain ⟨B, eB⟩ : ∃ B, lk (unitV n k) = B := ⟨_, rfl⟩
      have CL2 := hid fun (W : World) (hW : Ext w W) (v : Value) (hv : Ints .u64 W v (unitV n k)) => CL.out W hW v _ hv (HU.out k) (unitV_len n k)
      rw [eB] at CL2
      have EB := hid eB
      obtain ⟨q0, q1, q2⟩ := (HM4.out.ext (hxk.out.trans z6)).at3; obtain ⟨c0, c1, c2, c3⟩ := (HC4.out.ext (hxk.out.trans z6)).at4
      clear eB
      go_wp2_with fail
      refine (CL2.out _ (yr.trans z6) _ IE.out).mono ?_
      rintro _ w6 ⟨rfl, x6⟩
      clear p0 p1 p2 q0 q1 q2 c0 c1 c2 c3 hmk hg
      cases Ab with
      | false =>
        go_wp2_with fail
        go_roundw
        case rel => exact ⟨k + 1, false, rfl, by go_num, by omega, hid ⟨fun h => Bool.noConfusion h, fun h => hA.out.2 fun j hj => h j (by omega)⟩, hid (hxk.out.trans (z6.trans x6))⟩
        case measure => simp [intOf]; omega
      | true =>
        go_wp2_with fail
        go_roundw
        case rel => exact ⟨k + 1, B, rfl, by go_num, by omega, hid ⟨fun h j hj => by
          by_cases e : j = k
          · rw [e, EB.out]; exact h
          · exact hA.out.1 (by trivial) j (by omega), fun h => by rw [← EB.out]; exact h k (by omega)⟩, hid (hxk.out.trans (z6.trans x6))⟩
        case measure => simp [intOf]; omega
    · obtain rfl : n = k := by omega
      have hAZ := hid (show Z = Ab by rw [Bool.eq_iff_iff, HZ.out, hA.out])
      go_wp2_with fail
      refine (CT.out _ yr).mono ?_
      rintro _ w5 ⟨rv5, kv5, cv5, uv5, rfl, h1, h2, h3, h4, x5⟩
      have cl : ClmR w5 rv5 kv5 cv5 uv5 R' K' C' U' := ⟨h1, h2, h3, h4⟩
      have CL5 := hid cl
      obtain ⟨⟨b1, l1, rfl⟩, ⟨b2, l2, rfl⟩, ⟨b3, l3, rfl⟩, ⟨b4, l4, rfl⟩⟩ := cl.slices
      clear cl h1 h2 h3 h4 p0 p1 p2
      have HD := hid (Blk.new w5 29 #[.slice b1 R'.length l1, .slice b2 K'.length l2, .slice b3 C'.length l3, .slice b4 U'.length l4])
      have z5 := (Ext.refl w5).alloc (.cells #[.slice b1 R'.length l1, .slice b2 K'.length l2, .slice b3 C'.length l3, .slice b4 U'.length l4] 29)
      have y5 := yr.trans (x5.trans z5)
      obtain ⟨c0, c1, c2, c3⟩ := (HC4.out.ext (hxk.out.trans (x5.trans z5))).at4
      obtain ⟨d0, d1, d2, d3⟩ := HD.out.at4
      go_wp2_with fail
      refine (CZ.out _ _ _ _ _ y5 (CL5.out.ext z5)).mono ?_
      rintro _ w6 ⟨rfl, x6⟩
      clear c0 c1 c2 c3 d0 d1 d2 d3
      obtain rfl : Z = Ab := hAZ.out
      go_wp2_with fail
      go_ret
      exact ⟨ret_bool (by simp), y5.trans x6⟩

theorem walk (p r c : Int) (v : Value) (xs : List Int) (rv kv cv uv : Value) (R K : List Int) (C U : List (List Int)) (w : World) (hp : (Lit.int .u64 p).wf = true)
    (_ : (Lit.int .i64 r).wf = true) (_ : (Lit.int .i64 c).wf = true) (hv : Ints .u64 w v xs) (hx : ∀ x ∈ xs, (Lit.int .u64 x).wf = true) (hc : ClmR w rv kv cv uv R K C U) (_ : ∀ x ∈ R, (Lit.int .i64 x).wf = true) (_ : ∀ x ∈ K, (Lit.int .i64 x).wf = true) (wC : ∀ l ∈ C, ∀ x ∈ l, (Lit.int .u64 x).wf = true) (wU : ∀ l ∈ U, ∀ x ∈ l, (Lit.int .u64 x).wf = true) :
    Calls Try.prog 6 #[.int .u64 p, .agg #[.int .i64 r, .int .i64 c, v], .agg #[rv, kv, cv, uv]] w (Ret (.bool true) w) := by
  have hp' := u64_wf hp
  have hx' : U64s xs := fun x hx' => by have := u64_wf (hx x hx'); omega
  have hC : ∀ l ∈ C, U64s l := fun l hl x hx => by have := u64_wf (wC l hl x hx); omega
  have hU : ∀ l ∈ U, U64s l := fun l hl x hx => by have := u64_wf (wU l hl x hx); omega
  cases h : (decide (xs.length ≤ 100) && (shortC R K C U && (takenB p && (matB p r c xs && shpB p r c R K C U))))
  · exact walk_skip p r c v xs rv kv cv uv R K C U w (by omega) (by omega) hv hx' hc hC hU h
  · simp only [Bool.and_eq_true, decide_eq_true_eq] at h
    obtain ⟨h3, h4, h2, h5, h6⟩ := h
    obtain ⟨m, n, rfl, rfl, ok⟩ := MatOk.of hx' h5
    obtain ⟨P, rfl⟩ := Int.eq_ofNat_of_zero_le (show 0 ≤ p by omega)
    exact walk_yes P m n v xs rv kv cv uv R K C U w h2 ok h3 h4 (shpB_iff.1 h6) hv hc hC hU

theorem own : ownKnob Try.prog.godebug = none := by kernel_rfl
set_option maxRecDepth 100000 in
theorem lifted (os : Os) (started : os.Started) (H : Type) (enc : TypeId × Value → H) :
    ReturnsInHanded {} Try.checked os 6 .any (Rows.shapeUnitsSpec.pre6 enc Try.prog Try.f6 Rows.shapeUnitsRow.domain false) (Rows.shapeUnitsSpec.post enc Try.prog Try.f6 false true false false) := by
  refine returnsInHanded_of_change (C := Try.checked) own started (by kernel_rfl) Try.func6
    (ChangeSpec.witness6 (enc := enc) (C := Try.checked) false ⟨#[], #[.int .u64 0, .agg #[.int .i64 0, .int .i64 0, .slice none 0 0], .agg #[.slice none 0 0, .slice none 0 0, .slice none 0 0, .slice none 0 0]], []⟩ 8 (by kernel_rfl) (by kernel_rfl) (by kernel_rfl) (by kernel_rfl)) ?_
  intro W base args ds gs before hval0 hW _ _
  have hval : ∀ (j : Nat) t v, Try.f6.params[j]? = some t → args[j]? = some v → Value.okWide Try.prog W .any base t v := hval0
  have hW' := hW
  obtain ⟨p, q, hA0, hV, rfl, _, _⟩ := hW
  have hA : DataW.TrodAll enc Try.prog W 0 (fun _ => true) true Try.f6.params.toList args.toList ds p := hA0
  rw [Try.params6] at hA hval
  obtain ⟨v0, vs0, d0, ds0, p0, q0, hargs, rfl, rfl, h0, r0⟩ := trodAll_cons hA
  obtain ⟨v1, vs1, d1, ds1, p1, q1, rfl, rfl, rfl, h1, r1⟩ := trodAll_cons r0
  obtain ⟨v2, vs2, d2, ds2, p2, q2, rfl, rfl, rfl, h2, r2⟩ := trodAll_cons r1
  obtain ⟨rfl, rfl, rfl⟩ := trodAll_nil r2
  obtain rfl : args = #[v0, v1, v2] := by cases args; simp_all
  obtain ⟨rfl, rfl⟩ := trodVars_none hV
  obtain ⟨a0, rfl, rfl, rfl, w0⟩ := open_int Try.underlying22 (hval 0 22 v0 rfl rfl) h0
  obtain ⟨mr1, mc1, mu1, xs1, rfl, wr1, wc1, i1, w1⟩ := open_Mat (hval 1 25 v1 rfl rfl) h1
  obtain ⟨rv2, kv2, cv2, uv2, R2, K2, C2, U2, rfl, cm2, wR2, wK2, wC2, wU2⟩ := open_Cup (hval 2 29 v2 rfl rfl) h2
  refine (walk a0 mr1 mc1 mu1 xs1 rv2 kv2 cv2 uv2 R2 K2 C2 U2 W w0 wr1 wc1 i1 w1 cm2 wR2 wK2 wC2 wU2).mono fun e W' ⟨he, hg⟩ => ⟨_, he, ?_⟩
  exact law_post (by kernel_rfl) (by kernel_rfl) rfl Try.underlying4 rfl rfl hW' hg

/-- the statement -/
theorem proved : Rows.ShapeUnitsSaid :=
  OpenClaim.holds_of_wide 6 Try.f6 rfl rfl rfl rfl rfl rfl rfl ⟨rfl, rfl, rfl, rfl, rfl⟩ rfl rfl rfl rfl rfl (by kernel_rfl) Try.func6 (by kernel_rfl)
    (of_decide_eq_true (by kernel_rfl)) (by unfold Func.isWrapper; first | (rw [if_pos (by decide +kernel)]; kernel_rfl) | (rw [if_neg (by decide +kernel)]; exact ⟨rfl, rfl⟩))
    (fun os started H enc _ => lifted os started H enc)
end Go.Proofs.Ytnfnommiabalfaa.shapeUnits
