/- ShapeOne: whatever the number, the matrix, the claim and the vector, the law answers true, and nothing that was there has turned. No condition. -/
import Derived.Test.YtnfnommiabalfaaShapeOneS
import Derived.Test.YtnfnommiabalfaaBun23
import Derived.Test.YtnfnommiabalfaaOpenClm
namespace Go.Proofs.Ytnfnommiabalfaa.shapeOne
open Go.ChangeShapes Go.WideShapes Go.ChangeAt Go.RowKit Go.Maps

theorem vec_any {p : Int} {n : Nat} {x : List Int} (hx : U64s x) : (Rng p x ∧ x.length = n) ∨ vecB p n x = false := by
  cases h : vecB p n x
  · exact .inr rfl
  · unfold vecB at h
    rw [Bool.and_eq_true, decide_eq_true_iff] at h
    exact .inl ⟨rng_of hx h.2, by omega⟩
theorem shl_taken {P m n : Nat} {xs : List Int} (x : List Int) (ok : MatOk (P : Int) m n xs) (hf : Fld (P : Int)) :
    shlB (P : Int) m n xs ((takeL P m n xs).C.map (padL (takeL P m n xs).U.length)) (takeL P m n xs).U x = true := by
  have hp2 := rightB_true ok.hp
  have cup := take_parts ok hf
  have e := (wrong_made ok cup).2 (make_take hp2.1 hf ok.hx ok.hl ok.hn.1 _)
  unfold shlB
  rw [looks_ker]
  unfold kerB
  refine decide_eq_true fun i hi => ?_
  have : appF n (rowOf n (wrongL (P : Int) m (takeL P m n xs).U.length n ((takeL P m n xs).C.map (padL (takeL P m n xs).U.length)).flatten (takeL P m n xs).U.flatten xs)) (atV x) i = 0 := by
    unfold appF
    refine sm_zero fun j hj => ?_
    rw [show (rowOf n (wrongL (P : Int) m (takeL P m n xs).U.length n ((takeL P m n xs).C.map (padL (takeL P m n xs).U.length)).flatten (takeL P m n xs).U.flatten xs) i).getD j 0 = _ from tab_get _ hj]
    rw [zeroB_iff, wrongL_len] at e
    rw [e _ (at_lt hi hj), Int.zero_mul]
  rw [this]
  rfl
set_option maxRecDepth 100000 in
set_option maxHeartbeats 8000000 in
theorem walk_yes (P m n : Nat) (v : Value) (xs : List Int) (rv kv cv uv : Value) (R K : List Int) (C U : List (List Int)) (vx : Value) (x : List Int) (w : World) (hI : takenB (P : Int) = true) (ok : MatOk (P : Int) m n xs) (hlen : xs.length ≤ 100) (hS : shortC R K C U = true)
    (hv : Ints .u64 w v xs) (hc : ClmR w rv kv cv uv R K C U) (hC : ∀ l ∈ C, U64s l) (hU : ∀ l ∈ U, U64s l) (hvx : Ints .u64 w vx x) (hx : U64s x) :
    Calls Try.prog 3 #[.int .u64 P, matV m n v, .agg #[rv, kv, cv, uv], vx] w (Ret (.bool true) w) := by
  have hp2 := rightB_true ok.hp
  have hf : Fld (P : Int) := taken_fld hI
  have hn := ok.hn; have hm := ok.hm
  have h20 : U.length ≤ 20 := by
    unfold shortC at hS
    simp only [Bool.and_eq_true, decide_eq_true_eq] at hS
    exact hS.1.1.2
  have CS := hid fun (W : World) (hW : Ext w W) => r13Short rv kv cv uv R K C U W (hc.ext hW)
  have CM := hid fun (W : World) (hW : Ext w W) => mxRight P m n v xs W (by omega) (by omega) (hv.ext hW) ok.u64
  have CH := hid fun (W : World) (hW : Ext w W) => shHas P R K C U rv kv cv uv W m n (by omega) (by omega) (hc.ext hW) hC hU
  have CI := hid fun (W : World) => prime_any (P : Int) W (by omega)
  rw [hS] at CS; rw [ok.b] at CM; rw [hI] at CI
  have CT := hid fun (W : World) (hW : Ext w W) => cmTake P m n v xs W ok hf (hv.ext hW)
  have U1 : ∀ l ∈ (takeL (P : Int) m n xs).C.map (padL (takeL (P : Int) m n xs).U.length), U64s l := fun l hl => ((take_parts ok hf).c l hl).2.u64 hp2.2
  have U2 : ∀ l ∈ (takeL (P : Int) m n xs).U, U64s l := fun l hl => ((take_parts ok hf).u l hl).2.u64 hp2.2
  have CHT := hid fun (W : World) (a b c d : Value) (h : ClmR W a b c d (profZ P m n xs) (colsZ (takeL P m n xs)) ((takeL P m n xs).C.map (padL (takeL P m n xs).U.length)) (takeL P m n xs).U) => (show Calls Try.prog 12 #[.int .u64 P, .agg #[a, b, c, d], .int .i64 m, .int .i64 n] W (Ret (.bool true) W) from
    shpB_iff.2 (shp_taken ok hf) ▸ shHas P _ _ _ _ a b c d W m n (by omega) (by omega) h U1 U2)
  have CL : Hid (∃ (B : Bool) (E : Int), ((E = 0 ∧ B = true) ∨ (E = 1 ∧ B = false)) ∧ ∀ (W : World) (a b c d : Value), Ext w W → ClmR W a b c d (profZ P m n xs) (colsZ (takeL P m n xs)) ((takeL P m n xs).C.map (padL (takeL P m n xs).U.length)) (takeL P m n xs).U →
      Calls Try.prog 13 #[.int .u64 P, matV m n v, .agg #[a, b, c, d], vx] W (Ret (.tuple #[.bool B, .int .i64 E]) W)) := hid (by
    rcases vec_any (p := (P : Int)) (n := n) hx with ⟨h1, h2⟩ | h1
    · exact ⟨true, 0, .inl ⟨rfl, rfl⟩, fun W a b c d hW h => shl_taken x ok hf ▸ shLooks_yes P _ _ _ _ a b c d W m n v vx xs x ok (shp_taken ok hf) h (hv.ext hW) (hvx.ext hW) h1 h2⟩
    · exact ⟨false, 1, .inr ⟨rfl, rfl⟩, fun W a b c d hW h => shLooks_no P _ _ _ _ a b c d W m n v vx xs x ok (shp_taken ok hf) h (hv.ext hW) (hvx.ext hW) hx h1⟩)
  have CKN := hid fun (W : World) (hW : Ext w W) (h : makesB (P : Int) m n C U = false) => cmMake_no P m n C U R K rv kv cv uv W ok.hp hC hU (hc.r.ext hW) (hc.k.ext hW) (hc.c.ext hW) (hc.u.ext hW) h
  have cup : makesB (P : Int) m n C U = true → CupOk (P : Int) m n C U := fun h => by
    obtain ⟨m', n', e1, e2, h⟩ := (makesB_iff ok.hp hC hU (by omega)).1 h
    have e1' : m = m' := by omega
    have e2' : n = n' := by omega
    subst e1'; subst e2'
    exact h
  have CKY := hid fun (W : World) (hW : Ext w W) (h : makesB (P : Int) m n C U = true) => cmMake P m n C U R K rv kv cv uv W (cup h) (hc.r.ext hW) (hc.k.ext hW) (hc.c.ext hW) (hc.u.ext hW)
  have zcup : shpB (P : Int) m n R K C U = true → CupOk (P : Int) m n C U := fun h => by
    obtain ⟨m', n', e1, e2, h, -, -⟩ := (shpB_iff.1 h).ok
    have e1' : m = m' := by omega
    have e2' : n = n' := by omega
    subst e1'; subst e2'
    exact h
  have HM2 := hid fun (h : shpB (P : Int) m n R K C U = true) => (makesB_iff ok.hp hC hU (by omega)).2 ⟨m, n, rfl, rfl, zcup h⟩
  have CT2 := hid fun (h : shpB (P : Int) m n R K C U = true) (W : World) (z : Value) (hz : Ints .u64 W z (makeL (P : Int) C U m n)) => (show Calls Try.prog 11 #[.int .u64 P, matV m n z] W (RetCup R K C U W) from by
    have := cmTake P m n z (makeL (P : Int) C U m n) W (zcup h).made hf hz
    obtain ⟨e1, e2, e3, e4⟩ := (shpB_iff.1 h).taken hf
    rwa [e1, e2, e3, e4] at this)
  have CX := hid fun (W : World) (a b c d : Value) (hW : Ext w W) (h : ClmR W a b c d R K C U) => (show Calls Try.prog 15 #[.agg #[a, b, c, d], .agg #[rv, kv, cv, uv]] W (Ret (.bool true) W) from (sameC_iff.2 ⟨rfl, rfl, rfl, rfl⟩ : sameC R K C U R K C U = true) ▸ r13Same a b c d rv kv cv uv R K C U R K C U W h (hc.ext hW))
  have CD : Hid (∃ D : Int, shpB (P : Int) m n R K C U = true → m = n → (∀ W, Ext w W → Calls Try.prog 16 #[.int .u64 P, .agg #[rv, kv, cv, uv], .int .i64 m] W (Ret (.tuple #[.int .u64 D, .int .i64 0]) W)) ∧
      ∀ (W : World) (z : Value), Ints .u64 W z (makeL (P : Int) C U m n) → Calls Try.prog 17 #[.int .u64 P, matV m n z] W (Ret (.tuple #[.int .u64 D, .int .i64 0]) W)) := hid ⟨detF m (atF m (makeL (P : Int) C U m m)) % (P : Int), fun h e => by
    subst e
    exact ⟨fun W hW => shDet P R K C U rv kv cv uv W m hf (shpB_iff.1 h) (hc.ext hW), fun W z hz => cmDet_yes P m z _ W (zcup h).made hf hz⟩⟩
  obtain ⟨H, eH⟩ : ∃ B, shpB (P : Int) m n R K C U = B := ⟨_, rfl⟩
  rw [eH] at CH HM2 CT2 CD
  obtain ⟨M2, eM⟩ : ∃ B, makesB (P : Int) m n C U = B := ⟨_, rfl⟩
  rw [eM] at CKN CKY HM2
  obtain ⟨mk, emk⟩ : ∃ l, makeL (P : Int) C U m n = l := ⟨_, rfl⟩
  rw [emk] at CKY CT2 CD
  generalize profZ P m n xs = R' at CT CHT CL
  generalize colsZ (takeL P m n xs) = K' at CT CHT CL
  generalize (takeL P m n xs).C.map (padL (takeL P m n xs).U.length) = C' at CT CHT CL
  generalize (takeL P m n xs).U = U' at CT CHT CL
  obtain ⟨D, hD⟩ := CD.out
  have CD := hid hD
  clear hS hI ok hf hp2 hC hU hx h20 U1 U2 cup zcup eH eM emk hD
  obtain ⟨⟨a1, k1, rfl⟩, ⟨a2, k2, rfl⟩, ⟨a3, k3, rfl⟩, ⟨a4, k4, rfl⟩⟩ := hc.slices
  obtain ⟨a, cap, rfl, -, -, -⟩ := hv
  have hb2 := boxes2 w 25 29 #[.int .i64 (m : Int), .int .i64 (n : Int), .slice a xs.length cap] #[.slice a1 R.length k1, .slice a2 K.length k2, .slice a3 C.length k3, .slice a4 U.length k4]
  have HM := hid hb2.1; have HC := hid hb2.2.1; have hW0 := hid hb2.2.2
  obtain ⟨w0, hw0⟩ : ∃ W, (w.alloc (.cells #[.int .i64 (m : Int), .int .i64 (n : Int), .slice a xs.length cap] 25)).alloc (.cells #[.slice a1 R.length k1, .slice a2 K.length k2, .slice a3 C.length k3, .slice a4 U.length k4] 29) = W := ⟨_, rfl⟩
  rw [hw0] at HM HC hW0
  clear hb2
  obtain ⟨ax, kx, rfl, -, -, -⟩ := hvx
  unfold noMat at CKN
  unfold RetN at CKY
  unfold matV at CM CL CT CT2 CKY CD
  unfold matV
  go_enter Try.func3, Try.ntmps3
  go_wp2_with fail
  refine (awake13 _).mono ?_
  rintro _ w1 ⟨rfl, xw1⟩
  obtain ⟨hm_0, hm_1, hm_2⟩ := (HM.out.ext xw1).at3
  obtain ⟨hc_0, hc_1, hc_2, hc_3⟩ := (HC.out.ext xw1).at4
  go_wp2_with fail
  refine (CS.out _ (hW0.out.trans xw1)).mono ?_
  rintro _ w2 ⟨rfl, xw2⟩
  clear hm_0 hm_1 hm_2 hc_0 hc_1 hc_2 hc_3
  go_wp2_with fail
  refine (CI.out _).mono ?_
  rintro _ _ ⟨rfl, rfl⟩
  obtain ⟨hm_0, hm_1, hm_2⟩ := (HM.out.ext (xw1.trans xw2)).at3
  go_wp2_with fail
  refine (CM.out _ (hW0.out.trans (xw1.trans xw2))).mono ?_
  rintro _ w3 ⟨rfl, xw3⟩
  clear hm_0 hm_1 hm_2
  obtain ⟨hm_0, hm_1, hm_2⟩ := (HM.out.ext (xw1.trans (xw2.trans xw3))).at3
  go_wp2_with fail
  refine (CT.out _ (hW0.out.trans (xw1.trans (xw2.trans xw3)))).mono ?_
  rintro _ w5 ⟨rv5, kv5, cv5, uv5, rfl, h1, h2, h3, h4, xw5⟩
  clear hm_0 hm_1 hm_2
  have cl : ClmR w5 rv5 kv5 cv5 uv5 R' K' C' U' := ⟨h1, h2, h3, h4⟩
  have CL5 := hid cl
  obtain ⟨⟨b1, bk1, rfl⟩, ⟨b2, bk2, rfl⟩, ⟨b3, bk3, rfl⟩, ⟨b4, bk4, rfl⟩⟩ := cl.slices
  clear cl h1 h2 h3 h4
  have z6 := (Ext.refl w5).alloc (.cells #[.slice b1 R'.length bk1, .slice b2 K'.length bk2, .slice b3 C'.length bk3, .slice b4 U'.length bk4] 29)
  have HD := hid (Blk.new w5 29 #[.slice b1 R'.length bk1, .slice b2 K'.length bk2, .slice b3 C'.length bk3, .slice b4 U'.length bk4])
  obtain ⟨hm_0, hm_1, hm_2⟩ := (HM.out.ext (xw1.trans (xw2.trans (xw3.trans (xw5.trans z6))))).at3
  obtain ⟨hd_0, hd_1, hd_2, hd_3⟩ := HD.out.at4
  go_wp2_with fail
  refine (CHT.out _ _ _ _ _ (CL5.out.ext z6)).mono ?_
  rintro _ w6 ⟨rfl, xw6⟩
  clear hm_0 hm_1 hm_2 hd_0 hd_1 hd_2 hd_3
  obtain ⟨B, E, hBE, CL⟩ := CL.out
  have CL := hid CL
  obtain ⟨hm_0, hm_1, hm_2⟩ := (HM.out.ext (xw1.trans (xw2.trans (xw3.trans (xw5.trans (z6.trans xw6)))))).at3
  obtain ⟨hd_0, hd_1, hd_2, hd_3⟩ := (HD.out.ext xw6).at4
  go_wp2_with fail
  refine (CL.out _ _ _ _ _ (hW0.out.trans (xw1.trans (xw2.trans (xw3.trans (xw5.trans (z6.trans xw6)))))) (CL5.out.ext (z6.trans xw6))).mono ?_
  rintro _ w7 ⟨rfl, xw7⟩
  clear hm_0 hm_1 hm_2 hd_0 hd_1 hd_2 hd_3
  rcases hBE with ⟨rfl, rfl⟩ | ⟨rfl, rfl⟩
  · cases M2
    · obtain ⟨hm_0, hm_1, hm_2⟩ := (HM.out.ext (xw1.trans (xw2.trans (xw3.trans (xw5.trans (z6.trans (xw6.trans xw7))))))).at3
      obtain ⟨hc_0, hc_1, hc_2, hc_3⟩ := (HC.out.ext (xw1.trans (xw2.trans (xw3.trans (xw5.trans (z6.trans (xw6.trans xw7))))))).at4
      go_wp2_with fail
      refine (CKN.out _ (hW0.out.trans (xw1.trans (xw2.trans (xw3.trans (xw5.trans (z6.trans (xw6.trans xw7))))))) (by trivial)).mono ?_
      rintro _ w8 ⟨rfl, xw8⟩
      clear hm_0 hm_1 hm_2 hc_0 hc_1 hc_2 hc_3
      have z10 := (Ext.refl w8).alloc (.cells #[.int .i64 0, .int .i64 0, .slice none 0 0] 25)
      have HN := hid (Blk.new w8 25 #[.int .i64 0, .int .i64 0, .slice none 0 0])
      obtain ⟨hm_0, hm_1, hm_2⟩ := (HM.out.ext (xw1.trans (xw2.trans (xw3.trans (xw5.trans (z6.trans (xw6.trans (xw7.trans (xw8.trans z10))))))))).at3
      obtain ⟨hc_0, hc_1, hc_2, hc_3⟩ := (HC.out.ext (xw1.trans (xw2.trans (xw3.trans (xw5.trans (z6.trans (xw6.trans (xw7.trans (xw8.trans z10))))))))).at4
      go_wp2_with fail
      refine (CH.out _ (hW0.out.trans (xw1.trans (xw2.trans (xw3.trans (xw5.trans (z6.trans (xw6.trans (xw7.trans (xw8.trans z10)))))))))).mono ?_
      rintro _ w9 ⟨rfl, xw9⟩
      clear hm_0 hm_1 hm_2 hc_0 hc_1 hc_2 hc_3
      cases H
      · go_wp2_with fail
        go_ret
        exact ⟨rfl, (hW0.out.trans (xw1.trans (xw2.trans (xw3.trans (xw5.trans (z6.trans (xw6.trans (xw7.trans (xw8.trans (z10.trans xw9))))))))))⟩
      exact absurd (HM2.out (by trivial)) (by simp)
    · obtain ⟨hm_0, hm_1, hm_2⟩ := (HM.out.ext (xw1.trans (xw2.trans (xw3.trans (xw5.trans (z6.trans (xw6.trans xw7))))))).at3
      obtain ⟨hc_0, hc_1, hc_2, hc_3⟩ := (HC.out.ext (xw1.trans (xw2.trans (xw3.trans (xw5.trans (z6.trans (xw6.trans xw7))))))).at4
      go_wp2_with fail
      refine (CKY.out _ (hW0.out.trans (xw1.trans (xw2.trans (xw3.trans (xw5.trans (z6.trans (xw6.trans xw7))))))) (by trivial)).mono ?_
      rintro _ w8 ⟨u8, rfl, i8, xw8⟩
      clear hm_0 hm_1 hm_2 hc_0 hc_1 hc_2 hc_3
      have I8 := hid i8
      obtain ⟨a8, k8, rfl, -, -, -⟩ := i8
      have z10 := (Ext.refl w8).alloc (.cells #[.int .i64 (m : Int), .int .i64 (n : Int), .slice a8 mk.length k8] 25)
      have HN := hid (Blk.new w8 25 #[.int .i64 (m : Int), .int .i64 (n : Int), .slice a8 mk.length k8])
      obtain ⟨hm_0, hm_1, hm_2⟩ := (HM.out.ext (xw1.trans (xw2.trans (xw3.trans (xw5.trans (z6.trans (xw6.trans (xw7.trans (xw8.trans z10))))))))).at3
      obtain ⟨hc_0, hc_1, hc_2, hc_3⟩ := (HC.out.ext (xw1.trans (xw2.trans (xw3.trans (xw5.trans (z6.trans (xw6.trans (xw7.trans (xw8.trans z10))))))))).at4
      go_wp2_with fail
      refine (CH.out _ (hW0.out.trans (xw1.trans (xw2.trans (xw3.trans (xw5.trans (z6.trans (xw6.trans (xw7.trans (xw8.trans z10)))))))))).mono ?_
      rintro _ w9 ⟨rfl, xw9⟩
      clear hm_0 hm_1 hm_2 hc_0 hc_1 hc_2 hc_3
      cases H
      · go_wp2_with fail
        go_ret
        exact ⟨rfl, (hW0.out.trans (xw1.trans (xw2.trans (xw3.trans (xw5.trans (z6.trans (xw6.trans (xw7.trans (xw8.trans (z10.trans xw9))))))))))⟩
      obtain ⟨hn_0, hn_1, hn_2⟩ := (HN.out.ext xw9).at3
      go_wp2_with fail
      refine (CT2.out (by trivial) _ _ (I8.out.ext (z10.trans xw9))).mono ?_
      rintro _ w10 ⟨rv10, kv10, cv10, uv10, rfl, h1, h2, h3, h4, xw10⟩
      clear hn_0 hn_1 hn_2
      have cl : ClmR w10 rv10 kv10 cv10 uv10 R K C U := ⟨h1, h2, h3, h4⟩
      have CL10 := hid cl
      obtain ⟨⟨d1, dk1, rfl⟩, ⟨d2, dk2, rfl⟩, ⟨d3, dk3, rfl⟩, ⟨d4, dk4, rfl⟩⟩ := cl.slices
      clear cl h1 h2 h3 h4
      have z13 := (Ext.refl w10).alloc (.cells #[.slice d1 R.length dk1, .slice d2 K.length dk2, .slice d3 C.length dk3, .slice d4 U.length dk4] 29)
      have HE := hid (Blk.new w10 29 #[.slice d1 R.length dk1, .slice d2 K.length dk2, .slice d3 C.length dk3, .slice d4 U.length dk4])
      obtain ⟨hc_0, hc_1, hc_2, hc_3⟩ := (HC.out.ext (xw1.trans (xw2.trans (xw3.trans (xw5.trans (z6.trans (xw6.trans (xw7.trans (xw8.trans (z10.trans (xw9.trans (xw10.trans z13)))))))))))).at4
      obtain ⟨he_0, he_1, he_2, he_3⟩ := HE.out.at4
      go_wp2_with fail
      refine (CX.out _ _ _ _ _ (hW0.out.trans (xw1.trans (xw2.trans (xw3.trans (xw5.trans (z6.trans (xw6.trans (xw7.trans (xw8.trans (z10.trans (xw9.trans (xw10.trans z13)))))))))))) (CL10.out.ext z13)).mono ?_
      rintro _ w11 ⟨rfl, xw11⟩
      clear hc_0 hc_1 hc_2 hc_3 he_0 he_1 he_2 he_3
      by_cases hmn : m = n
      case neg =>
        have b1 : ((m : Int) != (n : Int)) = true := by simp; omega
        obtain ⟨hm_0, hm_1, hm_2⟩ := (HM.out.ext (xw1.trans (xw2.trans (xw3.trans (xw5.trans (z6.trans (xw6.trans (xw7.trans (xw8.trans (z10.trans (xw9.trans (xw10.trans (z13.trans xw11))))))))))))).at3
        go_wp2_with fail
        go_ret
        exact ⟨rfl, (hW0.out.trans (xw1.trans (xw2.trans (xw3.trans (xw5.trans (z6.trans (xw6.trans (xw7.trans (xw8.trans (z10.trans (xw9.trans (xw10.trans (z13.trans xw11)))))))))))))⟩
      obtain ⟨D1, D2⟩ := CD.out (by trivial) hmn
      have D1 := hid D1; have D2 := hid D2
      have b1 : ((m : Int) != (n : Int)) = false := by simp; omega
      clear hmn
      obtain ⟨hm_0, hm_1, hm_2⟩ := (HM.out.ext (xw1.trans (xw2.trans (xw3.trans (xw5.trans (z6.trans (xw6.trans (xw7.trans (xw8.trans (z10.trans (xw9.trans (xw10.trans (z13.trans xw11))))))))))))).at3
      obtain ⟨hc_0, hc_1, hc_2, hc_3⟩ := (HC.out.ext (xw1.trans (xw2.trans (xw3.trans (xw5.trans (z6.trans (xw6.trans (xw7.trans (xw8.trans (z10.trans (xw9.trans (xw10.trans (z13.trans xw11))))))))))))).at4
      go_wp2_with fail
      refine (D1.out _ (hW0.out.trans (xw1.trans (xw2.trans (xw3.trans (xw5.trans (z6.trans (xw6.trans (xw7.trans (xw8.trans (z10.trans (xw9.trans (xw10.trans (z13.trans xw11)))))))))))))).mono ?_
      rintro _ w12 ⟨rfl, xw12⟩
      clear hm_0 hm_1 hm_2 hc_0 hc_1 hc_2 hc_3
      obtain ⟨hn_0, hn_1, hn_2⟩ := (HN.out.ext (xw9.trans (xw10.trans (z13.trans (xw11.trans xw12))))).at3
      go_wp2_with fail
      refine (D2.out _ _ (I8.out.ext (z10.trans (xw9.trans (xw10.trans (z13.trans (xw11.trans xw12))))))).mono ?_
      rintro _ w13 ⟨rfl, xw13⟩
      clear hn_0 hn_1 hn_2
      go_wp2_with fail
      go_ret
      exact ⟨ret_bool (by simp), (hW0.out.trans (xw1.trans (xw2.trans (xw3.trans (xw5.trans (z6.trans (xw6.trans (xw7.trans (xw8.trans (z10.trans (xw9.trans (xw10.trans (z13.trans (xw11.trans (xw12.trans xw13)))))))))))))))⟩
  · cases M2
    · obtain ⟨hm_0, hm_1, hm_2⟩ := (HM.out.ext (xw1.trans (xw2.trans (xw3.trans (xw5.trans (z6.trans (xw6.trans xw7))))))).at3
      obtain ⟨hc_0, hc_1, hc_2, hc_3⟩ := (HC.out.ext (xw1.trans (xw2.trans (xw3.trans (xw5.trans (z6.trans (xw6.trans xw7))))))).at4
      go_wp2_with fail
      refine (CKN.out _ (hW0.out.trans (xw1.trans (xw2.trans (xw3.trans (xw5.trans (z6.trans (xw6.trans xw7))))))) (by trivial)).mono ?_
      rintro _ w8 ⟨rfl, xw8⟩
      clear hm_0 hm_1 hm_2 hc_0 hc_1 hc_2 hc_3
      have z10 := (Ext.refl w8).alloc (.cells #[.int .i64 0, .int .i64 0, .slice none 0 0] 25)
      have HN := hid (Blk.new w8 25 #[.int .i64 0, .int .i64 0, .slice none 0 0])
      obtain ⟨hm_0, hm_1, hm_2⟩ := (HM.out.ext (xw1.trans (xw2.trans (xw3.trans (xw5.trans (z6.trans (xw6.trans (xw7.trans (xw8.trans z10))))))))).at3
      obtain ⟨hc_0, hc_1, hc_2, hc_3⟩ := (HC.out.ext (xw1.trans (xw2.trans (xw3.trans (xw5.trans (z6.trans (xw6.trans (xw7.trans (xw8.trans z10))))))))).at4
      go_wp2_with fail
      refine (CH.out _ (hW0.out.trans (xw1.trans (xw2.trans (xw3.trans (xw5.trans (z6.trans (xw6.trans (xw7.trans (xw8.trans z10)))))))))).mono ?_
      rintro _ w9 ⟨rfl, xw9⟩
      clear hm_0 hm_1 hm_2 hc_0 hc_1 hc_2 hc_3
      cases H
      · go_wp2_with fail
        go_ret
        exact ⟨rfl, (hW0.out.trans (xw1.trans (xw2.trans (xw3.trans (xw5.trans (z6.trans (xw6.trans (xw7.trans (xw8.trans (z10.trans xw9))))))))))⟩
      exact absurd (HM2.out (by trivial)) (by simp)
    · obtain ⟨hm_0, hm_1, hm_2⟩ := (HM.out.ext (xw1.trans (xw2.trans (xw3.trans (xw5.trans (z6.trans (xw6.trans xw7))))))).at3
      obtain ⟨hc_0, hc_1, hc_2, hc_3⟩ := (HC.out.ext (xw1.trans (xw2.trans (xw3.trans (xw5.trans (z6.trans (xw6.trans xw7))))))).at4
      go_wp2_with fail
      refine (CKY.out _ (hW0.out.trans (xw1.trans (xw2.trans (xw3.trans (xw5.trans (z6.trans (xw6.trans xw7))))))) (by trivial)).mono ?_
      rintro _ w8 ⟨u8, rfl, i8, xw8⟩
      clear hm_0 hm_1 hm_2 hc_0 hc_1 hc_2 hc_3
      have I8 := hid i8
      obtain ⟨a8, k8, rfl, -, -, -⟩ := i8
      have z10 := (Ext.refl w8).alloc (.cells #[.int .i64 (m : Int), .int .i64 (n : Int), .slice a8 mk.length k8] 25)
      have HN := hid (Blk.new w8 25 #[.int .i64 (m : Int), .int .i64 (n : Int), .slice a8 mk.length k8])
      obtain ⟨hm_0, hm_1, hm_2⟩ := (HM.out.ext (xw1.trans (xw2.trans (xw3.trans (xw5.trans (z6.trans (xw6.trans (xw7.trans (xw8.trans z10))))))))).at3
      obtain ⟨hc_0, hc_1, hc_2, hc_3⟩ := (HC.out.ext (xw1.trans (xw2.trans (xw3.trans (xw5.trans (z6.trans (xw6.trans (xw7.trans (xw8.trans z10))))))))).at4
      go_wp2_with fail
      refine (CH.out _ (hW0.out.trans (xw1.trans (xw2.trans (xw3.trans (xw5.trans (z6.trans (xw6.trans (xw7.trans (xw8.trans z10)))))))))).mono ?_
      rintro _ w9 ⟨rfl, xw9⟩
      clear hm_0 hm_1 hm_2 hc_0 hc_1 hc_2 hc_3
      cases H
      · go_wp2_with fail
        go_ret
        exact ⟨rfl, (hW0.out.trans (xw1.trans (xw2.trans (xw3.trans (xw5.trans (z6.trans (xw6.trans (xw7.trans (xw8.trans (z10.trans xw9))))))))))⟩
      obtain ⟨hn_0, hn_1, hn_2⟩ := (HN.out.ext xw9).at3
      go_wp2_with fail
      refine (CT2.out (by trivial) _ _ (I8.out.ext (z10.trans xw9))).mono ?_
      rintro _ w10 ⟨rv10, kv10, cv10, uv10, rfl, h1, h2, h3, h4, xw10⟩
      clear hn_0 hn_1 hn_2
      have cl : ClmR w10 rv10 kv10 cv10 uv10 R K C U := ⟨h1, h2, h3, h4⟩
      have CL10 := hid cl
      obtain ⟨⟨d1, dk1, rfl⟩, ⟨d2, dk2, rfl⟩, ⟨d3, dk3, rfl⟩, ⟨d4, dk4, rfl⟩⟩ := cl.slices
      clear cl h1 h2 h3 h4
      have z13 := (Ext.refl w10).alloc (.cells #[.slice d1 R.length dk1, .slice d2 K.length dk2, .slice d3 C.length dk3, .slice d4 U.length dk4] 29)
      have HE := hid (Blk.new w10 29 #[.slice d1 R.length dk1, .slice d2 K.length dk2, .slice d3 C.length dk3, .slice d4 U.length dk4])
      obtain ⟨hc_0, hc_1, hc_2, hc_3⟩ := (HC.out.ext (xw1.trans (xw2.trans (xw3.trans (xw5.trans (z6.trans (xw6.trans (xw7.trans (xw8.trans (z10.trans (xw9.trans (xw10.trans z13)))))))))))).at4
      obtain ⟨he_0, he_1, he_2, he_3⟩ := HE.out.at4
      go_wp2_with fail
      refine (CX.out _ _ _ _ _ (hW0.out.trans (xw1.trans (xw2.trans (xw3.trans (xw5.trans (z6.trans (xw6.trans (xw7.trans (xw8.trans (z10.trans (xw9.trans (xw10.trans z13)))))))))))) (CL10.out.ext z13)).mono ?_
      rintro _ w11 ⟨rfl, xw11⟩
      clear hc_0 hc_1 hc_2 hc_3 he_0 he_1 he_2 he_3
      by_cases hmn : m = n
      case neg =>
        have b1 : ((m : Int) != (n : Int)) = true := by simp; omega
        obtain ⟨hm_0, hm_1, hm_2⟩ := (HM.out.ext (xw1.trans (xw2.trans (xw3.trans (xw5.trans (z6.trans (xw6.trans (xw7.trans (xw8.trans (z10.trans (xw9.trans (xw10.trans (z13.trans xw11))))))))))))).at3
        go_wp2_with fail
        go_ret
        exact ⟨rfl, (hW0.out.trans (xw1.trans (xw2.trans (xw3.trans (xw5.trans (z6.trans (xw6.trans (xw7.trans (xw8.trans (z10.trans (xw9.trans (xw10.trans (z13.trans xw11)))))))))))))⟩
      obtain ⟨D1, D2⟩ := CD.out (by trivial) hmn
      have D1 := hid D1; have D2 := hid D2
      have b1 : ((m : Int) != (n : Int)) = false := by simp; omega
      clear hmn
      obtain ⟨hm_0, hm_1, hm_2⟩ := (HM.out.ext (xw1.trans (xw2.trans (xw3.trans (xw5.trans (z6.trans (xw6.trans (xw7.trans (xw8.trans (z10.trans (xw9.trans (xw10.trans (z13.trans xw11))))))))))))).at3
      obtain ⟨hc_0, hc_1, hc_2, hc_3⟩ := (HC.out.ext (xw1.trans (xw2.trans (xw3.trans (xw5.trans (z6.trans (xw6.trans (xw7.trans (xw8.trans (z10.trans (xw9.trans (xw10.trans (z13.trans xw11))))))))))))).at4
      go_wp2_with fail
      refine (D1.out _ (hW0.out.trans (xw1.trans (xw2.trans (xw3.trans (xw5.trans (z6.trans (xw6.trans (xw7.trans (xw8.trans (z10.trans (xw9.trans (xw10.trans (z13.trans xw11)))))))))))))).mono ?_
      rintro _ w12 ⟨rfl, xw12⟩
      clear hm_0 hm_1 hm_2 hc_0 hc_1 hc_2 hc_3
      obtain ⟨hn_0, hn_1, hn_2⟩ := (HN.out.ext (xw9.trans (xw10.trans (z13.trans (xw11.trans xw12))))).at3
      go_wp2_with fail
      refine (D2.out _ _ (I8.out.ext (z10.trans (xw9.trans (xw10.trans (z13.trans (xw11.trans xw12))))))).mono ?_
      rintro _ w13 ⟨rfl, xw13⟩
      clear hn_0 hn_1 hn_2
      go_wp2_with fail
      go_ret
      exact ⟨ret_bool (by simp), (hW0.out.trans (xw1.trans (xw2.trans (xw3.trans (xw5.trans (z6.trans (xw6.trans (xw7.trans (xw8.trans (z10.trans (xw9.trans (xw10.trans (z13.trans (xw11.trans (xw12.trans xw13)))))))))))))))⟩

theorem walk (p r c : Int) (v : Value) (xs : List Int) (rv kv cv uv : Value) (R K : List Int) (C U : List (List Int)) (vx : Value) (x : List Int) (w : World) (hp : (Lit.int .u64 p).wf = true)
    (_ : (Lit.int .i64 r).wf = true) (_ : (Lit.int .i64 c).wf = true) (hv : Ints .u64 w v xs) (hx : ∀ x ∈ xs, (Lit.int .u64 x).wf = true) (hc : ClmR w rv kv cv uv R K C U) (_ : ∀ x ∈ R, (Lit.int .i64 x).wf = true) (_ : ∀ x ∈ K, (Lit.int .i64 x).wf = true) (wC : ∀ l ∈ C, ∀ x ∈ l, (Lit.int .u64 x).wf = true) (wU : ∀ l ∈ U, ∀ x ∈ l, (Lit.int .u64 x).wf = true) (hvx : Ints .u64 w vx x) (hxx : ∀ y ∈ x, (Lit.int .u64 y).wf = true) :
    Calls Try.prog 3 #[.int .u64 p, .agg #[.int .i64 r, .int .i64 c, v], .agg #[rv, kv, cv, uv], vx] w (Ret (.bool true) w) := by
  have hp' := u64_wf hp
  have hx' : U64s xs := fun x hx' => by have := u64_wf (hx x hx'); omega
  have hxx' : U64s x := fun y hy => by have := u64_wf (hxx y hy); omega
  have hC : ∀ l ∈ C, U64s l := fun l hl x hx => by have := u64_wf (wC l hl x hx); omega
  have hU : ∀ l ∈ U, U64s l := fun l hl x hx => by have := u64_wf (wU l hl x hx); omega
  cases h : (decide (xs.length ≤ 100) && (shortC R K C U && (takenB p && (matB p r c xs))))
  · exact walk_skip p r c v xs rv kv cv uv R K C U vx x w (by omega) (by omega) hv hx' hc hvx h
  · simp only [Bool.and_eq_true, decide_eq_true_eq] at h
    obtain ⟨h3, h4, h2, h5⟩ := h
    obtain ⟨m, n, rfl, rfl, ok⟩ := MatOk.of hx' h5
    obtain ⟨P, rfl⟩ := Int.eq_ofNat_of_zero_le (show 0 ≤ p by omega)
    exact walk_yes P m n v xs rv kv cv uv R K C U vx x w h2 ok h3 h4 hv hc hC hU hvx hxx'

theorem own : ownKnob Try.prog.godebug = none := by kernel_rfl
set_option maxRecDepth 100000 in
theorem lifted (os : Os) (started : os.Started) (H : Type) (enc : TypeId × Value → H) :
    ReturnsInHanded {} Try.checked os 3 .any (Rows.shapeOneSpec.pre6 enc Try.prog Try.f3 Rows.shapeOneRow.domain false) (Rows.shapeOneSpec.post enc Try.prog Try.f3 false true false false) := by
  refine returnsInHanded_of_change (C := Try.checked) own started (by kernel_rfl) Try.func3
    (ChangeSpec.witness6 (enc := enc) (C := Try.checked) false ⟨#[], #[.int .u64 0, .agg #[.int .i64 0, .int .i64 0, .slice none 0 0], .agg #[.slice none 0 0, .slice none 0 0, .slice none 0 0, .slice none 0 0], .slice none 0 0], []⟩ 8 (by kernel_rfl) (by kernel_rfl) (by kernel_rfl) (by kernel_rfl)) ?_
  intro W base args ds gs before hval0 hW _ _
  have hval : ∀ (j : Nat) t v, Try.f3.params[j]? = some t → args[j]? = some v → Value.okWide Try.prog W .any base t v := hval0
  have hW' := hW
  obtain ⟨p, q, hA0, hV, rfl, _, _⟩ := hW
  have hA : DataW.TrodAll enc Try.prog W 0 (fun _ => true) true Try.f3.params.toList args.toList ds p := hA0
  rw [Try.params3] at hA hval
  obtain ⟨v0, vs0, d0, ds0, p0, q0, hargs, rfl, rfl, h0, r0⟩ := trodAll_cons hA
  obtain ⟨v1, vs1, d1, ds1, p1, q1, rfl, rfl, rfl, h1, r1⟩ := trodAll_cons r0
  obtain ⟨v2, vs2, d2, ds2, p2, q2, rfl, rfl, rfl, h2, r2⟩ := trodAll_cons r1
  obtain ⟨v3, vs3, d3, ds3, p3, q3, rfl, rfl, rfl, h3, r3⟩ := trodAll_cons r2
  obtain ⟨rfl, rfl, rfl⟩ := trodAll_nil r3
  obtain rfl : args = #[v0, v1, v2, v3] := by cases args; simp_all
  obtain ⟨rfl, rfl⟩ := trodVars_none hV
  obtain ⟨a0, rfl, rfl, rfl, w0⟩ := open_int Try.underlying22 (hval 0 22 v0 rfl rfl) h0
  obtain ⟨mr1, mc1, mu1, xs1, rfl, wr1, wc1, i1, w1⟩ := open_Mat (hval 1 25 v1 rfl rfl) h1
  obtain ⟨rv2, kv2, cv2, uv2, R2, K2, C2, U2, rfl, cm2, wR2, wK2, wC2, wU2⟩ := open_Cup (hval 2 29 v2 rfl rfl) h2
  obtain ⟨xs3, i3, w3⟩ := open_Ints Try.underlying23 Try.underlying22 (by kernel_rfl) (hval 3 23 v3 rfl rfl) h3
  refine (walk a0 mr1 mc1 mu1 xs1 rv2 kv2 cv2 uv2 R2 K2 C2 U2 v3 xs3 W w0 wr1 wc1 i1 w1 cm2 wR2 wK2 wC2 wU2 i3 w3).mono fun e W' ⟨he, hg⟩ => ⟨_, he, ?_⟩
  exact law_post (by kernel_rfl) (by kernel_rfl) rfl Try.underlying4 rfl rfl hW' hg

/-- the statement -/
theorem proved : Rows.ShapeOneSaid :=
  OpenClaim.holds_of_wide 3 Try.f3 rfl rfl rfl rfl rfl rfl rfl ⟨rfl, rfl, rfl, rfl, rfl⟩ rfl rfl rfl rfl rfl (by kernel_rfl) Try.func3 (by kernel_rfl)
    (of_decide_eq_true (by kernel_rfl)) (by unfold Func.isWrapper; first | (rw [if_pos (by decide +kernel)]; kernel_rfl) | (rw [if_neg (by decide +kernel)]; exact ⟨rfl, rfl⟩))
    (fun os started H enc _ => lifted os started H enc)
end Go.Proofs.Ytnfnommiabalfaa.shapeOne
