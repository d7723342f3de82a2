/- ShapeUnits: the ways on which nothing is asked. -/
import Derived.Test.YtnfnommiabalfaaBun22
namespace Go.Proofs.Ytnfnommiabalfaa.shapeUnits
open Go.ChangeShapes Go.WideShapes Go.ChangeAt Go.RowKit Go.Maps

set_option maxRecDepth 100000 in
set_option maxHeartbeats 4000000 in
theorem walk_skip (p r c : Int) (v : Value) (xs : List Int) (rv kv cv uv : Value) (R K : List Int) (C U : List (List Int)) (w : World) (h0 : 0 ≤ p) (h1 : p ≤ 18446744073709551615) (hv : Ints .u64 w v xs) (hx : U64s xs) (hc : ClmR w rv kv cv uv R K C U) (hC : ∀ l ∈ C, U64s l) (hU : ∀ l ∈ U, U64s l)
    (h : (decide (xs.length ≤ 100) && (shortC R K C U && (takenB p && (matB p r c xs && shpB p r c R K C U)))) = false) :
    Calls Try.prog 6 #[.int .u64 p, matV r c v, .agg #[rv, kv, cv, uv]] w (Ret (.bool true) w) := by
  have CS := hid fun (W : World) (hW : Ext w W) => r13Short rv kv cv uv R K C U W (hc.ext hW)
  have CM := hid fun (W : World) (hW : Ext w W) => mxRight p r c v xs W h0 h1 (hv.ext hW) hx
  have CH := hid fun (W : World) (hW : Ext w W) => shHas p R K C U rv kv cv uv W r c h0 h1 (hc.ext hW) hC hU
  have CI := hid fun (W : World) => prime_any p W h0
  obtain ⟨S, eS⟩ : ∃ B, shortC R K C U = B := ⟨_, rfl⟩
  rw [eS] at CS h
  obtain ⟨M, eM⟩ : ∃ B, matB p r c xs = B := ⟨_, rfl⟩
  rw [eM] at CM h
  obtain ⟨I, eI⟩ : ∃ B, takenB p = B := ⟨_, rfl⟩
  rw [eI] at CI h
  obtain ⟨H, eH⟩ : ∃ B, shpB p r c R K C U = B := ⟨_, rfl⟩
  rw [eH] at CH h
  clear eS eM eI eH hx hC hU
  have Hh := hid h
  clear h
  obtain ⟨⟨a1, k1, rfl⟩, ⟨a2, k2, rfl⟩, ⟨a3, k3, rfl⟩, ⟨a4, k4, rfl⟩⟩ := hc.slices
  obtain ⟨a, cap, rfl, -, -, -⟩ := hv
  have hb2 := boxes2 w 25 29 #[.int .i64 r, .int .i64 c, .slice a xs.length cap] #[.slice a1 R.length k1, .slice a2 K.length k2, .slice a3 C.length k3, .slice a4 U.length k4]
  have HM := hid hb2.1; have HC := hid hb2.2.1; have hW0 := hid hb2.2.2
  obtain ⟨w0, hw0⟩ : ∃ W, (w.alloc (.cells #[.int .i64 r, .int .i64 c, .slice a xs.length cap] 25)).alloc (.cells #[.slice a1 R.length k1, .slice a2 K.length k2, .slice a3 C.length k3, .slice a4 U.length k4] 29) = W := ⟨_, rfl⟩
  rw [hw0] at HM HC hW0
  clear hb2
  obtain ⟨len, elen⟩ : ∃ n, xs.length = n := ⟨_, rfl⟩
  have Hl := hid elen
  rw [elen] at CM HM Hh hw0 ⊢
  clear elen
  unfold matV at CM
  unfold matV
  go_enter Try.func6, Try.ntmps6
  go_wp2_with fail
  refine (awake13 _).mono ?_
  rintro _ w1 ⟨rfl, xw1⟩
  by_cases g2 : len ≤ 100
  case neg =>
    obtain ⟨hm_0, hm_1, hm_2⟩ := (HM.out.ext xw1).at3
    go_wp2_with fail
    go_ret
    exact ⟨rfl, (hW0.out.trans xw1)⟩
  obtain ⟨hm_0, hm_1, hm_2⟩ := (HM.out.ext xw1).at3
  obtain ⟨hc_0, hc_1, hc_2, hc_3⟩ := (HC.out.ext xw1).at4
  go_wp2_with fail
  refine (CS.out _ (hW0.out.trans xw1)).mono ?_
  rintro _ w2 ⟨rfl, xw2⟩
  clear hm_0 hm_1 hm_2 hc_0 hc_1 hc_2 hc_3
  cases S
  · obtain ⟨hm_0, hm_1, hm_2⟩ := (HM.out.ext (xw1.trans xw2)).at3
    go_wp2_with fail
    go_ret
    exact ⟨rfl, (hW0.out.trans (xw1.trans xw2))⟩
  go_wp2_with fail
  refine (CI.out _).mono ?_
  rintro _ _ ⟨rfl, rfl⟩
  cases I
  · obtain ⟨hm_0, hm_1, hm_2⟩ := (HM.out.ext (xw1.trans xw2)).at3
    go_wp2_with fail
    go_ret
    exact ⟨rfl, (hW0.out.trans (xw1.trans xw2))⟩
  obtain ⟨hm_0, hm_1, hm_2⟩ := (HM.out.ext (xw1.trans xw2)).at3
  go_wp2_with fail
  refine (CM.out _ (hW0.out.trans (xw1.trans xw2))).mono ?_
  rintro _ w3 ⟨rfl, xw3⟩
  clear hm_0 hm_1 hm_2
  cases M
  · obtain ⟨hm_0, hm_1, hm_2⟩ := (HM.out.ext (xw1.trans (xw2.trans xw3))).at3
    go_wp2_with fail
    go_ret
    exact ⟨rfl, (hW0.out.trans (xw1.trans (xw2.trans xw3)))⟩
  obtain ⟨hm_0, hm_1, hm_2⟩ := (HM.out.ext (xw1.trans (xw2.trans xw3))).at3
  obtain ⟨hc_0, hc_1, hc_2, hc_3⟩ := (HC.out.ext (xw1.trans (xw2.trans xw3))).at4
  go_wp2_with fail
  refine (CH.out _ (hW0.out.trans (xw1.trans (xw2.trans xw3)))).mono ?_
  rintro _ w4 ⟨rfl, xw4⟩
  clear hm_0 hm_1 hm_2 hc_0 hc_1 hc_2 hc_3
  cases H
  · go_wp2_with fail
    go_ret
    exact ⟨rfl, (hW0.out.trans (xw1.trans (xw2.trans (xw3.trans xw4))))⟩
  exact absurd Hh.out (by simp [g2])
end Go.Proofs.Ytnfnommiabalfaa.shapeUnits
