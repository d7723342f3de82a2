/- WitnessShows: whatever the number, the matrix and the vectors, the law answers true, and nothing that was there has turned. No condition. -/
import Derived.Test.YtdfkojbfgodegaaBun13
import Derived.Test.YtdfkojbfgodegaaBun23
import Derived.Test.YtdfkojbfgodegaaBun05
import Derived.Test.YtdfkojbfgodegaaBun07
import Derived.Test.YtdfkojbfgodegaaOpenMat
import Derived.Test.YtdfkojbfgodegaaBun20
namespace Go.Proofs.Ytdfkojbfgodegaa.witnessShows
open Go.ChangeShapes Go.WideShapes Go.ChangeAt Go.RowKit Go.Maps

set_option maxRecDepth 100000 in
set_option maxHeartbeats 4000000 in
theorem walk_skip (p r c : Int) (v vb vx vy : Value) (xs b x y : List Int) (w : World) (h0 : 0 ≤ p) (h1 : p ≤ 18446744073709551615) (hv : Ints .u64 w v xs) (hb : Ints .u64 w vb b) (hx : Ints .u64 w vx x) (hy : Ints .u64 w vy y) (uv : U64s xs) (ub : U64s b) (h : (decide (xs.length ≤ 100) && (decide (x.length ≤ 70) && (decide (y.length ≤ 70) && (takenB p && (matB p r c xs && (hasB p b && decide ((b.length : Int) = r))))))) = false) :
    Calls Try.prog 3 #[.int .u64 p, matV r c v, vb, vx, vy] w (Ret (.bool true) w) := by
  have CI := hid fun (W : World) => prime_any p W h0
  have CM := hid fun (W : World) (hW : Ext w W) => mxRight p r c v xs W h0 h1 (hv.ext hW) uv
  have Cb := hid fun (W : World) (hW : Ext w W) => rHas p vb b W h0 h1 (hb.ext hW) ub
  obtain ⟨I, eI⟩ : ∃ B, takenB p = B := ⟨_, rfl⟩
  rw [eI] at CI h
  obtain ⟨M, eM⟩ : ∃ B, matB p r c xs = B := ⟨_, rfl⟩
  rw [eM] at CM h
  obtain ⟨B, eB⟩ : ∃ B, hasB p b = B := ⟨_, rfl⟩
  rw [eB] at Cb h
  clear eI eM eB uv ub
  unfold matV at CM
  obtain ⟨a, cap, rfl, -, -, -⟩ := hv
  obtain ⟨ax, kx, rfl, -, -, -⟩ := hx
  obtain ⟨ay, ky, rfl, -, -, -⟩ := hy
  obtain ⟨ab, kb, rfl, -, -, -⟩ := hb
  have HM := hid (Blk.new w 25 #[.int .i64 r, .int .i64 c, .slice a xs.length cap])
  have hW0 := hid ((Ext.refl w).alloc (.cells #[.int .i64 r, .int .i64 c, .slice a xs.length cap] 25))
  unfold matV
  obtain ⟨LX, eLX⟩ : ∃ k, x.length = k := ⟨_, rfl⟩
  obtain ⟨LY, eLY⟩ : ∃ k, y.length = k := ⟨_, rfl⟩
  obtain ⟨LB, eLB⟩ : ∃ k, b.length = k := ⟨_, rfl⟩
  obtain ⟨LM, eLM⟩ : ∃ k, xs.length = k := ⟨_, rfl⟩
  rw [eLX, eLY, eLB, eLM] at h
  rw [eLB] at Cb; rw [eLM] at HM hW0 CM
  rw [eLX, eLY, eLB, eLM]
  clear eLX eLY eLB eLM
  have Hh := hid h
  clear h
  go_enter Try.func3, Try.ntmps3
  go_wp2_with fail
  refine (awake14 _).mono ?_
  rintro _ w1 ⟨rfl, xw1⟩
  by_cases g1 : LM ≤ 100
  case neg =>
    obtain ⟨hm_0, hm_1, hm_2⟩ := (HM.out.ext xw1).at3
    go_wp2_with fail
    go_ret
    exact ⟨rfl, (hW0.out.trans xw1)⟩
  by_cases g2 : LX ≤ 70
  case neg =>
    obtain ⟨hm_0, hm_1, hm_2⟩ := (HM.out.ext xw1).at3
    go_wp2_with fail
    go_ret
    exact ⟨rfl, (hW0.out.trans xw1)⟩
  by_cases g3 : LY ≤ 70
  case neg =>
    obtain ⟨hm_0, hm_1, hm_2⟩ := (HM.out.ext xw1).at3
    go_wp2_with fail
    go_ret
    exact ⟨rfl, (hW0.out.trans xw1)⟩
  obtain ⟨hm_0, hm_1, hm_2⟩ := (HM.out.ext xw1).at3
  go_wp2_with fail
  refine (CI.out _).mono ?_
  rintro _ _ ⟨rfl, rfl⟩
  clear hm_0 hm_1 hm_2
  cases I
  · obtain ⟨hm_0, hm_1, hm_2⟩ := (HM.out.ext xw1).at3
    go_wp2_with fail
    go_ret
    exact ⟨rfl, (hW0.out.trans xw1)⟩
  obtain ⟨hm_0, hm_1, hm_2⟩ := (HM.out.ext xw1).at3
  go_wp2_with fail
  refine (CM.out _ (hW0.out.trans xw1)).mono ?_
  rintro _ w2 ⟨rfl, xw2⟩
  clear hm_0 hm_1 hm_2
  cases M
  · obtain ⟨hm_0, hm_1, hm_2⟩ := (HM.out.ext (xw1.trans xw2)).at3
    go_wp2_with fail
    go_ret
    exact ⟨rfl, (hW0.out.trans (xw1.trans xw2))⟩
  obtain ⟨hm_0, hm_1, hm_2⟩ := (HM.out.ext (xw1.trans xw2)).at3
  go_wp2_with fail
  refine (Cb.out _ (hW0.out.trans (xw1.trans xw2))).mono ?_
  rintro _ _ ⟨rfl, rfl⟩
  clear hm_0 hm_1 hm_2
  cases B
  · obtain ⟨hm_0, hm_1, hm_2⟩ := (HM.out.ext (xw1.trans xw2)).at3
    go_wp2_with fail
    go_ret
    exact ⟨rfl, (hW0.out.trans (xw1.trans xw2))⟩
  have g4 : (LB : Int) ≠ r := fun e => absurd Hh.out (by simp [g1, g2, g3, e])
  have b1 : ((LB : Int) != r) = true := by rw [bne_iff_ne]; exact g4
  obtain ⟨hm_0, hm_1, hm_2⟩ := (HM.out.ext (xw1.trans xw2)).at3
  go_wp2_with fail
  go_ret
  exact ⟨rfl, (hW0.out.trans (xw1.trans xw2))⟩
set_option maxRecDepth 100000 in
set_option maxHeartbeats 4000000 in
theorem walk_yes (p : Int) (m n : Nat) (v vb vx vy : Value) (xs b x y : List Int) (w : World) (ok : MatOk p m n xs) (hT : takenB p = true) (hf : Fld p) (hlen : xs.length ≤ 100) (lx : x.length ≤ 70) (ly : y.length ≤ 70) (lb : b.length = m) (rb : Rng p b) (hv : Ints .u64 w v xs) (hb : Ints .u64 w vb b) (hx : Ints .u64 w vx x) (hy : Ints .u64 w vy y) (ux : U64s x) (uy : U64s y) :
    Calls Try.prog 3 #[.int .u64 p, matV m n v, vb, vx, vy] w (Ret (.bool true) w) := by
  have hp2 := rightB_true ok.hp
  have ub := rb.u64 hp2.2
  have uv := ok.u64
  have CI := hid fun (W : World) => (hT ▸ prime_any p W (by omega) : Calls Try.prog 7 #[.int .u64 p] W fun e w' => e = .returned (.bool true) ∧ W = w')
  have CM := hid fun (W : World) (hW : Ext w W) => (ok.b ▸ mxRight p m n v xs W (by omega) (by omega) (hv.ext hW) uv : Calls Try.prog 8 #[.int .u64 p, matV m n v] W (Ret (.bool true) W))
  have Cb := hid fun (W : World) (hW : Ext w W) => (rb.has ok.hp ▸ rHas p vb b W (by omega) (by omega) (hb.ext hW) ub : Calls Try.prog 9 #[.int .u64 p, vb] W fun e w' => e = .returned (.bool true) ∧ W = w')
  obtain ⟨e1, e2, s, s2, B, t1, t2, us, us2, C1, C2, q1, q2, F1, F2⟩ := wt_sol p m n v vb xs b w ok hf hv hb lb rb
  obtain ⟨e3, D, s3, B3, t3, us3, C3, F3⟩ := wt_ker p m n v xs w ok hf hv
  obtain ⟨e4, s4, B4, t4, us4, C4, q4, F4⟩ := wt_left p m n v xs w ok hf hv
  have C1 := hid C1; have C2 := hid C2; have C3 := hid C3; have C4 := hid C4; have F1 := hid (F1 x); have F2 := hid (F2 y uy); have F4 := hid (F4 y uy)
  have F3 := hid F3
  have CV1 := hid fun (W : World) (u : Value) (hW : Ext w W) (hu : Ints .u64 W u s) => (q1 ▸ wtSolves p m n v vb u xs b s W (by omega) (by omega) (hv.ext hW) uv (hb.ext hW) hu us : Calls Try.prog 14 #[.int .u64 p, matV m n v, vb, u] W (Ret (.bool B) W))
  have CA1 := hid fun (W : World) (u : Value) (hW : Ext w W) (hu : Ints .u64 W u s2) => (q2 ▸ wtAgainst p m n v vb u xs b s2 W (by omega) (by omega) (hv.ext hW) uv (hb.ext hW) ub hu us2 : Calls Try.prog 15 #[.int .u64 p, matV m n v, vb, u] W (Ret (.bool (!B)) W))
  have CS1 := hid fun (W : World) (u : Value) (hW : Ext w W) (hu : Ints .u64 W u s3) => wtSingular p m n v u xs s3 W (by omega) (by omega) (hv.ext hW) uv hu us3
  have CL1 := hid fun (W : World) (u : Value) (hW : Ext w W) (hu : Ints .u64 W u s4) => (q4 ▸ wtLoses p m n v u xs s4 W (by omega) (by omega) (hv.ext hW) uv hu us4 : Calls Try.prog 16 #[.int .u64 p, matV m n v, u] W (Ret (.bool B4) W))
  have CVx := hid fun (W : World) (hW : Ext w W) => wtSolves p m n v vb vx xs b x W (by omega) (by omega) (hv.ext hW) uv (hb.ext hW) (hx.ext hW) ux
  have CAy := hid fun (W : World) (hW : Ext w W) => wtAgainst p m n v vb vy xs b y W (by omega) (by omega) (hv.ext hW) uv (hb.ext hW) ub (hy.ext hW) uy
  have CLy := hid fun (W : World) (hW : Ext w W) => wtLoses p m n v vy xs y W (by omega) (by omega) (hv.ext hW) uv (hy.ext hW) uy
  obtain ⟨Vx, eVx⟩ : ∃ B, solA p m n xs b x = B := ⟨_, rfl⟩
  rw [eVx] at CVx F1
  clear eVx
  obtain ⟨Ay, eAy⟩ : ∃ B, agA p m n xs b y = B := ⟨_, rfl⟩
  rw [eAy] at CAy F2
  clear eAy
  obtain ⟨Ly, eLy⟩ : ∃ B, losA p m n xs y = B := ⟨_, rfl⟩
  rw [eLy] at CLy F4
  clear eLy
  obtain ⟨S3, eS3⟩ : ∃ B, sinA p m n xs s3 = B := ⟨_, rfl⟩
  rw [eS3] at CS1 F3
  clear eS3
  have T1 := hid t1; have T2 := hid t2; have T3 := hid t3; have T4 := hid t4
  clear hT hf rb uv ub ux uy us us2 us3 us4 q1 q2 q4 t1 t2 t3 t4 ok
  obtain ⟨a, cap, rfl, -, -, -⟩ := hv
  obtain ⟨ax, kx, rfl, -, -, -⟩ := hx
  obtain ⟨ay, ky, rfl, -, -, -⟩ := hy
  obtain ⟨ab, kb, rfl, -, -, -⟩ := hb
  unfold matV RetE at C1 C2 C3 C4
  unfold matV at CM CV1 CA1 CS1 CL1 CVx CAy CLy F3
  unfold matV
  rw [lb] at *
  have HM := hid (Blk.new w 25 #[.int .i64 (m : Int), .int .i64 (n : Int), .slice a xs.length cap])
  have hW0 := hid ((Ext.refl w).alloc (.cells #[.int .i64 (m : Int), .int .i64 (n : Int), .slice a xs.length cap] 25))
  go_enter Try.func3, Try.ntmps3
  go_wp2_with fail
  refine (awake14 _).mono ?_
  rintro _ w1 ⟨rfl, xw1⟩
  obtain ⟨hm_0, hm_1, hm_2⟩ := (HM.out.ext xw1).at3
  go_wp2_with fail
  refine (CI.out _).mono ?_
  rintro _ _ ⟨rfl, rfl⟩
  go_wp2_with fail
  refine (CM.out _ (hW0.out.trans xw1)).mono ?_
  rintro _ w2 ⟨rfl, xw2⟩
  clear hm_0 hm_1 hm_2
  obtain ⟨hm_0, hm_1, hm_2⟩ := (HM.out.ext (xw1.trans xw2)).at3
  go_wp2_with fail
  refine (Cb.out _ (hW0.out.trans (xw1.trans xw2))).mono ?_
  rintro _ _ ⟨rfl, rfl⟩
  have b0 : ((m : Int) != (m : Int)) = false := by simp
  clear hm_0 hm_1 hm_2
  obtain ⟨hm_0, hm_1, hm_2⟩ := (HM.out.ext (xw1.trans xw2)).at3
  go_wp2_with fail
  refine (C1.out _ (hW0.out.trans (xw1.trans xw2))).mono ?_
  rintro _ w3 ⟨u1, rfl, i1, xw3⟩
  have I1 := hid i1
  obtain ⟨d1, g1, rfl, -, -, -⟩ := i1
  clear hm_0 hm_1 hm_2
  obtain ⟨hm_0, hm_1, hm_2⟩ := (HM.out.ext (xw1.trans (xw2.trans xw3))).at3
  go_wp2_with fail
  refine (C2.out _ (hW0.out.trans (xw1.trans (xw2.trans xw3)))).mono ?_
  rintro _ w4 ⟨u2, rfl, i2, xw4⟩
  have I2 := hid i2
  obtain ⟨d2, g2, rfl, -, -, -⟩ := i2
  clear hm_0 hm_1 hm_2
  obtain ⟨hm_0, hm_1, hm_2⟩ := (HM.out.ext (xw1.trans (xw2.trans (xw3.trans xw4)))).at3
  go_wp2_with fail
  refine (C3.out _ (hW0.out.trans (xw1.trans (xw2.trans (xw3.trans xw4))))).mono ?_
  rintro _ w5 ⟨u3, rfl, i3, xw5⟩
  have I3 := hid i3
  obtain ⟨d3, g3, rfl, -, -, -⟩ := i3
  clear hm_0 hm_1 hm_2
  obtain ⟨hm_0, hm_1, hm_2⟩ := (HM.out.ext (xw1.trans (xw2.trans (xw3.trans (xw4.trans xw5))))).at3
  go_wp2_with fail
  refine (C4.out _ (hW0.out.trans (xw1.trans (xw2.trans (xw3.trans (xw4.trans xw5)))))).mono ?_
  rintro _ w6 ⟨u4, rfl, i4, xw6⟩
  have I4 := hid i4
  obtain ⟨d4, g4, rfl, -, -, -⟩ := i4
  clear hm_0 hm_1 hm_2
  have I1 := hid (I1.out.ext (xw4.trans (xw5.trans xw6)))
  have I2 := hid (I2.out.ext (xw5.trans xw6))
  have I3 := hid (I3.out.ext xw6)
  have I4 := hid I4.out
  have y := hid (hW0.out.trans (xw1.trans (xw2.trans (xw3.trans (xw4.trans (xw5.trans xw6))))))
  have HM := hid (HM.out.ext (xw1.trans (xw2.trans (xw3.trans (xw4.trans (xw5.trans xw6))))))
  clear CI CM Cb C1 C2 C3 C4 hW0 xw1 xw2 xw3 xw4 xw5 xw6
  go_upto_region 9 with fail
  go_cut [113] from 87 to 113 (fun rv w' => rv = .bool false ∧ Ext w6 w')
  case first =>
    cases B with
    | false =>
      cases B4 with
      | false =>
        have t1 := T1.out; have t2 := T2.out; have t4 := T4.out
        obtain ⟨hm_0, hm_1, hm_2⟩ := HM.out.at3
        go_wp2_with fail
        refine (CV1.out _ _ y.out I1.out).mono ?_
        rintro _ v0 ⟨rfl, xv0⟩
        clear hm_0 hm_1 hm_2
        obtain ⟨hm_0, hm_1, hm_2⟩ := (HM.out.ext xv0).at3
        go_wp2_with fail
        refine (CA1.out _ _ (y.out.trans xv0) (I2.out.ext xv0)).mono ?_
        rintro _ v1 ⟨rfl, xv1⟩
        clear hm_0 hm_1 hm_2
        obtain ⟨hm_0, hm_1, hm_2⟩ := (HM.out.ext (xv0.trans xv1)).at3
        go_wp2_with fail
        refine (CL1.out _ _ (y.out.trans (xv0.trans xv1)) (I4.out.ext (xv0.trans xv1))).mono ?_
        rintro _ v2 ⟨rfl, xv2⟩
        clear hm_0 hm_1 hm_2
        obtain ⟨hm_0, hm_1, hm_2⟩ := (HM.out.ext (xv0.trans (xv1.trans xv2))).at3
        go_wp2_with fail
        go_meet
        exact ⟨rfl, (xv0.trans (xv1.trans xv2))⟩
      | true =>
        have t1 := T1.out; have t2 := T2.out; have t4 := T4.out
        obtain ⟨hm_0, hm_1, hm_2⟩ := HM.out.at3
        go_wp2_with fail
        refine (CV1.out _ _ y.out I1.out).mono ?_
        rintro _ v0 ⟨rfl, xv0⟩
        clear hm_0 hm_1 hm_2
        obtain ⟨hm_0, hm_1, hm_2⟩ := (HM.out.ext xv0).at3
        go_wp2_with fail
        refine (CA1.out _ _ (y.out.trans xv0) (I2.out.ext xv0)).mono ?_
        rintro _ v1 ⟨rfl, xv1⟩
        clear hm_0 hm_1 hm_2
        obtain ⟨hm_0, hm_1, hm_2⟩ := (HM.out.ext (xv0.trans xv1)).at3
        go_wp2_with fail
        refine (CL1.out _ _ (y.out.trans (xv0.trans xv1)) (I4.out.ext (xv0.trans xv1))).mono ?_
        rintro _ v2 ⟨rfl, xv2⟩
        clear hm_0 hm_1 hm_2
        obtain ⟨hm_0, hm_1, hm_2⟩ := (HM.out.ext (xv0.trans (xv1.trans xv2))).at3
        go_wp2_with fail
        go_meet
        exact ⟨rfl, (xv0.trans (xv1.trans xv2))⟩
    | true =>
      cases B4 with
      | false =>
        have t1 := T1.out; have t2 := T2.out; have t4 := T4.out
        obtain ⟨hm_0, hm_1, hm_2⟩ := HM.out.at3
        go_wp2_with fail
        refine (CV1.out _ _ y.out I1.out).mono ?_
        rintro _ v0 ⟨rfl, xv0⟩
        clear hm_0 hm_1 hm_2
        obtain ⟨hm_0, hm_1, hm_2⟩ := (HM.out.ext xv0).at3
        go_wp2_with fail
        refine (CA1.out _ _ (y.out.trans xv0) (I2.out.ext xv0)).mono ?_
        rintro _ v1 ⟨rfl, xv1⟩
        clear hm_0 hm_1 hm_2
        obtain ⟨hm_0, hm_1, hm_2⟩ := (HM.out.ext (xv0.trans xv1)).at3
        go_wp2_with fail
        refine (CL1.out _ _ (y.out.trans (xv0.trans xv1)) (I4.out.ext (xv0.trans xv1))).mono ?_
        rintro _ v2 ⟨rfl, xv2⟩
        clear hm_0 hm_1 hm_2
        obtain ⟨hm_0, hm_1, hm_2⟩ := (HM.out.ext (xv0.trans (xv1.trans xv2))).at3
        go_wp2_with fail
        go_meet
        exact ⟨rfl, (xv0.trans (xv1.trans xv2))⟩
      | true =>
        have t1 := T1.out; have t2 := T2.out; have t4 := T4.out
        obtain ⟨hm_0, hm_1, hm_2⟩ := HM.out.at3
        go_wp2_with fail
        refine (CV1.out _ _ y.out I1.out).mono ?_
        rintro _ v0 ⟨rfl, xv0⟩
        clear hm_0 hm_1 hm_2
        obtain ⟨hm_0, hm_1, hm_2⟩ := (HM.out.ext xv0).at3
        go_wp2_with fail
        refine (CA1.out _ _ (y.out.trans xv0) (I2.out.ext xv0)).mono ?_
        rintro _ v1 ⟨rfl, xv1⟩
        clear hm_0 hm_1 hm_2
        obtain ⟨hm_0, hm_1, hm_2⟩ := (HM.out.ext (xv0.trans xv1)).at3
        go_wp2_with fail
        refine (CL1.out _ _ (y.out.trans (xv0.trans xv1)) (I4.out.ext (xv0.trans xv1))).mono ?_
        rintro _ v2 ⟨rfl, xv2⟩
        clear hm_0 hm_1 hm_2
        obtain ⟨hm_0, hm_1, hm_2⟩ := (HM.out.ext (xv0.trans (xv1.trans xv2))).at3
        go_wp2_with fail
        go_meet
        exact ⟨rfl, (xv0.trans (xv1.trans xv2))⟩
  case rest =>
    obtain ⟨rfl, xc⟩ := hcut
    rename World => W7
    have y := hid (y.out.trans xc)
    have HM := hid (HM.out.ext xc)
    have I3 := hid (I3.out.ext xc)
    clear xc
    obtain ⟨Q, eQ⟩ : ∃ B, ((m : Int) == (n : Int)) = B := ⟨_, rfl⟩
    have EQ := hid eQ
    obtain ⟨hm_0, hm_1, hm_2⟩ := HM.out.at3
    go_upto_if 118 with fail
    clear eQ hm_0 hm_1 hm_2
    go_cut [] from 119 to 142 (fun w' => Ext W7 w')
    case first =>
      cases Q with
      | false =>
        go_wp2_with fail
        go_meet
        exact Ext.refl _
      | true =>
        obtain ⟨f1, f2, f3⟩ := F3.out (by have := EQ.out; rw [beq_iff_eq] at this; omega)
        subst f1
        have CD := hid f3
        have t3 := T3.out
        clear f3 F3
        cases S3 with
        | false =>
          obtain ⟨hm_0, hm_1, hm_2⟩ := HM.out.at3
          go_wp2_with fail
          refine (CD.out _ y.out).mono ?_
          rintro _ v0 ⟨rfl, xv0⟩
          clear hm_0 hm_1 hm_2
          obtain ⟨hm_0, hm_1, hm_2⟩ := (HM.out.ext xv0).at3
          go_wp2_with fail
          refine (CS1.out _ _ (y.out.trans xv0) (I3.out.ext xv0)).mono ?_
          rintro _ v1 ⟨rfl, xv1⟩
          clear hm_0 hm_1 hm_2
          obtain ⟨hm_0, hm_1, hm_2⟩ := (HM.out.ext (xv0.trans xv1)).at3
          go_wp2_with fail
          go_meet
          exact (xv0.trans xv1)
        | true =>
          obtain ⟨hm_0, hm_1, hm_2⟩ := HM.out.at3
          go_wp2_with fail
          refine (CD.out _ y.out).mono ?_
          rintro _ v0 ⟨rfl, xv0⟩
          clear hm_0 hm_1 hm_2
          obtain ⟨hm_0, hm_1, hm_2⟩ := (HM.out.ext xv0).at3
          go_wp2_with fail
          refine (CS1.out _ _ (y.out.trans xv0) (I3.out.ext xv0)).mono ?_
          rintro _ v1 ⟨rfl, xv1⟩
          clear hm_0 hm_1 hm_2
          obtain ⟨hm_0, hm_1, hm_2⟩ := (HM.out.ext (xv0.trans xv1)).at3
          go_wp2_with fail
          go_meet
          exact (xv0.trans xv1)
    case rest =>
      have xc := hcut
      rename World => W8
      have y := hid (y.out.trans xc)
      have HM := hid (HM.out.ext xc)
      have I3 := hid (I3.out.ext xc)
      clear xc
      go_upto_region 15 with fail
      go_cut [169] from 143 to 169 (fun rv w' => rv = .bool false ∧ Ext W8 w')
      case first =>
        cases Vx with
        | false =>
          cases Ay with
          | false =>
            obtain ⟨hm_0, hm_1, hm_2⟩ := HM.out.at3
            go_wp2_with fail
            refine (CVx.out _ y.out).mono ?_
            rintro _ v0 ⟨rfl, xv0⟩
            clear hm_0 hm_1 hm_2
            obtain ⟨hm_0, hm_1, hm_2⟩ := (HM.out.ext xv0).at3
            go_wp2_with fail
            refine (CAy.out _ (y.out.trans xv0)).mono ?_
            rintro _ v1 ⟨rfl, xv1⟩
            clear hm_0 hm_1 hm_2
            obtain ⟨hm_0, hm_1, hm_2⟩ := (HM.out.ext (xv0.trans xv1)).at3
            go_wp2_with fail
            go_meet
            exact ⟨rfl, (xv0.trans xv1)⟩
          | true =>
            obtain rfl : B = false := F2.out (by trivial)
            have t2 : (e2 != 0) = false := by have h2 := T2.out; simp at h2; rw [h2]; rfl
            obtain ⟨hm_0, hm_1, hm_2⟩ := HM.out.at3
            go_wp2_with fail
            refine (CVx.out _ y.out).mono ?_
            rintro _ v0 ⟨rfl, xv0⟩
            clear hm_0 hm_1 hm_2
            obtain ⟨hm_0, hm_1, hm_2⟩ := (HM.out.ext xv0).at3
            go_wp2_with fail
            refine (CAy.out _ (y.out.trans xv0)).mono ?_
            rintro _ v1 ⟨rfl, xv1⟩
            clear hm_0 hm_1 hm_2
            obtain ⟨hm_0, hm_1, hm_2⟩ := (HM.out.ext (xv0.trans xv1)).at3
            go_wp2_with fail
            go_meet
            exact ⟨rfl, (xv0.trans xv1)⟩
        | true =>
          obtain rfl : B = true := F1.out (by trivial)
          have fa : Ay = false := by cases Ay with | false => rfl | true => exact absurd (F2.out (by trivial)) (by simp)
          subst fa
          have t1 : (e1 != 0) = false := by have := T1.out; rw [beq_iff_eq] at this; rw [this]; rfl
          obtain ⟨hm_0, hm_1, hm_2⟩ := HM.out.at3
          go_wp2_with fail
          refine (CVx.out _ y.out).mono ?_
          rintro _ v0 ⟨rfl, xv0⟩
          clear hm_0 hm_1 hm_2
          obtain ⟨hm_0, hm_1, hm_2⟩ := (HM.out.ext xv0).at3
          go_wp2_with fail
          refine (CAy.out _ (y.out.trans xv0)).mono ?_
          rintro _ v1 ⟨rfl, xv1⟩
          clear hm_0 hm_1 hm_2
          obtain ⟨hm_0, hm_1, hm_2⟩ := (HM.out.ext (xv0.trans xv1)).at3
          go_wp2_with fail
          refine (CAy.out _ (y.out.trans (xv0.trans xv1))).mono ?_
          rintro _ v2 ⟨rfl, xv2⟩
          clear hm_0 hm_1 hm_2
          obtain ⟨hm_0, hm_1, hm_2⟩ := (HM.out.ext (xv0.trans (xv1.trans xv2))).at3
          go_wp2_with fail
          go_meet
          exact ⟨rfl, (xv0.trans (xv1.trans xv2))⟩
      case rest =>
        obtain ⟨rfl, xc⟩ := hcut
        rename World => W9
        have y := hid (y.out.trans xc)
        have HM := hid (HM.out.ext xc)
        have I3 := hid (I3.out.ext xc)
        clear xc
        cases Ly with
        | false =>
          obtain ⟨hm_0, hm_1, hm_2⟩ := HM.out.at3
          go_wp2_with fail
          refine (CLy.out _ y.out).mono ?_
          rintro _ v0 ⟨rfl, xv0⟩
          clear hm_0 hm_1 hm_2
          obtain ⟨hm_0, hm_1, hm_2⟩ := (HM.out.ext xv0).at3
          go_wp2_with fail
          go_ret
          exact ⟨rfl, y.out.trans xv0⟩
        | true =>
          obtain rfl : B4 = true := F4.out (by trivial)
          have t4 := T4.out
          obtain ⟨hm_0, hm_1, hm_2⟩ := HM.out.at3
          go_wp2_with fail
          refine (CLy.out _ y.out).mono ?_
          rintro _ v0 ⟨rfl, xv0⟩
          clear hm_0 hm_1 hm_2
          obtain ⟨hm_0, hm_1, hm_2⟩ := (HM.out.ext xv0).at3
          go_wp2_with fail
          go_ret
          exact ⟨rfl, y.out.trans xv0⟩

theorem walk (p r c : Int) (v : Value) (xs : List Int) (vb : Value) (b : List Int) (vx : Value) (x : List Int) (vy : Value) (y : List Int) (w : World) (hp : (Lit.int .u64 p).wf = true)
    (_ : (Lit.int .i64 r).wf = true) (_ : (Lit.int .i64 c).wf = true) (hv : Ints .u64 w v xs) (uv : ∀ x ∈ xs, (Lit.int .u64 x).wf = true) (hb : Ints .u64 w vb b) (ub : ∀ x ∈ b, (Lit.int .u64 x).wf = true)
    (hx : Ints .u64 w vx x) (ux : ∀ z ∈ x, (Lit.int .u64 z).wf = true) (hy : Ints .u64 w vy y) (uy : ∀ x ∈ y, (Lit.int .u64 x).wf = true) :
    Calls Try.prog 3 #[.int .u64 p, .agg #[.int .i64 r, .int .i64 c, v], vb, vx, vy] w (Ret (.bool true) w) := by
  have hp' := u64_wf hp
  have uv' : U64s xs := fun x h => by have := u64_wf (uv x h); omega
  have ub' : U64s b := fun x h => by have := u64_wf (ub x h); omega
  have ux' : U64s x := fun x h => by have := u64_wf (ux x h); omega
  have uy' : U64s y := fun x h => by have := u64_wf (uy x h); omega
  cases h : (decide (xs.length ≤ 100) && (decide (x.length ≤ 70) && (decide (y.length ≤ 70) && (takenB p && (matB p r c xs && (hasB p b && decide ((b.length : Int) = r)))))))
  · exact walk_skip p r c v vb vx vy xs b x y w (by omega) (by omega) hv hb hx hy uv' ub' h
  · simp only [Bool.and_eq_true, decide_eq_true_eq] at h
    obtain ⟨h1, h2, h3, h4, h5, h6, h7⟩ := h
    obtain ⟨m, n, rfl, rfl, ok⟩ := MatOk.of uv' h5
    exact walk_yes p m n v vb vx vy xs b x y w ok h4 (taken_fld h4) h1 h2 h3 (by omega) (fun x hx => ⟨(ub' x hx).1, (hasB_true h6).2 x hx⟩) hv hb hx hy ux' uy'

theorem own : ownKnob Try.prog.godebug = none := by kernel_rfl
set_option maxRecDepth 100000 in
theorem lifted (os : Os) (started : os.Started) (H : Type) (enc : TypeId × Value → H) :
    ReturnsInHanded {} Try.checked os 3 .any (Rows.witnessShowsSpec.pre6 enc Try.prog Try.f3 Rows.witnessShowsRow.domain false) (Rows.witnessShowsSpec.post enc Try.prog Try.f3 false true false false) := by
  refine returnsInHanded_of_change (C := Try.checked) own started (by kernel_rfl) Try.func3
    (ChangeSpec.witness6 (enc := enc) (C := Try.checked) false ⟨#[], #[.int .u64 0, .agg #[.int .i64 0, .int .i64 0, .slice none 0 0], .slice none 0 0, .slice none 0 0, .slice none 0 0], []⟩ 8 (by kernel_rfl) (by kernel_rfl) (by kernel_rfl) (by kernel_rfl)) ?_
  intro W base args ds gs before hval0 hW _ _
  have hval : ∀ (j : Nat) t v, Try.f3.params[j]? = some t → args[j]? = some v → Value.okWide Try.prog W .any base t v := hval0
  have hW' := hW
  obtain ⟨p, q, hA0, hV, rfl, _, _⟩ := hW
  have hA : DataW.TrodAll enc Try.prog W 0 (fun _ => true) true Try.f3.params.toList args.toList ds p := hA0
  rw [Try.params3] at hA hval
  obtain ⟨v0, vs0, d0, ds0, p0, q0, hargs, rfl, rfl, h0, r0⟩ := trodAll_cons hA
  obtain ⟨v1, vs1, d1, ds1, p1, q1, rfl, rfl, rfl, h1, r1⟩ := trodAll_cons r0
  obtain ⟨v2, vs2, d2, ds2, p2, q2, rfl, rfl, rfl, h2, r2⟩ := trodAll_cons r1
  obtain ⟨v3, vs3, d3, ds3, p3, q3, rfl, rfl, rfl, h3, r3⟩ := trodAll_cons r2
  obtain ⟨v4, vs4, d4, ds4, p4, q4, rfl, rfl, rfl, h4, r4⟩ := trodAll_cons r3
  obtain ⟨rfl, rfl, rfl⟩ := trodAll_nil r4
  obtain rfl : args = #[v0, v1, v2, v3, v4] := by cases args; simp_all
  obtain ⟨rfl, rfl⟩ := trodVars_none hV
  obtain ⟨a0, rfl, rfl, rfl, w0⟩ := open_int Try.underlying22 (hval 0 22 v0 rfl rfl) h0
  obtain ⟨mr1, mc1, mu1, xs1, rfl, wr1, wc1, i1, w1⟩ := open_Mat (hval 1 25 v1 rfl rfl) h1
  obtain ⟨xs2, i2, w2⟩ := open_Ints Try.underlying23 Try.underlying22 (by kernel_rfl) (hval 2 23 v2 rfl rfl) h2
  obtain ⟨xs3, i3, w3⟩ := open_Ints Try.underlying23 Try.underlying22 (by kernel_rfl) (hval 3 23 v3 rfl rfl) h3
  obtain ⟨xs4, i4, w4⟩ := open_Ints Try.underlying23 Try.underlying22 (by kernel_rfl) (hval 4 23 v4 rfl rfl) h4
  refine (walk a0 mr1 mc1 mu1 xs1 v2 xs2 v3 xs3 v4 xs4 W w0 wr1 wc1 i1 w1 i2 w2 i3 w3 i4 w4).mono fun e W' ⟨he, hg⟩ => ⟨_, he, ?_⟩
  exact law_post (by kernel_rfl) (by kernel_rfl) rfl Try.underlying4 rfl rfl hW' hg

/-- the statement -/
theorem proved : Rows.WitnessShowsSaid :=
  OpenClaim.holds_of_wide 3 Try.f3 rfl rfl rfl rfl rfl rfl rfl ⟨rfl, rfl, rfl, rfl, rfl⟩ rfl rfl rfl rfl rfl (by kernel_rfl) Try.func3 (by kernel_rfl)
    (of_decide_eq_true (by kernel_rfl)) (by unfold Func.isWrapper; first | (rw [if_pos (by decide +kernel)]; kernel_rfl) | (rw [if_neg (by decide +kernel)]; exact ⟨rfl, rfl⟩))
    (fun os started H enc _ => lifted os started H enc)
end Go.Proofs.Ytdfkojbfgodegaa.witnessShows
