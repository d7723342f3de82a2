/- MatrixRight, a part of it: whatever the number, the matrices, the vector, the thin matrix and the side, the law answers true, and nothing that was there has turned. No condition. -/
import Derived.Test.YtlociefncogjeaaMatG
import Derived.Test.YtlociefncogjeaaOpenMat
import Derived.Deep.RegionHeld3
namespace Go.Proofs.Ytlociefncogjeaa.matrixRight
open Go.ChangeShapes Go.WideShapes Go.ChangeAt Go.RowKit Go.Maps

set_option maxRecDepth 100000 in
set_option maxHeartbeats 16000000 in
theorem walk_FF (p r c r' c' r2 c2 n : Int) (v u vz vb vc vv : Value) (xs ys zs bs cs vs : List Int) (w : World) (h0 : 0 ≤ p) (h1 : p ≤ 18446744073709551615) (hv : Ints .u64 w v xs) (hx : U64s xs) (hu : Ints .u64 w u ys) (hy : U64s ys) (hz : Ints .u64 w vz zs) (hzu : U64s zs) (hb : Ints .i64 w vb bs) (hc : Ints .i64 w vc cs) (hvv : Ints .u64 w vv vs) (hvx : U64s vs) (hci : ∀ k, k < cs.length → -9223372036854775808 ≤ cs.getD k 0 ∧ cs.getD k 0 ≤ 9223372036854775807) (hbi : ∀ k, k < bs.length → -9223372036854775808 ≤ bs.getD k 0 ∧ bs.getD k 0 ≤ 9223372036854775807)
    (h : (decide (xs.length ≤ 150) && decide (ys.length ≤ 150) && decide (zs.length ≤ 70) && decide (vs.length ≤ 150) && decide (cs.length ≤ 150) && decide (bs.length ≤ 70)) = true) (hRt : matB p r c xs = false) (hHx : hasB p zs = false) :
    Calls Try.prog 3 #[.int .u64 p, matV r c v, matV r' c' u, vz, spV r2 c2 vb vc vv, .int .i64 n] w (Ret (.bool true) w) := by
  simp only [Bool.and_eq_true, decide_eq_true_eq] at h
  obtain ⟨⟨⟨⟨⟨g1, g2⟩, g3⟩, g4⟩, g5⟩, g6⟩ := h
  have CS1 := hid fun (W : World) (hW : Ext w W) => (show Calls Try.prog 9 #[matV r c v] W (Ret (.bool true) W) from decide_eq_true g1 ▸ rmShort r c v xs W (hv.ext hW))
  have CS2 := hid fun (W : World) (hW : Ext w W) => (show Calls Try.prog 9 #[matV r' c' u] W (Ret (.bool true) W) from decide_eq_true g2 ▸ rmShort r' c' u ys W (hu.ext hW))
  have d3 : decide (70 < (zs.length : Int)) = false := decide_eq_false (by omega)
  have d4 : decide (150 < (vs.length : Int)) = false := decide_eq_false (by omega)
  have d5 : decide (150 < (cs.length : Int)) = false := decide_eq_false (by omega)
  have d6 : decide (70 < (bs.length : Int)) = false := decide_eq_false (by omega)
  obtain ⟨Sp, hSp⟩ : ∃ Sp : Bool, Sp = true ↔ SpIs p r2 c2 bs cs vs := by
    by_cases e : SpIs p r2 c2 bs cs vs
    · exact ⟨true, fun _ => e, fun _ => rfl⟩
    · exact ⟨false, fun k => absurd k (by decide), fun k => absurd k e⟩
  have ifB : ∀ {w : World} {e : Ending} {w' : World}, RetIff (SpIs p r2 c2 bs cs vs) w e w' → Ret (.bool Sp) w e w' := fun k => by
    cases Sp with
    | true => exact k.yes (hSp.1 rfl)
    | false => exact k.no fun e => absurd (hSp.2 e) (by decide)
  have vq : ∀ k : Int, vecB p k zs = (((zs.length : Int) == k) && false) := fun k => by
    unfold vecB; rw [hHx]; congr 1
  have q1 := vq c; have q2 := vq r; have q4 := vq c2; have q5 := vq r2
  obtain ⟨E1, hE1⟩ : ∃ B, ((zs.length : Int) == c) = B := ⟨_, rfl⟩
  obtain ⟨E2, hE2⟩ : ∃ B, ((zs.length : Int) == r) = B := ⟨_, rfl⟩
  obtain ⟨E4, hE4⟩ : ∃ B, ((zs.length : Int) == c2) = B := ⟨_, rfl⟩
  obtain ⟨E5, hE5⟩ : ∃ B, ((zs.length : Int) == r2) = B := ⟨_, rfl⟩
  obtain ⟨Rb, hRb⟩ : ∃ B, matB p r' c' ys = B := ⟨_, rfl⟩
  obtain ⟨E3, hE3⟩ : ∃ B, (c == r') = B := ⟨_, rfl⟩
  obtain ⟨RE, hRE⟩ : ∃ B, (Rb && E3) = B := ⟨_, rfl⟩
  obtain ⟨Sd, hSd⟩ : ∃ B, sideB n = B := ⟨_, rfl⟩
  have qd : Sd = (decide (1 ≤ n) && decide (n ≤ 64)) := by rw [← hSd, sideB, Bool.eq_iff_iff]; simp
  rw [hE1, Bool.and_false] at q1; rw [hE2, Bool.and_false] at q2; rw [hE4, Bool.and_false] at q4; rw [hE5, Bool.and_false] at q5
  have oT : (matB p r c xs && vecB p c zs) = false := by rw [hRt, q1]; rfl
  have oL : (matB p r c xs && vecB p r zs) = false := by rw [hRt, q2]; rfl
  have oM : (matB p r c xs && matB p r' c' ys && decide (c = r')) = false := by rw [hRt]; rfl
  have oX : (Sp && vecB p c2 zs) = false := by rw [q4]; cases Sp <;> rfl
  have oY : (Sp && vecB p r2 zs) = false := by rw [q5]; cases Sp <;> rfl
  have nE4 : ((zs.length : Int) != c2) = !E4 := by rw [← hE4]; rfl
  have nE5 : ((zs.length : Int) != r2) = !E5 := by rw [← hE5]; rfl
  -- what each function answers
  have fRr := hid fun (W : World) (hW : Ext w W) => (hRt ▸ rmRight p r c v xs W h0 h1 (hv.ext hW) hx : Calls Try.prog 10 #[.int .u64 p, matV r c v] W (Ret (.bool false) W))
  have fRr2 := hid fun (W : World) (hW : Ext w W) => (hRb ▸ rmRight p r' c' u ys W h0 h1 (hu.ext hW) hy : Calls Try.prog 10 #[.int .u64 p, matV r' c' u] W (Ret (.bool Rb) W))
  have fRh := hid fun (W : World) (hW : Ext w W) => (hHx ▸ rHas p vz zs W h0 h1 (hz.ext hW) hzu)
  have fT := hid fun (W : World) (hW : Ext w W) => oT ▸ times_g (r := r) (c := c) h0 h1 (hv.ext hW) hx (hz.ext hW) hzu
  have fL := hid fun (W : World) (hW : Ext w W) => oL ▸ left_g (r := r) (c := c) h0 h1 (hv.ext hW) hx (hz.ext hW) hzu
  have fM := hid fun (W : World) (hW : Ext w W) => oM ▸ mul_g (r := r) (c := c) (r' := r') (c' := c') h0 h1 (hv.ext hW) hx (hu.ext hW) hy
  have fU := hid fun (W : World) (hW : Ext w W) => hRt ▸ turn_g (r := r) (c := c) h0 h1 (hv.ext hW) hx
  have fV := hid fun (W : World) (hW : Ext w W) => hRt ▸ thin_g (r := r) (c := c) h0 h1 (hv.ext hW) hx
  have fR := hid fun (W : World) (hW : Ext w W) => (hRt ▸ mxRight p r c v xs W h0 h1 (hv.ext hW) hx : Calls Try.prog 17 #[.int .u64 p, matV r c v] W (Ret (.bool false) W))
  have fS := hid fun (W : World) (hW : Ext w W) => (mxSparse p r2 c2 vb vc vv bs cs vs W h0 h1 (hb.ext hW) (hc.ext hW) (hvv.ext hW) hvx).mono fun _ _ k => ifB k
  have fSr := hid fun (W : World) (hW : Ext w W) => (rmSparse p r2 c2 vb vc vv bs cs vs W h0 h1 (hb.ext hW) (hc.ext hW) (hvv.ext hW) hvx hci hbi).mono fun _ _ k => ifB k
  have fW := hid fun (W : World) (hW : Ext w W) => whole_g hSp h0 h1 (hb.ext hW) (hc.ext hW) (hvv.ext hW) hvx
  have fX := hid fun (W : World) (hW : Ext w W) => oX ▸ sptimes_g hSp h0 h1 (hb.ext hW) (hc.ext hW) (hvv.ext hW) hvx (hz.ext hW) hzu
  have fY := hid fun (W : World) (hW : Ext w W) => oY ▸ spleft_g hSp h0 h1 (hb.ext hW) (hc.ext hW) (hvv.ext hW) hvx (hz.ext hW) hzu
  have fO := hid fun (W : World) => hSd ▸ one_g (w := W) n
  have pW := hid fun (k : Sp = true) (W : World) (hW : Ext w W) => rwhole_g (hSp.1 k) (hb.ext hW) (hc.ext hW) (hvv.ext hW) (by omega)
  have Iz := hid hz; have IA := hid hv; have QD := hid qd; have Id := hid (show True from trivial)
  have QE1 := hid hE1
  have QE2 := hid hE2
  have QE3 := hid hE3
  have QE4 := hid hE4
  have QE5 := hid hE5
  have QN4 := hid nE4; have QN5 := hid nE5; have QRE := hid hRE
  clear vq q1 q2 q4 q5 hE1 hE2 hE3 hE4 hE5 nE4 nE5 qd oT oL oM oX oY hSd hRE hRt hRb hHx hSp ifB hx hy hzu hvx hci hbi Id
  obtain ⟨a, cap, rfl, k1, k2, k3⟩ := hv
  obtain ⟨a', cap', rfl, k1', k2', k3'⟩ := hu
  obtain ⟨az, capz, rfl, j1, j2, j3⟩ := hz
  obtain ⟨ab, capb, rfl, l1, l2, l3⟩ := hb
  obtain ⟨ac, capc, rfl, m1, m2, m3⟩ := hc
  obtain ⟨av, capv, rfl, n1, n2, n3⟩ := hvv
  have hbx := hid (boxesMMS w 25 25 28 #[.int .i64 r, .int .i64 c, .slice a xs.length cap] #[.int .i64 r', .int .i64 c', .slice a' ys.length cap'] #[.int .i64 r2, .int .i64 c2, .slice ab bs.length capb, .slice ac cs.length capc, .slice av vs.length capv])
  have HA := hid hbx.out.1
  have HB := hid hbx.out.2.1
  have HS := hid hbx.out.2.2.1
  have hW0 := hid hbx.out.2.2.2
  clear k3 k3' j3 l3 m3 n3
  unfold matV at CS1 CS2 fRr fRr2 fT fL fM fU fV fR
  unfold spV at fS fSr fW fX fY pW
  unfold matV spV
  go_enter Try.func3, Try.ntmps3
  go_wp2_with (first
    | (go_at_call 8; refine (awake05 _).mono ?_; rintro _ w1 ⟨rfl, x1⟩; have y1 : Ext w w1 := hW0.out.trans x1; obtain ⟨a0, a1, a2⟩ := (HA.out.ext x1).at3; obtain ⟨b0, b1, b2⟩ := (HB.out.ext x1).at3; obtain ⟨s0, s1, s2, s3, s4⟩ := (HS.out.ext x1).at5)
    | (go_at_call_of 9 a; refine (CS1.out w1 y1).mono ?_; rintro _ w2 ⟨rfl, x2⟩; have y2 := y1.trans x2; clear a0 a1 a2 b0 b1 b2 s0 s1 s2 s3 s4; obtain ⟨a0, a1, a2⟩ := (HA.out.ext (x1.trans x2)).at3; obtain ⟨b0, b1, b2⟩ := (HB.out.ext (x1.trans x2)).at3; obtain ⟨s0, s1, s2, s3, s4⟩ := (HS.out.ext (x1.trans x2)).at5)
    | (go_at_call_of 9 a'; refine (CS2.out w2 y2).mono ?_; rintro _ w3 ⟨rfl, x3⟩; have y3 := y2.trans x3; clear a0 a1 a2 b0 b1 b2 s0 s1 s2 s3 s4; obtain ⟨a0, a1, a2⟩ := (HA.out.ext ((x1.trans x2).trans x3)).at3; obtain ⟨b0, b1, b2⟩ := (HB.out.ext ((x1.trans x2).trans x3)).at3; obtain ⟨s0, s1, s2, s3, s4⟩ := (HS.out.ext ((x1.trans x2).trans x3)).at5)
    | fail)
  clear a0 a1 a2 b0 b1 b2 s0 s1 s2 s3 s4 CS1 CS2 d3 d4 d5 d6
  refine (fRr.out _ (hW0.out.trans (x1.trans (x2.trans x3)))).mono ?_
  rintro _ w4 ⟨rfl, xw4⟩
  go_wp2_with fail
  refine (fRh.out _ (hW0.out.trans (x1.trans (x2.trans (x3.trans xw4))))).mono ?_
  rintro _ _ ⟨rfl, rfl⟩
  obtain ⟨ha_0, ha_1, ha_2⟩ := (HA.out.ext (x1.trans (x2.trans (x3.trans xw4)))).at3
  go_wp2_with fail
  refine (fT.out _ (hW0.out.trans (x1.trans (x2.trans (x3.trans xw4))))).mono ?_
  rintro _ w5 ⟨vT, lT, eT, rfl, iT, qT, tT, xw5⟩
  clear ha_0 ha_1 ha_2
  simp only [Bool.false_eq_true, if_false] at qT tT
  subst qT
  subst tT
  obtain ⟨aT, kT, rfl, _, _, kk⟩ := iT
  clear kk
  simp only [List.length_nil]
  obtain ⟨ha_0, ha_1, ha_2⟩ := (HA.out.ext (x1.trans (x2.trans (x3.trans (xw4.trans xw5))))).at3
  go_wp2_with fail
  refine (fL.out _ (hW0.out.trans (x1.trans (x2.trans (x3.trans (xw4.trans xw5)))))).mono ?_
  rintro _ w6 ⟨vL, lL, eL, rfl, iL, qL, tL, xw6⟩
  clear ha_0 ha_1 ha_2
  simp only [Bool.false_eq_true, if_false] at qL tL
  subst qL
  subst tL
  obtain ⟨aL, kL, rfl, _, _, kk⟩ := iL
  clear kk
  simp only [List.length_nil]
  obtain ⟨ha_0, ha_1, ha_2⟩ := (HA.out.ext (x1.trans (x2.trans (x3.trans (xw4.trans (xw5.trans xw6)))))).at3
  obtain ⟨hb_0, hb_1, hb_2⟩ := (HB.out.ext (x1.trans (x2.trans (x3.trans (xw4.trans (xw5.trans xw6)))))).at3
  go_wp2_with fail
  refine (fM.out _ (hW0.out.trans (x1.trans (x2.trans (x3.trans (xw4.trans (xw5.trans xw6))))))).mono ?_
  rintro _ w7 ⟨nrM, ncM, vM, lM, eM, rfl, iM, qM, tM, _, xw7⟩
  clear ha_0 ha_1 ha_2 hb_0 hb_1 hb_2
  simp only [Bool.false_eq_true, if_false] at qM tM
  subst qM
  subst tM
  obtain ⟨aM, kM, rfl, _, _, kk⟩ := iM
  clear kk
  simp only [List.length_nil]
  have z9 := (Ext.refl w7).alloc (.cells #[.int .i64 nrM, .int .i64 ncM, .slice aM 0 kM] 25)
  have HM := hid (Blk.new w7 25 #[.int .i64 nrM, .int .i64 ncM, .slice aM 0 kM])
  obtain ⟨ha_0, ha_1, ha_2⟩ := (HA.out.ext (x1.trans (x2.trans (x3.trans (xw4.trans (xw5.trans (xw6.trans (xw7.trans z9)))))))).at3
  go_wp2_with fail
  refine (fU.out _ (hW0.out.trans (x1.trans (x2.trans (x3.trans (xw4.trans (xw5.trans (xw6.trans (xw7.trans z9))))))))).mono ?_
  rintro _ w8 ⟨nrU, ncU, vU, lU, eU, rfl, iU, qU, tU, _, xw8⟩
  clear ha_0 ha_1 ha_2
  simp only [Bool.false_eq_true, if_false] at qU tU
  subst qU
  subst tU
  obtain ⟨aU, kU, rfl, _, _, kk⟩ := iU
  clear kk
  simp only [List.length_nil]
  have z11 := (Ext.refl w8).alloc (.cells #[.int .i64 nrU, .int .i64 ncU, .slice aU 0 kU] 25)
  have HU := hid (Blk.new w8 25 #[.int .i64 nrU, .int .i64 ncU, .slice aU 0 kU])
  obtain ⟨ha_0, ha_1, ha_2⟩ := (HA.out.ext (x1.trans (x2.trans (x3.trans (xw4.trans (xw5.trans (xw6.trans (xw7.trans (z9.trans (xw8.trans z11)))))))))).at3
  go_wp2_with fail
  refine (fV.out _ (hW0.out.trans (x1.trans (x2.trans (x3.trans (xw4.trans (xw5.trans (xw6.trans (xw7.trans (z9.trans (xw8.trans z11))))))))))).mono ?_
  rintro _ w9 ⟨nrV, ncV, vV1, vV2, vV3, lV1, lV2, lV3, eV, rfl, iV1, iV2, iV3, qV, tV, _, xw9⟩
  clear ha_0 ha_1 ha_2
  simp only [Bool.false_eq_true, if_false] at qV tV
  subst qV
  subst tV
  obtain ⟨aV1, kV1, rfl, _, _, kk⟩ := iV1
  obtain ⟨aV2, kV2, rfl, _, _, kk2⟩ := iV2
  obtain ⟨aV3, kV3, rfl, _, _, kk3⟩ := iV3
  clear kk kk2 kk3
  simp only [List.length_nil]
  have z13 := (Ext.refl w9).alloc (.cells #[.int .i64 nrV, .int .i64 ncV, .slice aV1 lV1.length kV1, .slice aV2 lV2.length kV2, .slice aV3 0 kV3] 28)
  have HV := hid (Blk.new w9 28 #[.int .i64 nrV, .int .i64 ncV, .slice aV1 lV1.length kV1, .slice aV2 lV2.length kV2, .slice aV3 0 kV3])
  go_upto_region 12 with fail
  obtain ⟨WA, hWA⟩ : ∃ W, (w9.alloc (.cells #[.int .i64 nrV, .int .i64 ncV, .slice aV1 lV1.length kV1, .slice aV2 lV2.length kV2, .slice aV3 0 kV3] 28)) = W := ⟨_, rfl⟩
  have yWA := hid (hW0.out.trans (x1.trans (x2.trans (x3.trans (xw4.trans (xw5.trans (xw6.trans (xw7.trans (z9.trans (xw8.trans (z11.trans (xw9.trans z13))))))))))))
  replace HA := hid (HA.out.ext (x1.trans (x2.trans (x3.trans (xw4.trans (xw5.trans (xw6.trans (xw7.trans (z9.trans (xw8.trans (z11.trans (xw9.trans z13))))))))))))
  replace HB := hid (HB.out.ext (x1.trans (x2.trans (x3.trans (xw4.trans (xw5.trans (xw6.trans (xw7.trans (z9.trans (xw8.trans (z11.trans (xw9.trans z13))))))))))))
  replace HS := hid (HS.out.ext (x1.trans (x2.trans (x3.trans (xw4.trans (xw5.trans (xw6.trans (xw7.trans (z9.trans (xw8.trans (z11.trans (xw9.trans z13))))))))))))
  replace HM := hid (HM.out.ext (xw8.trans (z11.trans (xw9.trans z13))))
  replace HU := hid (HU.out.ext (xw9.trans z13))
  replace HV := hid HV.out
  rw [hWA] at HA HB HS HM HU HV yWA ⊢
  clear hWA
  clear fT fL fM fU fV fRh fRr
  have bS : (Sp != Sp) = false := by cases Sp <;> rfl
  have fs := hid (fun (W : World) (hW : Ext WA W) => And.intro ((HA.out.ext hW).at3) ((HS.out.ext hW).at5))
  go_region_held3 (fun w' => (w'.cell? ⟨w.heap.size, 0, none⟩ = some (.int .i64 r) ∧ w'.cell? ⟨w.heap.size, 1, none⟩ = some (.int .i64 c) ∧ w'.cell? ⟨w.heap.size, 2, none⟩ = some (.slice a xs.length cap)) ∧ w'.cell? ⟨w.heap.size + 1 + 1, 0, none⟩ = some (.int .i64 r2) ∧ w'.cell? ⟨w.heap.size + 1 + 1, 1, none⟩ = some (.int .i64 c2) ∧ w'.cell? ⟨w.heap.size + 1 + 1, 2, none⟩ = some (.slice ab bs.length capb) ∧ w'.cell? ⟨w.heap.size + 1 + 1, 3, none⟩ = some (.slice ac cs.length capc) ∧ w'.cell? ⟨w.heap.size + 1 + 1, 4, none⟩ = some (.slice av vs.length capv)) (first | assumption | exact fs.out _ ((Ext.refl WA).drew) | exact fs.out _ (by assumption))
    ((first
      | (go_at_call 17; refine (fR.out _ (yWA.out.trans (by first | exact (Ext.refl WA).drew | assumption))).mono ?_; rintro _ wp ⟨rfl, xp⟩; have zp : Ext WA wp := Ext.trans (by first | exact (Ext.refl WA).drew | assumption) xp)
      | (go_at_call 18; refine (fS.out _ (yWA.out.trans (by first | exact (Ext.refl WA).drew | assumption))).mono ?_; rintro _ wq ⟨rfl, xq⟩; have zq : Ext WA wq := Ext.trans (by first | exact (Ext.refl WA).drew | assumption) xq)
      | (go_at_call 19; refine (fSr.out _ (yWA.out.trans (by first | exact (Ext.refl WA).drew | assumption))).mono ?_; rintro _ wr ⟨rfl, xr⟩; have zr : Ext WA wr := Ext.trans (by first | exact (Ext.refl WA).drew | assumption) xr)))
  clear fs bS fR fS
  have zA := hid zr
  clear xp xq xr zp zq zr
  obtain ⟨WB, hWB⟩ : ∃ W, wr = W := ⟨_, rfl⟩
  have yWB := hid (yWA.out.trans zA.out)
  replace HA := hid (HA.out.ext zA.out)
  replace HB := hid (HB.out.ext zA.out)
  replace HS := hid (HS.out.ext zA.out)
  replace HM := hid (HM.out.ext zA.out)
  replace HU := hid (HU.out.ext zA.out)
  replace HV := hid (HV.out.ext zA.out)
  rw [hWB] at HA HB HS HM HU HV yWB ⊢
  clear hWB
  obtain ⟨ha_0, ha_1, ha_2⟩ := HA.out.at3
  obtain ⟨hb_0, hb_1, hb_2⟩ := HB.out.at3
  obtain ⟨hm_0, hm_1, hm_2⟩ := HM.out.at3
  obtain ⟨hu_0, hu_1, hu_2⟩ := HU.out.at3
  obtain ⟨hv_0, hv_1, hv_2, hv_3, hv_4⟩ := HV.out.at5
  obtain ⟨hs_0, hs_1, hs_2, hs_3, hs_4⟩ := HS.out.at5
  go_wp2_with fail
  refine (fW.out _ yWB.out).mono ?_
  rintro _ w10 ⟨nrW, ncW, vW, lW, eW, rfl, iW, qW, tW, gW, xw10⟩
  clear ha_0 ha_1 ha_2 hb_0 hb_1 hb_2 hm_0 hm_1 hm_2 hu_0 hu_1 hu_2 hv_0 hv_1 hv_2 hv_3 hv_4 hs_0 hs_1 hs_2 hs_3 hs_4
  have IW := hid iW; have QW := hid qW; have TW := hid tW; have GW := hid gW
  obtain ⟨aW, kW, rfl, _, _, kk⟩ := iW
  clear kk qW tW gW
  have z3 := (Ext.refl w10).alloc (.cells #[.int .i64 nrW, .int .i64 ncW, .slice aW lW.length kW] 25)
  have HW := hid (Blk.new w10 25 #[.int .i64 nrW, .int .i64 ncW, .slice aW lW.length kW])
  obtain ⟨hs_0, hs_1, hs_2, hs_3, hs_4⟩ := (HS.out.ext (xw10.trans z3)).at5
  go_wp2_with fail
  refine (fX.out _ (yWB.out.trans (xw10.trans z3))).mono ?_
  rintro _ w11 ⟨vX, lX, eX, rfl, iX, qX, tX, xw11⟩
  clear hs_0 hs_1 hs_2 hs_3 hs_4
  simp only [Bool.false_eq_true, if_false] at qX tX
  subst qX
  subst tX
  obtain ⟨aX, kX, rfl, _, _, kk⟩ := iX
  clear kk
  simp only [List.length_nil]
  obtain ⟨hs_0, hs_1, hs_2, hs_3, hs_4⟩ := (HS.out.ext (xw10.trans (z3.trans xw11))).at5
  go_wp2_with fail
  refine (fY.out _ (yWB.out.trans (xw10.trans (z3.trans xw11)))).mono ?_
  rintro _ w12 ⟨vY, lY, eY, rfl, iY, qY, tY, xw12⟩
  clear hs_0 hs_1 hs_2 hs_3 hs_4
  simp only [Bool.false_eq_true, if_false] at qY tY
  subst qY
  subst tY
  obtain ⟨aY, kY, rfl, _, _, kk⟩ := iY
  clear kk
  simp only [List.length_nil]
  go_wp2_with fail
  refine (fO.out _).mono ?_
  rintro _ w13 ⟨nrO, ncO, vO, lO, eO, rfl, iO, qO, tO, gO, xw13⟩
  have IO := hid iO; have QO := hid qO; have TO := hid tO; have GO := hid gO
  obtain ⟨aO, kO, rfl, _, _, kk⟩ := iO
  clear kk qO tO gO
  have z7 := (Ext.refl w13).alloc (.cells #[.int .i64 nrO, .int .i64 ncO, .slice aO lO.length kO] 25)
  have HO := hid (Blk.new w13 25 #[.int .i64 nrO, .int .i64 ncO, .slice aO lO.length kO])
  go_upto_region 38 with fail
  obtain ⟨WC, hWC⟩ : ∃ W, (w13.alloc (.cells #[.int .i64 nrO, .int .i64 ncO, .slice aO lO.length kO] 25)) = W := ⟨_, rfl⟩
  have yWC := hid (yWB.out.trans (xw10.trans (z3.trans (xw11.trans (xw12.trans (xw13.trans z7))))))
  replace HS := hid (HS.out.ext (xw10.trans (z3.trans (xw11.trans (xw12.trans (xw13.trans z7))))))
  replace HW := hid (HW.out.ext (xw11.trans (xw12.trans (xw13.trans z7))))
  replace HO := hid HO.out
  replace IW := hid (IW.out.ext (z3.trans (xw11.trans (xw12.trans (xw13.trans z7)))))
  replace IO := hid (IO.out.ext z7)
  rw [hWC] at HS HW HO IW IO yWC ⊢
  clear hWC
  go_cut [312] from 279 to 311 (fun tv w' => tv = .bool (false) ∧ Ext WC w')
  case first =>
    obtain ⟨ho_0, ho_1, ho_2⟩ := HO.out.at3
    have qd := QD.out
    cases Sd with
    | true =>
      have e0 := QO.out; have e1 := TO.out; have e2 := GO.out
      simp only [if_true] at e0 e1
      subst e0
      obtain ⟨e3, e4⟩ := e2 rfl
      have hn : 1 ≤ n ∧ n ≤ 64 := by
        have := qd.symm
        rw [Bool.and_eq_true, decide_eq_true_eq, decide_eq_true_eq] at this
        exact this
      obtain ⟨hn1, hn2⟩ := hn
      have b2 : (nrO != n) = false := by rw [e3]; simp
      have b3 : (ncO != n) = false := by rw [e4]; simp
      have hq1 : 0 ≤ n * n := Int.mul_nonneg (by omega) (by omega)
      have hq2 : n * n ≤ 64 * 64 := Int.mul_le_mul hn2 hn2 (by omega) (by omega)
      have b1 : ((lO.length : Int) != n * n) = false := by
        have : (lO.length : Int) = n * n := by
          rw [e1, oneL_len]
          push_cast
          rw [Int.toNat_of_nonneg (by omega)]
        rw [this]; simp
      obtain ⟨q, hq⟩ : ∃ q, n * n = q := ⟨_, rfl⟩
      rw [hq] at b1 hq1 hq2
      clear e1 e2 e3 e4 qd
      as_aux_lemma =>
        go_wp2_with fail
        go_meet
        exact ⟨rfl, Ext.refl _⟩
    | false =>
      have e0 := QO.out
      simp only [Bool.false_eq_true, if_false] at e0
      subst e0
      have hn : n < 1 ∨ 64 < n := by
        by_cases h1 : 1 ≤ n
        · by_cases h2 : n ≤ 64
          · rw [decide_eq_true h1, decide_eq_true h2] at qd; cases qd
          · exact .inr (by omega)
        · exact .inl (by omega)
      clear qd
      rcases hn with hn | hn
      all_goals
        as_aux_lemma =>
          go_wp2_with fail
          go_meet
          first
            | exact ⟨rfl, Ext.refl _⟩
            | exact ⟨congrArg Value.bool (decide_eq_false (by omega)), Ext.refl _⟩
  case rest =>
    obtain ⟨rfl, xc38⟩ := hcut
    rename World => W38
    clear QO TO GO IO QD
    obtain ⟨hs_0, hs_1, hs_2, hs_3, hs_4⟩ := (HS.out.ext xc38).at5
    go_wp2_with fail
    refine (fSr.out _ (yWC.out.trans xc38)).mono ?_
    rintro _ w14 ⟨rfl, xw14⟩
    clear hs_0 hs_1 hs_2 hs_3 hs_4
    cases Sp with
    | false =>
      have e0 := QW.out; have e1 := TW.out
      simp only [Bool.false_eq_true, if_false] at e0 e1
      subst e0
      subst e1
      simp only [List.length_nil] at HW ⊢
      obtain ⟨hw_0, hw_1, hw_2⟩ := (HW.out.ext (xc38.trans xw14)).at3
      go_wp2_with fail
      go_ret
      exact ⟨rfl, (yWC.out.trans (xc38.trans xw14))⟩
    | true =>
      have e0 := QW.out; have e1 := TW.out; have e2 := GW.out
      simp only [if_true] at e0 e1
      subst e0
      subst e1
      obtain ⟨ea, eb⟩ := e2 rfl
      replace ea := ea.symm
      replace eb := eb.symm
      clear e2
      subst ea
      subst eb
      have K := hid (pW.out rfl)
      unfold RetM matV at K
      obtain ⟨hs_0, hs_1, hs_2, hs_3, hs_4⟩ := (HS.out.ext (xc38.trans xw14)).at5
      go_wp2_with fail
      refine (K.out _ (yWC.out.trans (xc38.trans xw14))).mono ?_
      rintro _ w15 ⟨vZ, rfl, iZ, xw15⟩
      clear hs_0 hs_1 hs_2 hs_3 hs_4
      have IZ := hid iZ
      obtain ⟨aZ, kZ, rfl, _, _, kk⟩ := iZ
      clear kk
      have z5 := (Ext.refl w15).alloc (.cells #[.int .i64 r2, .int .i64 c2, .slice aZ (wholeL r2.toNat c2.toNat bs cs vs).length kZ] 25)
      have HZ := hid (Blk.new w15 25 #[.int .i64 r2, .int .i64 c2, .slice aZ (wholeL r2.toNat c2.toNat bs cs vs).length kZ])
      have hS := hid fun (W : World) (v u : Value) (hv : Ints .u64 W v (wholeL r2.toNat c2.toNat bs cs vs)) (hu : Ints .u64 W u (wholeL r2.toNat c2.toNat bs cs vs)) => (show Calls Try.prog 23 #[matV r2 c2 v, matV r2 c2 u] W (Ret (.bool true) W) from rsame_g rfl rfl rfl hv hu)
      unfold matV at hS
      obtain ⟨hw_0, hw_1, hw_2⟩ := (HW.out.ext (xc38.trans (xw14.trans (xw15.trans z5)))).at3
      obtain ⟨hz_0, hz_1, hz_2⟩ := HZ.out.at3
      go_wp2_with fail
      refine (hS.out _ _ _ (IW.out.ext (xc38.trans (xw14.trans (xw15.trans z5)))) (IZ.out.ext z5)).mono ?_
      rintro _ w16 ⟨rfl, xw16⟩
      clear hw_0 hw_1 hw_2 hz_0 hz_1 hz_2
      obtain ⟨hs_0, hs_1, hs_2, hs_3, hs_4⟩ := (HS.out.ext (xc38.trans (xw14.trans (xw15.trans (z5.trans xw16))))).at5
      go_wp2_with fail
      go_ret
      exact ⟨rfl, (yWC.out.trans (xc38.trans (xw14.trans (xw15.trans (z5.trans xw16)))))⟩
end Go.Proofs.Ytlociefncogjeaa.matrixRight
