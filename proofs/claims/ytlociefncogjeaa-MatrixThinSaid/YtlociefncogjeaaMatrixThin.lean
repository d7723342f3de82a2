/- MatrixThin: whatever the number, the matrix and the thin one, the law answers true, and nothing that was there has turned. No condition. -/
import Derived.Test.YtlociefncogjeaaAwake05
import Derived.Test.YtlociefncogjeaaOpenMat
import Derived.Test.YtlociefncogjeaaMatOk
namespace Go.Proofs.Ytlociefncogjeaa.matrixThin
open Go.ChangeShapes Go.WideShapes Go.ChangeAt Go.RowKit Go.Maps

theorem sp_eq {p : Int} {m n : Nat} {bs cs vs : List Int} (ok : SpOk p m n bs cs vs) : thB (wholeL m n bs cs vs) m n = bs ∧ thC (wholeL m n bs cs vs) n (m * n) = cs ∧ thV (wholeL m n bs cs vs) (m * n) = vs := by
  obtain ⟨h1, h2, h3⟩ := thin_eq (xs := wholeL m n bs cs vs) ok fun i c hi hc => by rw [wholeL, grid_get _ hi hc]
  exact ⟨h1.symm, h2.symm, h3.symm⟩
theorem spW_ok {p : Int} {m n : Nat} {bs cs vs : List Int} (ok : SpOk p m n bs cs vs) (hu : U64s vs) : MatOk p m n (wholeL m n bs cs vs) :=
  have hp := (hasB_true ok.hv).1
  ⟨hp, grid_rng fun _ _ _ _ => wh_rng (m := m) (n := n) (rightB_true hp).1 (rng_of hu ok.hv) _ _ _, ok.m1, ok.n1, grid_len _ _ _⟩

set_option maxRecDepth 100000 in
set_option maxHeartbeats 1000000 in
theorem walk_skip (p r c : Int) (v : Value) (xs : List Int) (r' c' : Int) (vb vc vv : Value) (bs cs vs : List Int) (w : World) (_ : 0 ≤ p) (_ : p ≤ 18446744073709551615) (hv : Ints .u64 w v xs) (_ : U64s xs) (hb : Ints .i64 w vb bs) (hc : Ints .i64 w vc cs) (hvv : Ints .u64 w vv vs) (_ : U64s vs) (h : ¬ (vs.length ≤ 150 ∧ bs.length ≤ 70)) :
    Calls Try.prog 6 #[.int .u64 p, matV r c v, spV r' c' vb vc vv] w (Ret (.bool true) w) := by
  obtain ⟨a, cap, rfl, k1, k2, k3⟩ := hv
  obtain ⟨ab, capb, rfl, l1, l2, l3⟩ := hb
  obtain ⟨ac, capc, rfl, m1, m2, m3⟩ := hc
  obtain ⟨av, capv, rfl, n1, n2, n3⟩ := hvv
  have hbx := hid (boxes2 w 25 28 #[.int .i64 (r : Int), .int .i64 (c : Int), .slice a xs.length cap] #[.int .i64 (r' : Int), .int .i64 (c' : Int), .slice ab bs.length capb, .slice ac cs.length capc, .slice av vs.length capv])
  have HA := hid hbx.out.1
  have HS := hid hbx.out.2.1
  have hW0 := hid hbx.out.2.2
  clear k3 l3 m3 n3
  unfold matV spV
  go_enter Try.func6, Try.ntmps6
  go_wp2_with (first
    | (go_at_call 8; refine (awake05 _).mono ?_; rintro _ w1 ⟨rfl, x1⟩; obtain ⟨a0, a1, a2⟩ := (HA.out.ext x1).at3; obtain ⟨b0, b1, b2, b3, b4⟩ := (HS.out.ext x1).at5)
    | (go_at_call 27; exfalso; omega)
    | fail)
  all_goals
    go_ret
    exact ⟨rfl, hW0.out.trans x1⟩

set_option maxRecDepth 100000 in
set_option maxHeartbeats 8000000 in
theorem walk_nosp_no (p r c : Int) (v : Value) (xs : List Int) (r' c' : Int) (vb vc vv : Value) (bs cs vs : List Int) (w : World) (h0 : 0 ≤ p) (h1 : p ≤ 18446744073709551615) (hv : Ints .u64 w v xs) (hx : U64s xs) (hb : Ints .i64 w vb bs) (hc : Ints .i64 w vc cs) (hvv : Ints .u64 w vv vs) (hvx : U64s vs) (hs1 : vs.length ≤ 150) (hs2 : bs.length ≤ 70) (hns : ¬ SpIs p r' c' bs cs vs) (hn : (decide (xs.length ≤ 150) && matB p r c xs) = false) :
    Calls Try.prog 6 #[.int .u64 p, matV r c v, spV r' c' vb vc vv] w (Ret (.bool true) w) := by
  have IA := hid hv; have IB := hid hb; have IC := hid hc; have IV := hid hvv; have Hvx := hid hvx; have Hx := hid hx
  have Hns := hid hns
  have CS1 := hid fun (W : World) (hW : Ext w W) => rmShort r c v xs W (hv.ext hW)
  have CR1 := hid fun (W : World) (hW : Ext w W) => mxRight p r c v xs W h0 h1 (hv.ext hW) hx
  obtain ⟨S1, e1⟩ : ∃ B, decide (xs.length ≤ 150) = B := ⟨_, rfl⟩
  obtain ⟨R1, e2⟩ : ∃ B, matB p r c xs = B := ⟨_, rfl⟩
  rw [e1] at CS1 hn; rw [e2] at CR1 hn
  clear e1 e2
  obtain ⟨a, cap, rfl, k1, k2, k3⟩ := hv
  obtain ⟨ab, capb, rfl, l1, l2, l3⟩ := hb
  obtain ⟨ac, capc, rfl, m1, m2, m3⟩ := hc
  obtain ⟨av, capv, rfl, n1, n2, n3⟩ := hvv
  have hbx := hid (boxes2 w 25 28 #[.int .i64 (r : Int), .int .i64 (c : Int), .slice a xs.length cap] #[.int .i64 (r' : Int), .int .i64 (c' : Int), .slice ab bs.length capb, .slice ac cs.length capc, .slice av vs.length capv])
  have HA := hid hbx.out.1
  have HS := hid hbx.out.2.1
  have hW0 := hid hbx.out.2.2
  have d1 : decide (150 < (vs.length : Int)) = false := decide_eq_false (by omega)
  have d2 : decide (70 < (bs.length : Int)) = false := decide_eq_false (by omega)
  clear k3 l3 m3 n3 hx hvx hs1 hs2 hns
  unfold matV at CS1 CR1
  unfold matV spV
  go_enter Try.func6, Try.ntmps6
  go_wp2_with (first
    | (go_at_call 8; refine (awake05 _).mono ?_; rintro _ w1 ⟨rfl, x1⟩; obtain ⟨a0, a1, a2⟩ := (HA.out.ext x1).at3; obtain ⟨b0, b1, b2, b3, b4⟩ := (HS.out.ext x1).at5)
    | fail)
  clear a0 a1 a2 b0 b1 b2 b3 b4
  have hN := hid fun (W : World) (hW : Ext w W) => mxWhole_no p r' c' _ _ _ bs cs vs W h0 h1 (IB.out.ext hW) (IC.out.ext hW) (IV.out.ext hW) Hvx.out Hns.out
  unfold noMat spV at hN
  refine (hN.out _ (hW0.out.trans x1)).mono ?_
  rintro _ w2 ⟨rfl, xw2⟩
  have z4 := (Ext.refl w2).alloc (.cells #[.int .i64 0, .int .i64 0, .slice none 0 0] 25)
  have y0 := hid (hW0.out.trans (x1.trans (xw2.trans z4)))
  have yb := hid (x1.trans (xw2.trans z4))
  obtain ⟨ha_0, ha_1, ha_2⟩ := (HA.out.ext (x1.trans (xw2.trans z4))).at3
  cases S1 with
  | false =>
    clear hn
    go_wp2_with (first
      | (go_at_call 9; refine (CS1.out _ y0.out).mono ?_; rintro _ w7 ⟨rfl, x7⟩)
      | fail)
    go_ret
    exact ⟨rfl, y0.out.trans x7⟩
  | true =>
    rw [Bool.true_and] at hn
    subst hn
    go_wp2_with (first
      | (go_at_call 9; refine (CS1.out _ y0.out).mono ?_; rintro _ w7 ⟨rfl, x7⟩; clear ha_0 ha_1 ha_2; obtain ⟨ha_0, ha_1, ha_2⟩ := (HA.out.ext (yb.out.trans x7)).at3)
      | (go_at_call 17; refine (CR1.out w7 (y0.out.trans x7)).mono ?_; rintro _ w8 ⟨rfl, x8⟩)
      | fail)
    go_ret
    exact ⟨rfl, y0.out.trans (x7.trans x8)⟩

set_option maxRecDepth 100000 in
set_option maxHeartbeats 8000000 in
theorem walk_nosp_yes (p : Int) (m n : Nat) (v : Value) (xs : List Int) (r' c' : Int) (vb vc vv : Value) (bs cs vs : List Int) (w : World) (h0 : 0 ≤ p) (h1 : p ≤ 18446744073709551615) (hv : Ints .u64 w v xs) (hx : U64s xs) (hb : Ints .i64 w vb bs) (hc : Ints .i64 w vc cs) (hvv : Ints .u64 w vv vs) (hvx : U64s vs) (hs1 : vs.length ≤ 150) (hs2 : bs.length ≤ 70) (hns : ¬ SpIs p r' c' bs cs vs) (ok : MatOk p m n xs) (hs3 : xs.length ≤ 150) :
    Calls Try.prog 6 #[.int .u64 p, matV m n v, spV r' c' vb vc vv] w (Ret (.bool true) w) := by
  have IA := hid hv; have IB := hid hb; have IC := hid hc; have IV := hid hvv; have Hvx := hid hvx; have Hx := hid hx
  have hp2 := rightB_true ok.hp
  have Ok := hid ok
  have Okt := hid ok.turn
  have Ol := hid (ok.oneR); have Or := hid (ok.oneC)
  have Hns := hid hns
  have CS1 := hid fun (W : World) (hW : Ext w W) => (show Calls Try.prog 9 #[matV m n v] W (Ret (.bool true) W) from decide_eq_true hs3 ▸ rmShort m n v xs W (hv.ext hW))
  have CR1 := hid fun (W : World) (hW : Ext w W) => (show Calls Try.prog 17 #[.int .u64 p, matV m n v] W (Ret (.bool true) W) from ok.b ▸ mxRight p m n v xs W h0 h1 (hv.ext hW) hx)
  obtain ⟨a, cap, rfl, k1, k2, k3⟩ := hv
  obtain ⟨ab, capb, rfl, l1, l2, l3⟩ := hb
  obtain ⟨ac, capc, rfl, m1, m2, m3⟩ := hc
  obtain ⟨av, capv, rfl, n1, n2, n3⟩ := hvv
  have hbx := hid (boxes2 w 25 28 #[.int .i64 (m : Int), .int .i64 (n : Int), .slice a xs.length cap] #[.int .i64 (r' : Int), .int .i64 (c' : Int), .slice ab bs.length capb, .slice ac cs.length capc, .slice av vs.length capv])
  have HA := hid hbx.out.1
  have HS := hid hbx.out.2.1
  have hW0 := hid hbx.out.2.2
  obtain ⟨b, off, rfl, hbk, K⟩ := k3 ok.pos
  have HK := hid K
  clear K
  have d1 : decide (150 < (vs.length : Int)) = false := decide_eq_false (by omega)
  have d2 : decide (70 < (bs.length : Int)) = false := decide_eq_false (by omega)
  clear k3 l3 m3 n3 hx hvx hs1 hs2 hns ok
  unfold matV at CS1 CR1
  unfold matV spV
  go_enter Try.func6, Try.ntmps6
  go_wp2_with (first
    | (go_at_call 8; refine (awake05 _).mono ?_; rintro _ w1 ⟨rfl, x1⟩; obtain ⟨a0, a1, a2⟩ := (HA.out.ext x1).at3; obtain ⟨b0, b1, b2, b3, b4⟩ := (HS.out.ext x1).at5)
    | fail)
  clear a0 a1 a2 b0 b1 b2 b3 b4
  have hN := hid fun (W : World) (hW : Ext w W) => mxWhole_no p r' c' _ _ _ bs cs vs W h0 h1 (IB.out.ext hW) (IC.out.ext hW) (IV.out.ext hW) Hvx.out Hns.out
  unfold noMat spV at hN
  refine (hN.out _ (hW0.out.trans x1)).mono ?_
  rintro _ w2 ⟨rfl, xw2⟩
  have z4 := (Ext.refl w2).alloc (.cells #[.int .i64 0, .int .i64 0, .slice none 0 0] 25)
  obtain ⟨ha_0, ha_1, ha_2⟩ := (HA.out.ext (x1.trans (xw2.trans z4))).at3
  go_wp2_with fail
  refine (CS1.out _ (hW0.out.trans (x1.trans (xw2.trans z4)))).mono ?_
  rintro _ w7 ⟨rfl, xw7⟩
  clear ha_0 ha_1 ha_2
  obtain ⟨ha_0, ha_1, ha_2⟩ := (HA.out.ext (x1.trans (xw2.trans (z4.trans xw7)))).at3
  go_wp2_with fail
  refine (CR1.out _ (hW0.out.trans (x1.trans (xw2.trans (z4.trans xw7))))).mono ?_
  rintro _ w8 ⟨rfl, xw8⟩
  clear ha_0 ha_1 ha_2
  clear CS1 CR1
  obtain ⟨ha_0, ha_1, ha_2⟩ := (HA.out.ext (x1.trans (xw2.trans (z4.trans (xw7.trans xw8))))).at3
  go_wp2_with fail
  refine (mxTurn_yes p m n _ xs _ Ok.out (IA.out.ext (hW0.out.trans (x1.trans (xw2.trans (z4.trans (xw7.trans xw8))))))).mono ?_
  rintro _ w9 ⟨uT, rfl, iT, xw9⟩
  clear ha_0 ha_1 ha_2
  have IT := hid iT
  obtain ⟨aT, cT, rfl, _, _, kT⟩ := iT
  clear kT
  unfold matV
  have z8 := (Ext.refl w9).alloc (.cells #[.int .i64 (n : Int), .int .i64 (m : Int), .slice aT (turnL m n xs).length cT] 25)
  have HT := hid (Blk.new w9 25 #[.int .i64 (n : Int), .int .i64 (m : Int), .slice aT (turnL m n xs).length cT])
  have htt := hid (turn_turn Ok.out.hl)
  obtain ⟨ht_0, ht_1, ht_2⟩ := HT.out.at3
  go_wp2_with fail
  refine (mxTurn_yes p n m _ _ _ Okt.out (IT.out.ext z8)).mono ?_
  rintro _ w10 ⟨uU2, rfl, iU2, xw10⟩
  clear ht_0 ht_1 ht_2
  rw [htt.out] at iU2
  have IU2 := hid iU2
  obtain ⟨aU2, cU2, rfl, _, _, kU2⟩ := iU2
  clear kU2
  unfold matV
  have z10 := (Ext.refl w10).alloc (.cells #[.int .i64 (m : Int), .int .i64 (n : Int), .slice aU2 xs.length cU2] 25)
  have HU2 := hid (Blk.new w10 25 #[.int .i64 (m : Int), .int .i64 (n : Int), .slice aU2 xs.length cU2])
  obtain ⟨ha_0, ha_1, ha_2⟩ := (HA.out.ext (x1.trans (xw2.trans (z4.trans (xw7.trans (xw8.trans (xw9.trans (z8.trans (xw10.trans z10))))))))).at3
  go_wp2_with fail
  refine (mxOne_yes m _ Ok.out.hm).mono ?_
  rintro _ w11 ⟨uL1, rfl, iL1, xw11⟩
  clear ha_0 ha_1 ha_2
  have IL1 := hid iL1
  obtain ⟨aL1, cL1, rfl, _, _, kL1⟩ := iL1
  clear kL1
  unfold matV
  have z12 := (Ext.refl w11).alloc (.cells #[.int .i64 (m : Int), .int .i64 (m : Int), .slice aL1 (oneL m).length cL1] 25)
  have HL1 := hid (Blk.new w11 25 #[.int .i64 (m : Int), .int .i64 (m : Int), .slice aL1 (oneL m).length cL1])
  obtain ⟨ha_0, ha_1, ha_2⟩ := (HA.out.ext (x1.trans (xw2.trans (z4.trans (xw7.trans (xw8.trans (xw9.trans (z8.trans (xw10.trans (z10.trans (xw11.trans z12))))))))))).at3
  go_wp2_with fail
  refine (mxOne_yes n _ Ok.out.hn).mono ?_
  rintro _ w12 ⟨uR1, rfl, iR1, xw12⟩
  clear ha_0 ha_1 ha_2
  have IR1 := hid iR1
  obtain ⟨aR1, cR1, rfl, _, _, kR1⟩ := iR1
  clear kR1
  unfold matV
  have z14 := (Ext.refl w12).alloc (.cells #[.int .i64 (n : Int), .int .i64 (n : Int), .slice aR1 (oneL n).length cR1] 25)
  have HR1 := hid (Blk.new w12 25 #[.int .i64 (n : Int), .int .i64 (n : Int), .slice aR1 (oneL n).length cR1])
  have hom := hid (one_mul Ok.out.hl Ok.out.hx)
  have hmo := hid (mul_one Ok.out.hl Ok.out.hx)
  obtain ⟨hl1_0, hl1_1, hl1_2⟩ := (HL1.out.ext (xw12.trans z14)).at3
  obtain ⟨ha_0, ha_1, ha_2⟩ := (HA.out.ext (x1.trans (xw2.trans (z4.trans (xw7.trans (xw8.trans (xw9.trans (z8.trans (xw10.trans (z10.trans (xw11.trans (z12.trans (xw12.trans z14))))))))))))).at3
  go_wp2_with fail
  refine (mxMul_yes p m m n _ _ _ xs _ Ol.out Ok.out (IL1.out.ext (z12.trans (xw12.trans z14))) (IA.out.ext (hW0.out.trans (x1.trans (xw2.trans (z4.trans (xw7.trans (xw8.trans (xw9.trans (z8.trans (xw10.trans (z10.trans (xw11.trans (z12.trans (xw12.trans z14))))))))))))))).mono ?_
  rintro _ w13 ⟨uLm, rfl, iLm, xw13⟩
  clear hl1_0 hl1_1 hl1_2 ha_0 ha_1 ha_2
  rw [hom.out] at iLm
  have ILm := hid iLm
  obtain ⟨aLm, cLm, rfl, _, _, kLm⟩ := iLm
  clear kLm
  unfold matV
  have z16 := (Ext.refl w13).alloc (.cells #[.int .i64 (m : Int), .int .i64 (n : Int), .slice aLm xs.length cLm] 25)
  have HLm := hid (Blk.new w13 25 #[.int .i64 (m : Int), .int .i64 (n : Int), .slice aLm xs.length cLm])
  obtain ⟨ha_0, ha_1, ha_2⟩ := (HA.out.ext (x1.trans (xw2.trans (z4.trans (xw7.trans (xw8.trans (xw9.trans (z8.trans (xw10.trans (z10.trans (xw11.trans (z12.trans (xw12.trans (z14.trans (xw13.trans z16))))))))))))))).at3
  obtain ⟨hr1_0, hr1_1, hr1_2⟩ := (HR1.out.ext (xw13.trans z16)).at3
  go_wp2_with fail
  refine (mxMul_yes p m n n _ _ xs _ _ Ok.out Or.out (IA.out.ext (hW0.out.trans (x1.trans (xw2.trans (z4.trans (xw7.trans (xw8.trans (xw9.trans (z8.trans (xw10.trans (z10.trans (xw11.trans (z12.trans (xw12.trans (z14.trans (xw13.trans z16)))))))))))))))) (IR1.out.ext (z14.trans (xw13.trans z16)))).mono ?_
  rintro _ w14 ⟨uMr, rfl, iMr, xw14⟩
  clear ha_0 ha_1 ha_2 hr1_0 hr1_1 hr1_2
  rw [hmo.out] at iMr
  have IMr := hid iMr
  obtain ⟨aMr, cMr, rfl, _, _, kMr⟩ := iMr
  clear kMr
  unfold matV
  have z18 := (Ext.refl w14).alloc (.cells #[.int .i64 (m : Int), .int .i64 (n : Int), .slice aMr xs.length cMr] 25)
  have HMr := hid (Blk.new w14 25 #[.int .i64 (m : Int), .int .i64 (n : Int), .slice aMr xs.length cMr])
  obtain ⟨ha_0, ha_1, ha_2⟩ := (HA.out.ext (x1.trans (xw2.trans (z4.trans (xw7.trans (xw8.trans (xw9.trans (z8.trans (xw10.trans (z10.trans (xw11.trans (z12.trans (xw12.trans (z14.trans (xw13.trans (z16.trans (xw14.trans z18))))))))))))))))).at3
  go_wp2_with fail
  refine (mxThin_yes p m n _ xs _ Ok.out (IA.out.ext (hW0.out.trans (x1.trans (xw2.trans (z4.trans (xw7.trans (xw8.trans (xw9.trans (z8.trans (xw10.trans (z10.trans (xw11.trans (z12.trans (xw12.trans (z14.trans (xw13.trans (z16.trans (xw14.trans z18))))))))))))))))))).mono ?_
  rintro _ w15 ⟨vb3, vc3, vv3, rfl, ib, ic, iv, xw15⟩
  clear ha_0 ha_1 ha_2
  obtain ⟨ab3, kb3, rfl, _, _, k5⟩ := ib
  obtain ⟨ac3, kc3, rfl, _, _, k6⟩ := ic
  obtain ⟨av3, kv3, rfl, _, _, k7⟩ := iv
  clear k5 k6 k7
  unfold spV
  have hnz := hid (show (thV xs (m * n)).length = nz xs xs.length by rw [Ok.out.hl]; rfl)
  rw [hnz.out]
  have z20 := (Ext.refl w15).alloc (.cells #[.int .i64 (m : Int), .int .i64 (n : Int), .slice ab3 (thB xs m n).length kb3, .slice ac3 (thC xs n (m * n)).length kc3, .slice av3 (nz xs xs.length) kv3] 28)
  have HH := hid (Blk.new w15 28 #[.int .i64 (m : Int), .int .i64 (n : Int), .slice ab3 (thB xs m n).length kb3, .slice ac3 (thC xs n (m * n)).length kc3, .slice av3 (nz xs xs.length) kv3])
  obtain ⟨ha_0, ha_1, ha_2⟩ := (HA.out.ext (x1.trans (xw2.trans (z4.trans (xw7.trans (xw8.trans (xw9.trans (z8.trans (xw10.trans (z10.trans (xw11.trans (z12.trans (xw12.trans (z14.trans (xw13.trans (z16.trans (xw14.trans (z18.trans (xw15.trans z20))))))))))))))))))).at3
  go_wp2_with fail
  clear ha_0 ha_1 ha_2
  have yA := hid (x1.trans (xw2.trans (z4.trans (xw7.trans (xw8.trans (xw9.trans (z8.trans (xw10.trans (z10.trans (xw11.trans (z12.trans (xw12.trans (z14.trans (xw13.trans (z16.trans (xw14.trans (z18.trans (xw15.trans z20))))))))))))))))))
  have y0 := hid (hW0.out.trans (x1.trans (xw2.trans (z4.trans (xw7.trans (xw8.trans (xw9.trans (z8.trans (xw10.trans (z10.trans (xw11.trans (z12.trans (xw12.trans (z14.trans (xw13.trans (z16.trans (xw14.trans (z18.trans (xw15.trans z20)))))))))))))))))))
  obtain ⟨WL, hWL⟩ : ∃ W, (w15.alloc (.cells #[.int .i64 (m : Int), .int .i64 (n : Int), .slice ab3 (thB xs m n).length kb3, .slice ac3 (thC xs n (m * n)).length kc3, .slice av3 (nz xs xs.length) kv3] 28)) = W := ⟨_, rfl⟩
  have HAL := hid (HA.out.ext (x1.trans (xw2.trans (z4.trans (xw7.trans (xw8.trans (xw9.trans (z8.trans (xw10.trans (z10.trans (xw11.trans (z12.trans (xw12.trans (z14.trans (xw13.trans (z16.trans (xw14.trans (z18.trans (xw15.trans z20)))))))))))))))))))
  have HTL := hid (HT.out.ext (xw10.trans (z10.trans (xw11.trans (z12.trans (xw12.trans (z14.trans (xw13.trans (z16.trans (xw14.trans (z18.trans (xw15.trans z20))))))))))))
  have HU2L := hid (HU2.out.ext (xw11.trans (z12.trans (xw12.trans (z14.trans (xw13.trans (z16.trans (xw14.trans (z18.trans (xw15.trans z20))))))))))
  have HLmL := hid (HLm.out.ext (xw14.trans (z18.trans (xw15.trans z20))))
  have HMrL := hid (HMr.out.ext (xw15.trans z20))
  have HHL := hid HH.out
  have IU2L := hid (IU2.out.ext (z10.trans (xw11.trans (z12.trans (xw12.trans (z14.trans (xw13.trans (z16.trans (xw14.trans (z18.trans (xw15.trans z20)))))))))))
  have IAL := hid (IA.out.ext (hW0.out.trans (x1.trans (xw2.trans (z4.trans (xw7.trans (xw8.trans (xw9.trans (z8.trans (xw10.trans (z10.trans (xw11.trans (z12.trans (xw12.trans (z14.trans (xw13.trans (z16.trans (xw14.trans (z18.trans (xw15.trans z20))))))))))))))))))))
  have ILmL := hid (ILm.out.ext (z16.trans (xw14.trans (z18.trans (xw15.trans z20)))))
  have IMrL := hid (IMr.out.ext (z18.trans (xw15.trans z20)))
  rw [hWL] at HAL HTL HU2L HLmL HMrL HHL IU2L IAL ILmL IMrL yA y0 ⊢
  clear hWL
  go_loopw [28, 27] (fun iv mv wr => ∃ i : Nat, iv = .int .i64 i ∧ mv = .int .i64 (nz xs i) ∧ i ≤ xs.length ∧ Ext WL wr) (fun iv _ _ => xs.length - (intOf iv).toNat)
  case atStart => exact ⟨0, rfl, rfl, Nat.zero_le _, Ext.refl _⟩
  case round =>
    obtain ⟨i, rfl, rfl, hi, xr⟩ := hrel
    have hzb := nz_len xs i
    by_cases hlt : i < xs.length
    · obtain ⟨a0, a1, a2⟩ := (HAL.out.ext xr).at3
      have gx := ((y0.out.trans xr).cells _ _ hbk).trans (HK.out i hlt)
      have hsc := hid (nz_succ xs i)
      obtain ⟨x, ex⟩ : ∃ x, xs.getD i 0 = x := ⟨_, rfl⟩
      rw [ex] at gx hsc
      clear ex
      obtain ⟨z, hz⟩ : ∃ z, nz xs i = z := ⟨_, rfl⟩
      rw [hz] at hsc hzb ⊢
      clear hz
      by_cases hx0 : x = 0
      · have t0 : (x != 0) = false := by simp [hx0]
        have e := hid (hsc.out.trans (if_pos hx0))
        clear hx0 hsc
        go_wp2_with fail
        go_roundw
        case rel => exact ⟨i + 1, by go_num, by rw [e.out], by omega, xr⟩
        case measure => simp [intOf]; omega
      · have t0 : (x != 0) = true := by simp [hx0]
        have e := hid (hsc.out.trans (if_neg hx0))
        clear hx0 hsc
        go_wp2_with fail
        go_roundw
        case rel => exact ⟨i + 1, by go_num, by rw [e.out]; go_num, by omega, xr⟩
        case measure => simp [intOf]; omega
    · obtain rfl : xs.length = i := by omega
      have hT2 := hid (fun (W : World) (v u : Value) (hv : Ints .u64 W v xs) (hu : Ints .u64 W u xs) => (show Calls Try.prog 23 #[matV m n v, matV m n u] W (Ret (.bool true) W) from (decide_eq_true (⟨rfl, rfl, rfl⟩ : (m : Int) = m ∧ (n : Int) = n ∧ xs = xs)) ▸ rmSame m n m n v u _ _ W hv hu))
      unfold matV at hT2
      obtain ⟨nzl, hnzl⟩ : ∃ z, nz xs xs.length = z := ⟨_, rfl⟩
      rw [hnzl] at HHL ⊢
      clear hnzl hzb
      obtain ⟨hal_0, hal_1, hal_2⟩ := (HAL.out.ext xr).at3
      obtain ⟨hhl_0, hhl_1, hhl_2, hhl_3, hhl_4⟩ := (HHL.out.ext xr).at5
      obtain ⟨hu2l_0, hu2l_1, hu2l_2⟩ := (HU2L.out.ext xr).at3
      go_wp2_with fail
      refine (hT2.out _ _ _ (IU2L.out.ext xr) (IAL.out.ext xr)).mono ?_
      rintro _ v1 ⟨rfl, xv1⟩
      clear hal_0 hal_1 hal_2 hhl_0 hhl_1 hhl_2 hhl_3 hhl_4 hu2l_0 hu2l_1 hu2l_2
      obtain ⟨hal_0, hal_1, hal_2⟩ := (HAL.out.ext (xr.trans xv1)).at3
      obtain ⟨hlml_0, hlml_1, hlml_2⟩ := (HLmL.out.ext (xr.trans xv1)).at3
      go_wp2_with fail
      refine (hT2.out _ _ _ (ILmL.out.ext (xr.trans xv1)) (IAL.out.ext (xr.trans xv1))).mono ?_
      rintro _ v2 ⟨rfl, xv2⟩
      clear hal_0 hal_1 hal_2 hlml_0 hlml_1 hlml_2
      obtain ⟨hal_0, hal_1, hal_2⟩ := (HAL.out.ext (xr.trans (xv1.trans xv2))).at3
      obtain ⟨hmrl_0, hmrl_1, hmrl_2⟩ := (HMrL.out.ext (xr.trans (xv1.trans xv2))).at3
      go_wp2_with fail
      refine (hT2.out _ _ _ (IMrL.out.ext (xr.trans (xv1.trans xv2))) (IAL.out.ext (xr.trans (xv1.trans xv2)))).mono ?_
      rintro _ v3 ⟨rfl, xv3⟩
      clear hal_0 hal_1 hal_2 hmrl_0 hmrl_1 hmrl_2
      obtain ⟨hal_0, hal_1, hal_2⟩ := (HAL.out.ext (xr.trans (xv1.trans (xv2.trans xv3)))).at3
      obtain ⟨htl_0, htl_1, htl_2⟩ := (HTL.out.ext (xr.trans (xv1.trans (xv2.trans xv3)))).at3
      go_wp2_with fail
      go_ret
      exact ⟨rfl, y0.out.trans (xr.trans (xv1.trans (xv2.trans xv3)))⟩

set_option maxRecDepth 100000 in
set_option maxHeartbeats 8000000 in
theorem walk_sp_no (p r c : Int) (v : Value) (xs : List Int) (mS nS : Nat) (vb vc vv : Value) (bs cs vs : List Int) (w : World) (h0 : 0 ≤ p) (h1 : p ≤ 18446744073709551615) (hv : Ints .u64 w v xs) (hx : U64s xs) (hb : Ints .i64 w vb bs) (hc : Ints .i64 w vc cs) (hvv : Ints .u64 w vv vs) (hvx : U64s vs) (hs1 : vs.length ≤ 150) (hs2 : bs.length ≤ 70) (oks : SpOk p mS nS bs cs vs) (hn : (decide (xs.length ≤ 150) && matB p r c xs) = false) :
    Calls Try.prog 6 #[.int .u64 p, matV r c v, spV mS nS vb vc vv] w (Ret (.bool true) w) := by
  have IA := hid hv; have IB := hid hb; have IC := hid hc; have IV := hid hvv; have Hvx := hid hvx; have Hx := hid hx
  have OkS := hid oks
  have OkW := hid (spW_ok oks hvx)
  obtain ⟨se1, se2, se3⟩ := sp_eq oks
  have Se1 := hid se1; have Se2 := hid se2; have Se3 := hid se3
  have CS1 := hid fun (W : World) (hW : Ext w W) => rmShort r c v xs W (hv.ext hW)
  have CR1 := hid fun (W : World) (hW : Ext w W) => mxRight p r c v xs W h0 h1 (hv.ext hW) hx
  obtain ⟨S1, e1⟩ : ∃ B, decide (xs.length ≤ 150) = B := ⟨_, rfl⟩
  obtain ⟨R1, e2⟩ : ∃ B, matB p r c xs = B := ⟨_, rfl⟩
  rw [e1] at CS1 hn; rw [e2] at CR1 hn
  clear e1 e2
  obtain ⟨a, cap, rfl, k1, k2, k3⟩ := hv
  obtain ⟨ab, capb, rfl, l1, l2, l3⟩ := hb
  obtain ⟨ac, capc, rfl, m1, m2, m3⟩ := hc
  obtain ⟨av, capv, rfl, n1, n2, n3⟩ := hvv
  have hbx := hid (boxes2 w 25 28 #[.int .i64 (r : Int), .int .i64 (c : Int), .slice a xs.length cap] #[.int .i64 (mS : Int), .int .i64 (nS : Int), .slice ab bs.length capb, .slice ac cs.length capc, .slice av vs.length capv])
  have HA := hid hbx.out.1
  have HS := hid hbx.out.2.1
  have hW0 := hid hbx.out.2.2
  have d1 : decide (150 < (vs.length : Int)) = false := decide_eq_false (by omega)
  have d2 : decide (70 < (bs.length : Int)) = false := decide_eq_false (by omega)
  clear k3 l3 m3 n3 hx hvx hs1 hs2 oks se1 se2 se3
  unfold matV at CS1 CR1
  unfold matV spV
  go_enter Try.func6, Try.ntmps6
  go_wp2_with (first
    | (go_at_call 8; refine (awake05 _).mono ?_; rintro _ w1 ⟨rfl, x1⟩; obtain ⟨a0, a1, a2⟩ := (HA.out.ext x1).at3; obtain ⟨b0, b1, b2, b3, b4⟩ := (HS.out.ext x1).at5)
    | fail)
  clear a0 a1 a2 b0 b1 b2 b3 b4
  refine (mxWhole_yes p mS nS _ _ _ bs cs vs _ OkS.out (IB.out.ext (hW0.out.trans x1)) (IC.out.ext (hW0.out.trans x1)) (IV.out.ext (hW0.out.trans x1)) Hvx.out).mono ?_
  rintro _ w2 ⟨uW, rfl, iW, xw2⟩
  have IW := hid iW
  obtain ⟨aW, cW, rfl, _, _, kW⟩ := iW
  clear kW
  unfold matV
  have z4 := (Ext.refl w2).alloc (.cells #[.int .i64 (mS : Int), .int .i64 (nS : Int), .slice aW (wholeL mS nS bs cs vs).length cW] 25)
  have HW := hid (Blk.new w2 25 #[.int .i64 (mS : Int), .int .i64 (nS : Int), .slice aW (wholeL mS nS bs cs vs).length cW])
  obtain ⟨hw_0, hw_1, hw_2⟩ := HW.out.at3
  go_wp2_with fail
  refine (mxThin_yes p mS nS _ _ _ OkW.out (IW.out.ext z4)).mono ?_
  rintro _ w3 ⟨vb2, vc2, vv2, rfl, ib, ic, iv, xw3⟩
  clear hw_0 hw_1 hw_2
  rw [Se1.out] at ib; rw [Se2.out] at ic; rw [Se3.out] at iv
  have Ib := hid ib; have Ic := hid ic; have Iv := hid iv
  obtain ⟨ab2, kb, rfl, _, _, k5⟩ := ib
  obtain ⟨ac2, kc, rfl, _, _, k6⟩ := ic
  obtain ⟨av2, kv, rfl, _, _, k7⟩ := iv
  clear k5 k6 k7
  unfold spV
  have z6 := (Ext.refl w3).alloc (.cells #[.int .i64 (mS : Int), .int .i64 (nS : Int), .slice ab2 bs.length kb, .slice ac2 cs.length kc, .slice av2 vs.length kv] 28)
  have HU := hid (Blk.new w3 28 #[.int .i64 (mS : Int), .int .i64 (nS : Int), .slice ab2 bs.length kb, .slice ac2 cs.length kc, .slice av2 vs.length kv])
  obtain ⟨hu_0, hu_1, hu_2, hu_3, hu_4⟩ := HU.out.at5
  go_wp2_with fail
  refine (mxWhole_yes p mS nS _ _ _ bs cs vs _ OkS.out (Ib.out.ext z6) (Ic.out.ext z6) (Iv.out.ext z6) Hvx.out).mono ?_
  rintro _ w4 ⟨uV2, rfl, iV2, xw4⟩
  clear hu_0 hu_1 hu_2 hu_3 hu_4
  have IV2 := hid iV2
  obtain ⟨aV2, cV2, rfl, _, _, kV2⟩ := iV2
  clear kV2
  unfold matV
  have z8 := (Ext.refl w4).alloc (.cells #[.int .i64 (mS : Int), .int .i64 (nS : Int), .slice aV2 (wholeL mS nS bs cs vs).length cV2] 25)
  have HV2 := hid (Blk.new w4 25 #[.int .i64 (mS : Int), .int .i64 (nS : Int), .slice aV2 (wholeL mS nS bs cs vs).length cV2])
  obtain ⟨hu_0, hu_1, hu_2, hu_3, hu_4⟩ := (HU.out.ext (xw4.trans z8)).at5
  obtain ⟨hs_0, hs_1, hs_2, hs_3, hs_4⟩ := (HS.out.ext (x1.trans (xw2.trans (z4.trans (xw3.trans (z6.trans (xw4.trans z8))))))).at5
  go_wp2_with fail
  refine (same_yes _ _ _ _ (Iv.out.ext (z6.trans (xw4.trans z8))) (IV.out.ext (hW0.out.trans (x1.trans (xw2.trans (z4.trans (xw3.trans (z6.trans (xw4.trans z8))))))))).mono ?_
  rintro _ w5 ⟨rfl, xw5⟩
  clear hu_0 hu_1 hu_2 hu_3 hu_4 hs_0 hs_1 hs_2 hs_3 hs_4
  have hT := hid (fun (W : World) (v u : Value) (hv : Ints .u64 W v (wholeL mS nS bs cs vs)) (hu : Ints .u64 W u (wholeL mS nS bs cs vs)) => (show Calls Try.prog 23 #[matV mS nS v, matV mS nS u] W (Ret (.bool true) W) from (decide_eq_true (⟨rfl, rfl, rfl⟩ : (mS : Int) = mS ∧ (nS : Int) = nS ∧ (wholeL mS nS bs cs vs) = (wholeL mS nS bs cs vs))) ▸ rmSame mS nS mS nS v u _ _ W hv hu))
  unfold matV at hT
  obtain ⟨hu_0, hu_1, hu_2, hu_3, hu_4⟩ := (HU.out.ext (xw4.trans (z8.trans xw5))).at5
  obtain ⟨hs_0, hs_1, hs_2, hs_3, hs_4⟩ := (HS.out.ext (x1.trans (xw2.trans (z4.trans (xw3.trans (z6.trans (xw4.trans (z8.trans xw5)))))))).at5
  obtain ⟨hv2_0, hv2_1, hv2_2⟩ := (HV2.out.ext xw5).at3
  obtain ⟨hw_0, hw_1, hw_2⟩ := (HW.out.ext (xw3.trans (z6.trans (xw4.trans (z8.trans xw5))))).at3
  go_wp2_with fail
  refine (hT.out _ _ _ (IV2.out.ext (z8.trans xw5)) (IW.out.ext (z4.trans (xw3.trans (z6.trans (xw4.trans (z8.trans xw5))))))).mono ?_
  rintro _ w6 ⟨rfl, xw6⟩
  clear hu_0 hu_1 hu_2 hu_3 hu_4 hs_0 hs_1 hs_2 hs_3 hs_4 hv2_0 hv2_1 hv2_2 hw_0 hw_1 hw_2
  have y0 := hid (hW0.out.trans (x1.trans (xw2.trans (z4.trans (xw3.trans (z6.trans (xw4.trans (z8.trans (xw5.trans xw6)))))))))
  have yb := hid (x1.trans (xw2.trans (z4.trans (xw3.trans (z6.trans (xw4.trans (z8.trans (xw5.trans xw6))))))))
  obtain ⟨ha_0, ha_1, ha_2⟩ := (HA.out.ext (x1.trans (xw2.trans (z4.trans (xw3.trans (z6.trans (xw4.trans (z8.trans (xw5.trans xw6))))))))).at3
  cases S1 with
  | false =>
    clear hn
    go_wp2_with (first
      | (go_at_call 9; refine (CS1.out _ y0.out).mono ?_; rintro _ w7 ⟨rfl, x7⟩)
      | fail)
    go_ret
    exact ⟨rfl, y0.out.trans x7⟩
  | true =>
    rw [Bool.true_and] at hn
    subst hn
    go_wp2_with (first
      | (go_at_call 9; refine (CS1.out _ y0.out).mono ?_; rintro _ w7 ⟨rfl, x7⟩; clear ha_0 ha_1 ha_2; obtain ⟨ha_0, ha_1, ha_2⟩ := (HA.out.ext (yb.out.trans x7)).at3)
      | (go_at_call 17; refine (CR1.out w7 (y0.out.trans x7)).mono ?_; rintro _ w8 ⟨rfl, x8⟩)
      | fail)
    go_ret
    exact ⟨rfl, y0.out.trans (x7.trans x8)⟩

set_option maxRecDepth 100000 in
set_option maxHeartbeats 8000000 in
theorem walk_sp_yes (p : Int) (m n : Nat) (v : Value) (xs : List Int) (mS nS : Nat) (vb vc vv : Value) (bs cs vs : List Int) (w : World) (h0 : 0 ≤ p) (h1 : p ≤ 18446744073709551615) (hv : Ints .u64 w v xs) (hx : U64s xs) (hb : Ints .i64 w vb bs) (hc : Ints .i64 w vc cs) (hvv : Ints .u64 w vv vs) (hvx : U64s vs) (hs1 : vs.length ≤ 150) (hs2 : bs.length ≤ 70) (oks : SpOk p mS nS bs cs vs) (ok : MatOk p m n xs) (hs3 : xs.length ≤ 150) :
    Calls Try.prog 6 #[.int .u64 p, matV m n v, spV mS nS vb vc vv] w (Ret (.bool true) w) := by
  have IA := hid hv; have IB := hid hb; have IC := hid hc; have IV := hid hvv; have Hvx := hid hvx; have Hx := hid hx
  have hp2 := rightB_true ok.hp
  have Ok := hid ok
  have Okt := hid ok.turn
  have Ol := hid (ok.oneR); have Or := hid (ok.oneC)
  have OkS := hid oks
  have OkW := hid (spW_ok oks hvx)
  obtain ⟨se1, se2, se3⟩ := sp_eq oks
  have Se1 := hid se1; have Se2 := hid se2; have Se3 := hid se3
  have CS1 := hid fun (W : World) (hW : Ext w W) => (show Calls Try.prog 9 #[matV m n v] W (Ret (.bool true) W) from decide_eq_true hs3 ▸ rmShort m n v xs W (hv.ext hW))
  have CR1 := hid fun (W : World) (hW : Ext w W) => (show Calls Try.prog 17 #[.int .u64 p, matV m n v] W (Ret (.bool true) W) from ok.b ▸ mxRight p m n v xs W h0 h1 (hv.ext hW) hx)
  obtain ⟨a, cap, rfl, k1, k2, k3⟩ := hv
  obtain ⟨ab, capb, rfl, l1, l2, l3⟩ := hb
  obtain ⟨ac, capc, rfl, m1, m2, m3⟩ := hc
  obtain ⟨av, capv, rfl, n1, n2, n3⟩ := hvv
  have hbx := hid (boxes2 w 25 28 #[.int .i64 (m : Int), .int .i64 (n : Int), .slice a xs.length cap] #[.int .i64 (mS : Int), .int .i64 (nS : Int), .slice ab bs.length capb, .slice ac cs.length capc, .slice av vs.length capv])
  have HA := hid hbx.out.1
  have HS := hid hbx.out.2.1
  have hW0 := hid hbx.out.2.2
  obtain ⟨b, off, rfl, hbk, K⟩ := k3 ok.pos
  have HK := hid K
  clear K
  have d1 : decide (150 < (vs.length : Int)) = false := decide_eq_false (by omega)
  have d2 : decide (70 < (bs.length : Int)) = false := decide_eq_false (by omega)
  clear k3 l3 m3 n3 hx hvx hs1 hs2 oks se1 se2 se3 ok
  unfold matV at CS1 CR1
  unfold matV spV
  go_enter Try.func6, Try.ntmps6
  go_wp2_with (first
    | (go_at_call 8; refine (awake05 _).mono ?_; rintro _ w1 ⟨rfl, x1⟩; obtain ⟨a0, a1, a2⟩ := (HA.out.ext x1).at3; obtain ⟨b0, b1, b2, b3, b4⟩ := (HS.out.ext x1).at5)
    | fail)
  clear a0 a1 a2 b0 b1 b2 b3 b4
  refine (mxWhole_yes p mS nS _ _ _ bs cs vs _ OkS.out (IB.out.ext (hW0.out.trans x1)) (IC.out.ext (hW0.out.trans x1)) (IV.out.ext (hW0.out.trans x1)) Hvx.out).mono ?_
  rintro _ w2 ⟨uW, rfl, iW, xw2⟩
  have IW := hid iW
  obtain ⟨aW, cW, rfl, _, _, kW⟩ := iW
  clear kW
  unfold matV
  have z4 := (Ext.refl w2).alloc (.cells #[.int .i64 (mS : Int), .int .i64 (nS : Int), .slice aW (wholeL mS nS bs cs vs).length cW] 25)
  have HW := hid (Blk.new w2 25 #[.int .i64 (mS : Int), .int .i64 (nS : Int), .slice aW (wholeL mS nS bs cs vs).length cW])
  obtain ⟨hw_0, hw_1, hw_2⟩ := HW.out.at3
  go_wp2_with fail
  refine (mxThin_yes p mS nS _ _ _ OkW.out (IW.out.ext z4)).mono ?_
  rintro _ w3 ⟨vb2, vc2, vv2, rfl, ib, ic, iv, xw3⟩
  clear hw_0 hw_1 hw_2
  rw [Se1.out] at ib; rw [Se2.out] at ic; rw [Se3.out] at iv
  have Ib := hid ib; have Ic := hid ic; have Iv := hid iv
  obtain ⟨ab2, kb, rfl, _, _, k5⟩ := ib
  obtain ⟨ac2, kc, rfl, _, _, k6⟩ := ic
  obtain ⟨av2, kv, rfl, _, _, k7⟩ := iv
  clear k5 k6 k7
  unfold spV
  have z6 := (Ext.refl w3).alloc (.cells #[.int .i64 (mS : Int), .int .i64 (nS : Int), .slice ab2 bs.length kb, .slice ac2 cs.length kc, .slice av2 vs.length kv] 28)
  have HU := hid (Blk.new w3 28 #[.int .i64 (mS : Int), .int .i64 (nS : Int), .slice ab2 bs.length kb, .slice ac2 cs.length kc, .slice av2 vs.length kv])
  obtain ⟨hu_0, hu_1, hu_2, hu_3, hu_4⟩ := HU.out.at5
  go_wp2_with fail
  refine (mxWhole_yes p mS nS _ _ _ bs cs vs _ OkS.out (Ib.out.ext z6) (Ic.out.ext z6) (Iv.out.ext z6) Hvx.out).mono ?_
  rintro _ w4 ⟨uV2, rfl, iV2, xw4⟩
  clear hu_0 hu_1 hu_2 hu_3 hu_4
  have IV2 := hid iV2
  obtain ⟨aV2, cV2, rfl, _, _, kV2⟩ := iV2
  clear kV2
  unfold matV
  have z8 := (Ext.refl w4).alloc (.cells #[.int .i64 (mS : Int), .int .i64 (nS : Int), .slice aV2 (wholeL mS nS bs cs vs).length cV2] 25)
  have HV2 := hid (Blk.new w4 25 #[.int .i64 (mS : Int), .int .i64 (nS : Int), .slice aV2 (wholeL mS nS bs cs vs).length cV2])
  obtain ⟨hu_0, hu_1, hu_2, hu_3, hu_4⟩ := (HU.out.ext (xw4.trans z8)).at5
  obtain ⟨hs_0, hs_1, hs_2, hs_3, hs_4⟩ := (HS.out.ext (x1.trans (xw2.trans (z4.trans (xw3.trans (z6.trans (xw4.trans z8))))))).at5
  go_wp2_with fail
  refine (same_yes _ _ _ _ (Iv.out.ext (z6.trans (xw4.trans z8))) (IV.out.ext (hW0.out.trans (x1.trans (xw2.trans (z4.trans (xw3.trans (z6.trans (xw4.trans z8))))))))).mono ?_
  rintro _ w5 ⟨rfl, xw5⟩
  clear hu_0 hu_1 hu_2 hu_3 hu_4 hs_0 hs_1 hs_2 hs_3 hs_4
  have hT := hid (fun (W : World) (v u : Value) (hv : Ints .u64 W v (wholeL mS nS bs cs vs)) (hu : Ints .u64 W u (wholeL mS nS bs cs vs)) => (show Calls Try.prog 23 #[matV mS nS v, matV mS nS u] W (Ret (.bool true) W) from (decide_eq_true (⟨rfl, rfl, rfl⟩ : (mS : Int) = mS ∧ (nS : Int) = nS ∧ (wholeL mS nS bs cs vs) = (wholeL mS nS bs cs vs))) ▸ rmSame mS nS mS nS v u _ _ W hv hu))
  unfold matV at hT
  obtain ⟨hu_0, hu_1, hu_2, hu_3, hu_4⟩ := (HU.out.ext (xw4.trans (z8.trans xw5))).at5
  obtain ⟨hs_0, hs_1, hs_2, hs_3, hs_4⟩ := (HS.out.ext (x1.trans (xw2.trans (z4.trans (xw3.trans (z6.trans (xw4.trans (z8.trans xw5)))))))).at5
  obtain ⟨hv2_0, hv2_1, hv2_2⟩ := (HV2.out.ext xw5).at3
  obtain ⟨hw_0, hw_1, hw_2⟩ := (HW.out.ext (xw3.trans (z6.trans (xw4.trans (z8.trans xw5))))).at3
  go_wp2_with fail
  refine (hT.out _ _ _ (IV2.out.ext (z8.trans xw5)) (IW.out.ext (z4.trans (xw3.trans (z6.trans (xw4.trans (z8.trans xw5))))))).mono ?_
  rintro _ w6 ⟨rfl, xw6⟩
  clear hu_0 hu_1 hu_2 hu_3 hu_4 hs_0 hs_1 hs_2 hs_3 hs_4 hv2_0 hv2_1 hv2_2 hw_0 hw_1 hw_2
  obtain ⟨ha_0, ha_1, ha_2⟩ := (HA.out.ext (x1.trans (xw2.trans (z4.trans (xw3.trans (z6.trans (xw4.trans (z8.trans (xw5.trans xw6))))))))).at3
  go_wp2_with fail
  refine (CS1.out _ (hW0.out.trans (x1.trans (xw2.trans (z4.trans (xw3.trans (z6.trans (xw4.trans (z8.trans (xw5.trans xw6)))))))))).mono ?_
  rintro _ w7 ⟨rfl, xw7⟩
  clear ha_0 ha_1 ha_2
  obtain ⟨ha_0, ha_1, ha_2⟩ := (HA.out.ext (x1.trans (xw2.trans (z4.trans (xw3.trans (z6.trans (xw4.trans (z8.trans (xw5.trans (xw6.trans xw7)))))))))).at3
  go_wp2_with fail
  refine (CR1.out _ (hW0.out.trans (x1.trans (xw2.trans (z4.trans (xw3.trans (z6.trans (xw4.trans (z8.trans (xw5.trans (xw6.trans xw7))))))))))).mono ?_
  rintro _ w8 ⟨rfl, xw8⟩
  clear ha_0 ha_1 ha_2
  clear CS1 CR1
  obtain ⟨ha_0, ha_1, ha_2⟩ := (HA.out.ext (x1.trans (xw2.trans (z4.trans (xw3.trans (z6.trans (xw4.trans (z8.trans (xw5.trans (xw6.trans (xw7.trans xw8))))))))))).at3
  go_wp2_with fail
  refine (mxTurn_yes p m n _ xs _ Ok.out (IA.out.ext (hW0.out.trans (x1.trans (xw2.trans (z4.trans (xw3.trans (z6.trans (xw4.trans (z8.trans (xw5.trans (xw6.trans (xw7.trans xw8))))))))))))).mono ?_
  rintro _ w9 ⟨uT, rfl, iT, xw9⟩
  clear ha_0 ha_1 ha_2
  have IT := hid iT
  obtain ⟨aT, cT, rfl, _, _, kT⟩ := iT
  clear kT
  unfold matV
  have z14 := (Ext.refl w9).alloc (.cells #[.int .i64 (n : Int), .int .i64 (m : Int), .slice aT (turnL m n xs).length cT] 25)
  have HT := hid (Blk.new w9 25 #[.int .i64 (n : Int), .int .i64 (m : Int), .slice aT (turnL m n xs).length cT])
  have htt := hid (turn_turn Ok.out.hl)
  obtain ⟨ht_0, ht_1, ht_2⟩ := HT.out.at3
  go_wp2_with fail
  refine (mxTurn_yes p n m _ _ _ Okt.out (IT.out.ext z14)).mono ?_
  rintro _ w10 ⟨uU2, rfl, iU2, xw10⟩
  clear ht_0 ht_1 ht_2
  rw [htt.out] at iU2
  have IU2 := hid iU2
  obtain ⟨aU2, cU2, rfl, _, _, kU2⟩ := iU2
  clear kU2
  unfold matV
  have z16 := (Ext.refl w10).alloc (.cells #[.int .i64 (m : Int), .int .i64 (n : Int), .slice aU2 xs.length cU2] 25)
  have HU2 := hid (Blk.new w10 25 #[.int .i64 (m : Int), .int .i64 (n : Int), .slice aU2 xs.length cU2])
  obtain ⟨ha_0, ha_1, ha_2⟩ := (HA.out.ext (x1.trans (xw2.trans (z4.trans (xw3.trans (z6.trans (xw4.trans (z8.trans (xw5.trans (xw6.trans (xw7.trans (xw8.trans (xw9.trans (z14.trans (xw10.trans z16))))))))))))))).at3
  go_wp2_with fail
  refine (mxOne_yes m _ Ok.out.hm).mono ?_
  rintro _ w11 ⟨uL1, rfl, iL1, xw11⟩
  clear ha_0 ha_1 ha_2
  have IL1 := hid iL1
  obtain ⟨aL1, cL1, rfl, _, _, kL1⟩ := iL1
  clear kL1
  unfold matV
  have z18 := (Ext.refl w11).alloc (.cells #[.int .i64 (m : Int), .int .i64 (m : Int), .slice aL1 (oneL m).length cL1] 25)
  have HL1 := hid (Blk.new w11 25 #[.int .i64 (m : Int), .int .i64 (m : Int), .slice aL1 (oneL m).length cL1])
  obtain ⟨ha_0, ha_1, ha_2⟩ := (HA.out.ext (x1.trans (xw2.trans (z4.trans (xw3.trans (z6.trans (xw4.trans (z8.trans (xw5.trans (xw6.trans (xw7.trans (xw8.trans (xw9.trans (z14.trans (xw10.trans (z16.trans (xw11.trans z18))))))))))))))))).at3
  go_wp2_with fail
  refine (mxOne_yes n _ Ok.out.hn).mono ?_
  rintro _ w12 ⟨uR1, rfl, iR1, xw12⟩
  clear ha_0 ha_1 ha_2
  have IR1 := hid iR1
  obtain ⟨aR1, cR1, rfl, _, _, kR1⟩ := iR1
  clear kR1
  unfold matV
  have z20 := (Ext.refl w12).alloc (.cells #[.int .i64 (n : Int), .int .i64 (n : Int), .slice aR1 (oneL n).length cR1] 25)
  have HR1 := hid (Blk.new w12 25 #[.int .i64 (n : Int), .int .i64 (n : Int), .slice aR1 (oneL n).length cR1])
  have hom := hid (one_mul Ok.out.hl Ok.out.hx)
  have hmo := hid (mul_one Ok.out.hl Ok.out.hx)
  obtain ⟨hl1_0, hl1_1, hl1_2⟩ := (HL1.out.ext (xw12.trans z20)).at3
  obtain ⟨ha_0, ha_1, ha_2⟩ := (HA.out.ext (x1.trans (xw2.trans (z4.trans (xw3.trans (z6.trans (xw4.trans (z8.trans (xw5.trans (xw6.trans (xw7.trans (xw8.trans (xw9.trans (z14.trans (xw10.trans (z16.trans (xw11.trans (z18.trans (xw12.trans z20))))))))))))))))))).at3
  go_wp2_with fail
  refine (mxMul_yes p m m n _ _ _ xs _ Ol.out Ok.out (IL1.out.ext (z18.trans (xw12.trans z20))) (IA.out.ext (hW0.out.trans (x1.trans (xw2.trans (z4.trans (xw3.trans (z6.trans (xw4.trans (z8.trans (xw5.trans (xw6.trans (xw7.trans (xw8.trans (xw9.trans (z14.trans (xw10.trans (z16.trans (xw11.trans (z18.trans (xw12.trans z20))))))))))))))))))))).mono ?_
  rintro _ w13 ⟨uLm, rfl, iLm, xw13⟩
  clear hl1_0 hl1_1 hl1_2 ha_0 ha_1 ha_2
  rw [hom.out] at iLm
  have ILm := hid iLm
  obtain ⟨aLm, cLm, rfl, _, _, kLm⟩ := iLm
  clear kLm
  unfold matV
  have z22 := (Ext.refl w13).alloc (.cells #[.int .i64 (m : Int), .int .i64 (n : Int), .slice aLm xs.length cLm] 25)
  have HLm := hid (Blk.new w13 25 #[.int .i64 (m : Int), .int .i64 (n : Int), .slice aLm xs.length cLm])
  obtain ⟨ha_0, ha_1, ha_2⟩ := (HA.out.ext (x1.trans (xw2.trans (z4.trans (xw3.trans (z6.trans (xw4.trans (z8.trans (xw5.trans (xw6.trans (xw7.trans (xw8.trans (xw9.trans (z14.trans (xw10.trans (z16.trans (xw11.trans (z18.trans (xw12.trans (z20.trans (xw13.trans z22))))))))))))))))))))).at3
  obtain ⟨hr1_0, hr1_1, hr1_2⟩ := (HR1.out.ext (xw13.trans z22)).at3
  go_wp2_with fail
  refine (mxMul_yes p m n n _ _ xs _ _ Ok.out Or.out (IA.out.ext (hW0.out.trans (x1.trans (xw2.trans (z4.trans (xw3.trans (z6.trans (xw4.trans (z8.trans (xw5.trans (xw6.trans (xw7.trans (xw8.trans (xw9.trans (z14.trans (xw10.trans (z16.trans (xw11.trans (z18.trans (xw12.trans (z20.trans (xw13.trans z22)))))))))))))))))))))) (IR1.out.ext (z20.trans (xw13.trans z22)))).mono ?_
  rintro _ w14 ⟨uMr, rfl, iMr, xw14⟩
  clear ha_0 ha_1 ha_2 hr1_0 hr1_1 hr1_2
  rw [hmo.out] at iMr
  have IMr := hid iMr
  obtain ⟨aMr, cMr, rfl, _, _, kMr⟩ := iMr
  clear kMr
  unfold matV
  have z24 := (Ext.refl w14).alloc (.cells #[.int .i64 (m : Int), .int .i64 (n : Int), .slice aMr xs.length cMr] 25)
  have HMr := hid (Blk.new w14 25 #[.int .i64 (m : Int), .int .i64 (n : Int), .slice aMr xs.length cMr])
  obtain ⟨ha_0, ha_1, ha_2⟩ := (HA.out.ext (x1.trans (xw2.trans (z4.trans (xw3.trans (z6.trans (xw4.trans (z8.trans (xw5.trans (xw6.trans (xw7.trans (xw8.trans (xw9.trans (z14.trans (xw10.trans (z16.trans (xw11.trans (z18.trans (xw12.trans (z20.trans (xw13.trans (z22.trans (xw14.trans z24))))))))))))))))))))))).at3
  go_wp2_with fail
  refine (mxThin_yes p m n _ xs _ Ok.out (IA.out.ext (hW0.out.trans (x1.trans (xw2.trans (z4.trans (xw3.trans (z6.trans (xw4.trans (z8.trans (xw5.trans (xw6.trans (xw7.trans (xw8.trans (xw9.trans (z14.trans (xw10.trans (z16.trans (xw11.trans (z18.trans (xw12.trans (z20.trans (xw13.trans (z22.trans (xw14.trans z24))))))))))))))))))))))))).mono ?_
  rintro _ w15 ⟨vb3, vc3, vv3, rfl, ib, ic, iv, xw15⟩
  clear ha_0 ha_1 ha_2
  obtain ⟨ab3, kb3, rfl, _, _, k5⟩ := ib
  obtain ⟨ac3, kc3, rfl, _, _, k6⟩ := ic
  obtain ⟨av3, kv3, rfl, _, _, k7⟩ := iv
  clear k5 k6 k7
  unfold spV
  have hnz := hid (show (thV xs (m * n)).length = nz xs xs.length by rw [Ok.out.hl]; rfl)
  rw [hnz.out]
  have z26 := (Ext.refl w15).alloc (.cells #[.int .i64 (m : Int), .int .i64 (n : Int), .slice ab3 (thB xs m n).length kb3, .slice ac3 (thC xs n (m * n)).length kc3, .slice av3 (nz xs xs.length) kv3] 28)
  have HH := hid (Blk.new w15 28 #[.int .i64 (m : Int), .int .i64 (n : Int), .slice ab3 (thB xs m n).length kb3, .slice ac3 (thC xs n (m * n)).length kc3, .slice av3 (nz xs xs.length) kv3])
  obtain ⟨ha_0, ha_1, ha_2⟩ := (HA.out.ext (x1.trans (xw2.trans (z4.trans (xw3.trans (z6.trans (xw4.trans (z8.trans (xw5.trans (xw6.trans (xw7.trans (xw8.trans (xw9.trans (z14.trans (xw10.trans (z16.trans (xw11.trans (z18.trans (xw12.trans (z20.trans (xw13.trans (z22.trans (xw14.trans (z24.trans (xw15.trans z26))))))))))))))))))))))))).at3
  go_wp2_with fail
  clear ha_0 ha_1 ha_2
  have yA := hid (x1.trans (xw2.trans (z4.trans (xw3.trans (z6.trans (xw4.trans (z8.trans (xw5.trans (xw6.trans (xw7.trans (xw8.trans (xw9.trans (z14.trans (xw10.trans (z16.trans (xw11.trans (z18.trans (xw12.trans (z20.trans (xw13.trans (z22.trans (xw14.trans (z24.trans (xw15.trans z26))))))))))))))))))))))))
  have y0 := hid (hW0.out.trans (x1.trans (xw2.trans (z4.trans (xw3.trans (z6.trans (xw4.trans (z8.trans (xw5.trans (xw6.trans (xw7.trans (xw8.trans (xw9.trans (z14.trans (xw10.trans (z16.trans (xw11.trans (z18.trans (xw12.trans (z20.trans (xw13.trans (z22.trans (xw14.trans (z24.trans (xw15.trans z26)))))))))))))))))))))))))
  obtain ⟨WL, hWL⟩ : ∃ W, (w15.alloc (.cells #[.int .i64 (m : Int), .int .i64 (n : Int), .slice ab3 (thB xs m n).length kb3, .slice ac3 (thC xs n (m * n)).length kc3, .slice av3 (nz xs xs.length) kv3] 28)) = W := ⟨_, rfl⟩
  have HAL := hid (HA.out.ext (x1.trans (xw2.trans (z4.trans (xw3.trans (z6.trans (xw4.trans (z8.trans (xw5.trans (xw6.trans (xw7.trans (xw8.trans (xw9.trans (z14.trans (xw10.trans (z16.trans (xw11.trans (z18.trans (xw12.trans (z20.trans (xw13.trans (z22.trans (xw14.trans (z24.trans (xw15.trans z26)))))))))))))))))))))))))
  have HTL := hid (HT.out.ext (xw10.trans (z16.trans (xw11.trans (z18.trans (xw12.trans (z20.trans (xw13.trans (z22.trans (xw14.trans (z24.trans (xw15.trans z26))))))))))))
  have HU2L := hid (HU2.out.ext (xw11.trans (z18.trans (xw12.trans (z20.trans (xw13.trans (z22.trans (xw14.trans (z24.trans (xw15.trans z26))))))))))
  have HLmL := hid (HLm.out.ext (xw14.trans (z24.trans (xw15.trans z26))))
  have HMrL := hid (HMr.out.ext (xw15.trans z26))
  have HHL := hid HH.out
  have IU2L := hid (IU2.out.ext (z16.trans (xw11.trans (z18.trans (xw12.trans (z20.trans (xw13.trans (z22.trans (xw14.trans (z24.trans (xw15.trans z26)))))))))))
  have IAL := hid (IA.out.ext (hW0.out.trans (x1.trans (xw2.trans (z4.trans (xw3.trans (z6.trans (xw4.trans (z8.trans (xw5.trans (xw6.trans (xw7.trans (xw8.trans (xw9.trans (z14.trans (xw10.trans (z16.trans (xw11.trans (z18.trans (xw12.trans (z20.trans (xw13.trans (z22.trans (xw14.trans (z24.trans (xw15.trans z26))))))))))))))))))))))))))
  have ILmL := hid (ILm.out.ext (z22.trans (xw14.trans (z24.trans (xw15.trans z26)))))
  have IMrL := hid (IMr.out.ext (z24.trans (xw15.trans z26)))
  rw [hWL] at HAL HTL HU2L HLmL HMrL HHL IU2L IAL ILmL IMrL yA y0 ⊢
  clear hWL
  go_loopw [28, 27] (fun iv mv wr => ∃ i : Nat, iv = .int .i64 i ∧ mv = .int .i64 (nz xs i) ∧ i ≤ xs.length ∧ Ext WL wr) (fun iv _ _ => xs.length - (intOf iv).toNat)
  case atStart => exact ⟨0, rfl, rfl, Nat.zero_le _, Ext.refl _⟩
  case round =>
    obtain ⟨i, rfl, rfl, hi, xr⟩ := hrel
    have hzb := nz_len xs i
    by_cases hlt : i < xs.length
    · obtain ⟨a0, a1, a2⟩ := (HAL.out.ext xr).at3
      have gx := ((y0.out.trans xr).cells _ _ hbk).trans (HK.out i hlt)
      have hsc := hid (nz_succ xs i)
      obtain ⟨x, ex⟩ : ∃ x, xs.getD i 0 = x := ⟨_, rfl⟩
      rw [ex] at gx hsc
      clear ex
      obtain ⟨z, hz⟩ : ∃ z, nz xs i = z := ⟨_, rfl⟩
      rw [hz] at hsc hzb ⊢
      clear hz
      by_cases hx0 : x = 0
      · have t0 : (x != 0) = false := by simp [hx0]
        have e := hid (hsc.out.trans (if_pos hx0))
        clear hx0 hsc
        go_wp2_with fail
        go_roundw
        case rel => exact ⟨i + 1, by go_num, by rw [e.out], by omega, xr⟩
        case measure => simp [intOf]; omega
      · have t0 : (x != 0) = true := by simp [hx0]
        have e := hid (hsc.out.trans (if_neg hx0))
        clear hx0 hsc
        go_wp2_with fail
        go_roundw
        case rel => exact ⟨i + 1, by go_num, by rw [e.out]; go_num, by omega, xr⟩
        case measure => simp [intOf]; omega
    · obtain rfl : xs.length = i := by omega
      have hT2 := hid (fun (W : World) (v u : Value) (hv : Ints .u64 W v xs) (hu : Ints .u64 W u xs) => (show Calls Try.prog 23 #[matV m n v, matV m n u] W (Ret (.bool true) W) from (decide_eq_true (⟨rfl, rfl, rfl⟩ : (m : Int) = m ∧ (n : Int) = n ∧ xs = xs)) ▸ rmSame m n m n v u _ _ W hv hu))
      unfold matV at hT2
      obtain ⟨nzl, hnzl⟩ : ∃ z, nz xs xs.length = z := ⟨_, rfl⟩
      rw [hnzl] at HHL ⊢
      clear hnzl hzb
      obtain ⟨hal_0, hal_1, hal_2⟩ := (HAL.out.ext xr).at3
      obtain ⟨hhl_0, hhl_1, hhl_2, hhl_3, hhl_4⟩ := (HHL.out.ext xr).at5
      obtain ⟨hu2l_0, hu2l_1, hu2l_2⟩ := (HU2L.out.ext xr).at3
      go_wp2_with fail
      refine (hT2.out _ _ _ (IU2L.out.ext xr) (IAL.out.ext xr)).mono ?_
      rintro _ v1 ⟨rfl, xv1⟩
      clear hal_0 hal_1 hal_2 hhl_0 hhl_1 hhl_2 hhl_3 hhl_4 hu2l_0 hu2l_1 hu2l_2
      obtain ⟨hal_0, hal_1, hal_2⟩ := (HAL.out.ext (xr.trans xv1)).at3
      obtain ⟨hlml_0, hlml_1, hlml_2⟩ := (HLmL.out.ext (xr.trans xv1)).at3
      go_wp2_with fail
      refine (hT2.out _ _ _ (ILmL.out.ext (xr.trans xv1)) (IAL.out.ext (xr.trans xv1))).mono ?_
      rintro _ v2 ⟨rfl, xv2⟩
      clear hal_0 hal_1 hal_2 hlml_0 hlml_1 hlml_2
      obtain ⟨hal_0, hal_1, hal_2⟩ := (HAL.out.ext (xr.trans (xv1.trans xv2))).at3
      obtain ⟨hmrl_0, hmrl_1, hmrl_2⟩ := (HMrL.out.ext (xr.trans (xv1.trans xv2))).at3
      go_wp2_with fail
      refine (hT2.out _ _ _ (IMrL.out.ext (xr.trans (xv1.trans xv2))) (IAL.out.ext (xr.trans (xv1.trans xv2)))).mono ?_
      rintro _ v3 ⟨rfl, xv3⟩
      clear hal_0 hal_1 hal_2 hmrl_0 hmrl_1 hmrl_2
      obtain ⟨hal_0, hal_1, hal_2⟩ := (HAL.out.ext (xr.trans (xv1.trans (xv2.trans xv3)))).at3
      obtain ⟨htl_0, htl_1, htl_2⟩ := (HTL.out.ext (xr.trans (xv1.trans (xv2.trans xv3)))).at3
      go_wp2_with fail
      go_ret
      exact ⟨rfl, y0.out.trans (xr.trans (xv1.trans (xv2.trans xv3)))⟩

/-- the law answers true -/
theorem walk (p r c : Int) (v : Value) (xs : List Int) (r' c' : Int) (vb vc vv : Value) (bs cs vs : List Int) (w : World) (hp : (Lit.int .u64 p).wf = true) (_ : (Lit.int .i64 r).wf = true) (_ : (Lit.int .i64 c).wf = true) (hv : Ints .u64 w v xs) (hx : ∀ x ∈ xs, (Lit.int .u64 x).wf = true)
    (_ : (Lit.int .i64 r').wf = true) (_ : (Lit.int .i64 c').wf = true) (hb : Ints .i64 w vb bs) (_ : ∀ x ∈ bs, (Lit.int .i64 x).wf = true) (hc : Ints .i64 w vc cs) (_ : ∀ x ∈ cs, (Lit.int .i64 x).wf = true) (hvv : Ints .u64 w vv vs) (hvx : ∀ x ∈ vs, (Lit.int .u64 x).wf = true) :
    Calls Try.prog 6 #[.int .u64 p, .agg #[.int .i64 r, .int .i64 c, v], .agg #[.int .i64 r', .int .i64 c', vb, vc, vv]] w (Ret (.bool true) w) := by
  have hp' := u64_wf hp
  have hx' : U64s xs := fun x h => u64_wf (hx x h)
  have hv' : U64s vs := fun x h => u64_wf (hvx x h)
  by_cases hs : vs.length ≤ 150 ∧ bs.length ≤ 70
  · by_cases hsp : SpIs p r' c' bs cs vs
    · obtain ⟨m2, n2, rfl, rfl, oks⟩ := hsp
      cases h : (decide (xs.length ≤ 150) && matB p r c xs) with
      | false => exact walk_sp_no p r c v xs m2 n2 vb vc vv bs cs vs w hp'.1 hp'.2 hv hx' hb hc hvv hv' hs.1 hs.2 oks h
      | true =>
        simp only [Bool.and_eq_true, decide_eq_true_eq] at h
        obtain ⟨m, n, rfl, rfl, ok⟩ := MatOk.of hx' h.2
        exact walk_sp_yes p m n v xs m2 n2 vb vc vv bs cs vs w hp'.1 hp'.2 hv hx' hb hc hvv hv' hs.1 hs.2 oks ok h.1
    · cases h : (decide (xs.length ≤ 150) && matB p r c xs) with
      | false => exact walk_nosp_no p r c v xs r' c' vb vc vv bs cs vs w hp'.1 hp'.2 hv hx' hb hc hvv hv' hs.1 hs.2 hsp h
      | true =>
        simp only [Bool.and_eq_true, decide_eq_true_eq] at h
        obtain ⟨m, n, rfl, rfl, ok⟩ := MatOk.of hx' h.2
        exact walk_nosp_yes p m n v xs r' c' vb vc vv bs cs vs w hp'.1 hp'.2 hv hx' hb hc hvv hv' hs.1 hs.2 hsp ok h.1
  · exact walk_skip p r c v xs r' c' vb vc vv bs cs vs w hp'.1 hp'.2 hv hx' hb hc hvv hv' hs

theorem own : ownKnob Try.prog.godebug = none := by kernel_rfl
set_option maxRecDepth 100000 in
theorem lifted (os : Os) (started : os.Started) (H : Type) (enc : TypeId × Value → H) :
    ReturnsInHanded {} Try.checked os 6 .any (Rows.matrixThinSpec.pre6 enc Try.prog Try.f6 Rows.matrixThinRow.domain false) (Rows.matrixThinSpec.post enc Try.prog Try.f6 false true false false) := by
  refine returnsInHanded_of_change (C := Try.checked) own started (by kernel_rfl) Try.func6
    (ChangeSpec.witness6 (enc := enc) (C := Try.checked) false ⟨#[], #[.int .u64 0, .agg #[.int .i64 0, .int .i64 0, .slice none 0 0], .agg #[.int .i64 0, .int .i64 0, .slice none 0 0, .slice none 0 0, .slice none 0 0]], []⟩ 8 (by kernel_rfl) (by kernel_rfl) (by kernel_rfl) (by kernel_rfl)) ?_
  intro W base args ds gs before hval0 hW _ _
  have hval : ∀ (j : Nat) t v, Try.f6.params[j]? = some t → args[j]? = some v → Value.okWide Try.prog W .any base t v := hval0
  have hW' := hW
  obtain ⟨p, q, hA0, hV, rfl, _, _⟩ := hW
  have hA : DataW.TrodAll enc Try.prog W 0 (fun _ => true) true Try.f6.params.toList args.toList ds p := hA0
  rw [Try.params6] at hA hval
  obtain ⟨v0, vs0, d0, ds0, p0, q0, hargs, rfl, rfl, h0, r0⟩ := trodAll_cons hA
  obtain ⟨v1, vs1, d1, ds1, p1, q1, rfl, rfl, rfl, h1, r1⟩ := trodAll_cons r0
  obtain ⟨v2, vs2, d2, ds2, p2, q2, rfl, rfl, rfl, h2, r2⟩ := trodAll_cons r1
  obtain ⟨rfl, rfl, rfl⟩ := trodAll_nil r2
  obtain rfl : args = #[v0, v1, v2] := by cases args; simp_all
  obtain ⟨rfl, rfl⟩ := trodVars_none hV
  obtain ⟨a0, rfl, rfl, rfl, w0⟩ := open_int Try.underlying22 (hval 0 22 v0 rfl rfl) h0
  obtain ⟨mr1, mc1, mu1, xs1, rfl, wr1, wc1, i1, w1⟩ := open_Mat (hval 1 25 v1 rfl rfl) h1
  obtain ⟨mr2, mc2, ub2, uc2, uv2, bs2, cs2, vs2, rfl, wr2, wc2, ib2, wb2, ic2, wk2, iv2, wv2⟩ := open_Sparse (hval 2 28 v2 rfl rfl) h2
  refine (walk a0 mr1 mc1 mu1 xs1 mr2 mc2 ub2 uc2 uv2 bs2 cs2 vs2 W w0 wr1 wc1 i1 w1 wr2 wc2 ib2 wb2 ic2 wk2 iv2 wv2).mono fun e W' ⟨he, hg⟩ => ⟨_, he, ?_⟩
  exact law_post (by kernel_rfl) (by kernel_rfl) rfl Try.underlying4 rfl rfl hW' hg

/-- the statement -/
theorem proved : Rows.MatrixThinSaid :=
  OpenClaim.holds_of_wide 6 Try.f6 rfl rfl rfl rfl rfl rfl rfl ⟨rfl, rfl, rfl, rfl, rfl⟩ rfl rfl rfl rfl rfl (by kernel_rfl) Try.func6 (by kernel_rfl)
    (of_decide_eq_true (by kernel_rfl)) (by unfold Func.isWrapper; first | (rw [if_pos (by decide +kernel)]; kernel_rfl) | (rw [if_neg (by decide +kernel)]; exact ⟨rfl, rfl⟩))
    (fun os started H enc _ => lifted os started H enc)
end Go.Proofs.Ytlociefncogjeaa.matrixThin
