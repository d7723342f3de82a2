/- FoldSides: whatever the number and the three matrices, the law answers true, and nothing that was there has turned. No condition. -/
import Derived.Test.YtmcadgcfdlonoaaBun19
import Derived.Test.YtmcadgcfdlonoaaOpenMat
namespace Go.Proofs.Ytmcadgcfdlonoaa.foldSides
open Go.ChangeShapes Go.WideShapes Go.ChangeAt Go.RowKit Go.Maps

set_option maxRecDepth 100000 in
set_option maxHeartbeats 4000000 in
theorem walk_skip (p ra ca rb cb rc cc : Int) (va vb vc : Value) (xs ys zs : List Int) (w : World) (h0 : 0 ≤ p) (h1 : p ≤ 18446744073709551615) (ha : Ints .u64 w va xs) (hb : Ints .u64 w vb ys) (hc : Ints .u64 w vc zs) (hx : U64s xs) (hy : U64s ys) (hz : U64s zs)
    (h : (decide (p ≤ 11) && (isB p && ((decide (xs.length ≤ 150) && (decide (ys.length ≤ 150) && decide (zs.length ≤ 150))) && meetB p ra ca rb cb rc cc xs ys zs))) = false) :
    Calls Try.prog 4 #[.int .u64 p, matV ra ca va, matV rb cb vb, matV rc cc vc] w (Ret (.bool true) w) := by
  have CS := hid fun (W : World) (hW : Ext w W) => l12short ra ca rb cb rc cc va vb vc xs ys zs W (ha.ext hW) (hb.ext hW) (hc.ext hW)
  have CM := hid fun (W : World) (hW : Ext w W) => r12Meet p ra ca rb cb rc cc va vb vc xs ys zs W h0 h1 (ha.ext hW) (hb.ext hW) (hc.ext hW) hx hy hz
  obtain ⟨S, e1⟩ : ∃ B, (decide (xs.length ≤ 150) && (decide (ys.length ≤ 150) && decide (zs.length ≤ 150))) = B := ⟨_, rfl⟩
  obtain ⟨M, e2⟩ : ∃ B, meetB p ra ca rb cb rc cc xs ys zs = B := ⟨_, rfl⟩
  rw [e1] at CS h; rw [e2] at CM h
  clear e1 e2 hx hy hz
  obtain ⟨aa, ka, rfl, -, -, -⟩ := ha
  obtain ⟨ab, kb, rfl, -, -, -⟩ := hb
  obtain ⟨ac, kc, rfl, -, -, -⟩ := hc
  have hB := hid (boxes_3 w 25 #[.int .i64 ra, .int .i64 ca, .slice aa xs.length ka] #[.int .i64 rb, .int .i64 cb, .slice ab ys.length kb] #[.int .i64 rc, .int .i64 cc, .slice ac zs.length kc])
  have XB := hid hB.out.2.2.2
  unfold matV at CS CM
  unfold matV
  by_cases g1 : 11 < p
  · clear h CS CM
    go_enter Try.func4, Try.ntmps4
    go_wp2_with (go_at_call 5; refine (awake12 _).mono ?_; rintro _ w1 ⟨rfl, x1⟩)
    go_ret
    exact ⟨rfl, XB.out.trans x1⟩
  rw [decide_eq_true (show p ≤ 11 by omega), Bool.true_and] at h
  have CI := hid fun (W : World) => Is_any p W h0 (by omega)
  obtain ⟨I, e3⟩ : ∃ B, isB p = B := ⟨_, rfl⟩
  rw [e3] at CI h
  clear e3
  cases I with
  | false =>
    clear h CS CM
    go_enter Try.func4, Try.ntmps4
    go_wp2_with (first
      | (go_at_call 5; refine (awake12 _).mono ?_; rintro _ w1 ⟨rfl, x1⟩)
      | (go_at_call 6; refine (CI.out _).mono ?_; rintro _ _ ⟨rfl, rfl⟩))
    go_ret
    exact ⟨rfl, XB.out.trans x1⟩
  | true =>
    rw [Bool.true_and] at h
    cases S with
    | false =>
      clear h CM
      go_enter Try.func4, Try.ntmps4
      go_wp2_with (first
        | (go_at_call 5; refine (awake12 _).mono ?_; rintro _ w1 ⟨rfl, x1⟩; have y1 := XB.out.trans x1
           obtain ⟨p0, p1, p2⟩ := (hB.out.1.ext x1).at3; obtain ⟨q0, q1, q2⟩ := (hB.out.2.1.ext x1).at3; obtain ⟨s0, s1, s2⟩ := (hB.out.2.2.1.ext x1).at3)
        | (go_at_call 6; refine (CI.out _).mono ?_; rintro _ _ ⟨rfl, rfl⟩)
        | (go_at_call 7; refine (CS.out _ y1).mono ?_; rintro _ w2 ⟨rfl, x2⟩))
      go_ret
      exact ⟨rfl, y1.trans x2⟩
    | true =>
      rw [Bool.true_and] at h
      subst h
      go_enter Try.func4, Try.ntmps4
      go_wp2_with (first
        | (go_at_call 5; refine (awake12 _).mono ?_; rintro _ w1 ⟨rfl, x1⟩; have y1 := XB.out.trans x1
           obtain ⟨p0, p1, p2⟩ := (hB.out.1.ext x1).at3; obtain ⟨q0, q1, q2⟩ := (hB.out.2.1.ext x1).at3; obtain ⟨s0, s1, s2⟩ := (hB.out.2.2.1.ext x1).at3)
        | (go_at_call 6; refine (CI.out _).mono ?_; rintro _ _ ⟨rfl, rfl⟩)
        | (go_at_call 7; refine (CS.out _ y1).mono ?_; rintro _ w2 ⟨rfl, x2⟩; have y2 := y1.trans x2
           clear p0 p1 p2 q0 q1 q2 s0 s1 s2
           obtain ⟨p0, p1, p2⟩ := (hB.out.1.ext (x1.trans x2)).at3; obtain ⟨q0, q1, q2⟩ := (hB.out.2.1.ext (x1.trans x2)).at3; obtain ⟨s0, s1, s2⟩ := (hB.out.2.2.1.ext (x1.trans x2)).at3)
        | (go_at_call 8; refine (CM.out _ y2).mono ?_; rintro _ w3 ⟨rfl, x3⟩))
      go_ret
      exact ⟨rfl, y2.trans x3⟩

set_option maxRecDepth 100000 in
set_option maxHeartbeats 4000000 in
theorem walk_yes (P m k n : Nat) (va vb vc : Value) (xs ys zs : List Int) (w : World) (hP : P ≤ 11) (hI : isB (P : Int) = true) (ok : MatOk (P : Int) m k xs) (oky : MatOk (P : Int) k n ys) (okz : MatOk (P : Int) m n zs) (ha : Ints .u64 w va xs) (hb : Ints .u64 w vb ys) (hc : Ints .u64 w vc zs)
    (hS : (decide (xs.length ≤ 150) && (decide (ys.length ≤ 150) && decide (zs.length ≤ 150))) = true) :
    Calls Try.prog 4 #[.int .u64 P, matV m k va, matV k n vb, matV m n vc] w (Ret (.bool true) w) := by
  have hp2 := rightB_true ok.hp
  have hf : Fld (P : Int) := fld_is ((isB_iff _).1 hI)
  have hM : meetB (P : Int) m k k n m n xs ys zs = true := by simp [meetB, ok.b, oky.b, okz.b]
  have hn := okz.hm
  have CS := hid fun (W : World) (hW : Ext w W) => l12short m k k n m n va vb vc xs ys zs W (ha.ext hW) (hb.ext hW) (hc.ext hW)
  have CM := hid fun (W : World) (hW : Ext w W) => r12Meet P m k k n m n va vb vc xs ys zs W (by omega) (by omega) (ha.ext hW) (hb.ext hW) (hc.ext hW) ok.u64 oky.u64 okz.u64
  have CI := hid fun (W : World) => Is_any (P : Int) W (by omega) (by omega)
  rw [hS] at CS; rw [hM] at CM; rw [hI] at CI
  have T1 := hid fun (W : World) (hW : Ext w W) => mxTurn_yes P m k va xs W ok (ha.ext hW)
  have T2 := hid fun (W : World) (hW : Ext w W) => mxTurn_yes P k n vb ys W oky (hb.ext hW)
  have T3 := hid fun (W : World) (hW : Ext w W) => mxTurn_yes P m n vc zs W okz (hc.ext hW)
  have CF := hid fun (W : World) (hW : Ext w W) (v : Value) (x : List Int) (hv : Ints .u64 W v x) (hx : Rng (P : Int) x) (hxl : x.length = m) => foLeft_yes P m k n va vb vc v xs ys zs x W ok oky okz (ha.ext hW) (hb.ext hW) (hc.ext hW) hv hx hxl
  have CL := hid fun (W : World) (ua ub uc v : Value) (x : List Int) (h1 : Ints .u64 W ua (turnL m k xs)) (h2 : Ints .u64 W ub (turnL k n ys)) (h3 : Ints .u64 W uc (turnL m n zs)) (hv : Ints .u64 W v x) (hx : Rng (P : Int) x) (hxl : x.length = m) =>
    left_looks P m k n xs ys zs x ▸ foLooks_yes P n k m ub ua uc v (turnL k n ys) (turnL m k xs) (turnL m n zs) x W oky.turn ok.turn okz.turn h2 h1 h3 hv hx hxl
  have CW := hid fun (W : World) (hW : Ext w W) => foWrong_yes P m k n va vb vc xs ys zs W ok oky okz (ha.ext hW) (hb.ext hW) (hc.ext hW)
  have CQ := hid fun (W : World) (ua ub uc : Value) (h1 : Ints .u64 W ua (turnL m k xs)) (h2 : Ints .u64 W ub (turnL k n ys)) (h3 : Ints .u64 W uc (turnL m n zs)) =>
    foSilent_yes P n k m ub ua uc (turnL k n ys) (turnL m k xs) (turnL m n zs) W hf oky.turn ok.turn okz.turn h2 h1 h3
  have HCN := hid (silent_count (m := n) (k := k) (n := m) (xs := turnL k n ys) (ys := turnL m k xs) (zs := turnL m n zs) hp2.1 hf)
  have hzt : zeroB (wrongL (P : Int) n k m (turnL k n ys) (turnL m k xs) (turnL m n zs)) = zeroB (wrongL (P : Int) m k n xs ys zs) := by
    rw [wrong_turn, zeroB_turn (wrongL_len ..)]
  have HZ := hid (silent_zero (p := P) (m := n) (k := k) (n := m) (xs := turnL k n ys) (ys := turnL m k xs) (zs := turnL m n zs))
  have HPT := hid (silent_part (m := n) (k := k) (n := m) (xs := turnL k n ys) (ys := turnL m k xs) (zs := turnL m n zs) hp2.1 hf)
  rw [hzt] at HZ HPT
  have hfun : (fun y => looksB (P : Int) n k m (turnL k n ys) (turnL m k xs) (turnL m n zs) y) = leftB (P : Int) m k n xs ys zs := funext fun y => (left_looks P m k n xs ys zs y).symm
  replace HZ : Hid (zeroB (wrongL (P : Int) m k n xs ys zs) = true → cntV P m (leftB (P : Int) m k n xs ys zs) = P ^ m) := hfun ▸ HZ
  replace HPT : Hid (zeroB (wrongL (P : Int) m k n xs ys zs) = false → cntV P m (leftB (P : Int) m k n xs ys zs) ≤ P ^ m / P) := hfun ▸ HPT
  replace HCN : Hid (cntV P m (leftB (P : Int) m k n xs ys zs) = silentN P n k m (turnL k n ys) (turnL m k xs) (turnL m n zs)) := hfun ▸ HCN
  have hp1 : 2 ≤ P := by omega
  clear hS hM hI ok oky okz hf hp2 hzt hfun
  obtain ⟨aa, ka, rfl, -, -, -⟩ := ha
  obtain ⟨ab, kb, rfl, -, -, -⟩ := hb
  obtain ⟨ac, kc, rfl, -, -, -⟩ := hc
  have hB := hid (boxes_3 w 25 #[.int .i64 m, .int .i64 k, .slice aa xs.length ka] #[.int .i64 k, .int .i64 n, .slice ab ys.length kb] #[.int .i64 m, .int .i64 n, .slice ac zs.length kc])
  have XB := hid hB.out.2.2.2
  unfold matV at CS CM CL CW CQ T1 T2 T3 CF
  unfold matV
  go_enter Try.func4, Try.ntmps4
  go_wp2_with (first
    | (go_at_call 5; refine (awake12 _).mono ?_; rintro _ w1 ⟨rfl, x1⟩; have y1 := XB.out.trans x1
       obtain ⟨p0, p1, p2⟩ := (hB.out.1.ext x1).at3; obtain ⟨q0, q1, q2⟩ := (hB.out.2.1.ext x1).at3; obtain ⟨s0, s1, s2⟩ := (hB.out.2.2.1.ext x1).at3)
    | (go_at_call 6; refine (CI.out _).mono ?_; rintro _ _ ⟨rfl, rfl⟩)
    | (go_at_call 7; refine (CS.out _ y1).mono ?_; rintro _ w2 ⟨rfl, x2⟩; have y2 := y1.trans x2
       clear p0 p1 p2 q0 q1 q2 s0 s1 s2
       obtain ⟨p0, p1, p2⟩ := (hB.out.1.ext (x1.trans x2)).at3; obtain ⟨q0, q1, q2⟩ := (hB.out.2.1.ext (x1.trans x2)).at3; obtain ⟨s0, s1, s2⟩ := (hB.out.2.2.1.ext (x1.trans x2)).at3)
    | (go_at_call 8; refine (CM.out _ y2).mono ?_; rintro _ w3 ⟨rfl, x3⟩
       clear p0 p1 p2 q0 q1 q2 s0 s1 s2
       have y3 := y2.trans x3
       have z3 := x1.trans (x2.trans x3)
       have HA := hid (hB.out.1.ext z3); have HB := hid (hB.out.2.1.ext z3); have HC := hid (hB.out.2.2.1.ext z3)))
  clear CS CM CI hB XB x1 x2 x3 y1 y2 z3
  obtain ⟨p0, p1, p2⟩ := HA.out.at3
  go_loop [9, 10] (fun al i => ∃ (j Q : Nat), i = .int .i64 j ∧ al = .int .u64 Q ∧ j ≤ m ∧ Q ≤ 1000 ∧ 1 ≤ Q ∧ Hid (Q = P ^ j)) (fun _ i => m - (intOf i).toNat)
  case atStart => exact ⟨0, 1, rfl, rfl, Nat.zero_le _, by omega, by omega, hid rfl⟩
  case round =>
    obtain ⟨j, Q, rfl, rfl, hj, hQ, hQ1, hq⟩ := hrel
    by_cases hlt : j < m
    · obtain ⟨R, eR⟩ : ∃ R, Q * P = R := ⟨_, rfl⟩
      have eR' : (Q : Int) * (P : Int) = (R : Int) := by rw [← eR, Int.natCast_mul]
      have hR : R ≤ 11000 := by rw [← eR]; exact Nat.mul_le_mul hQ hP
      have hR1 : 1 ≤ R := by rw [← eR]; exact Nat.mul_pos hQ1 (by omega)
      have HNX := hid (show R = P ^ (j + 1) by rw [← eR, hq.out, Nat.pow_succ])
      clear eR
      by_cases g : 1000 < R
      · go_wp2_with fail
        go_ret
        exact ⟨rfl, y3⟩
      · go_wp2_with fail
        go_round
        case rel => exact ⟨j + 1, R, by go_num, by go_num, by omega, by omega, hR1, HNX⟩
        case measure => simp [intOf]; omega
    · obtain rfl : m = j := by omega
      clear p0 p1 p2
      obtain ⟨p0, p1, p2⟩ := HA.out.at3
      go_wp2_with fail
      refine (T1.out _ y3).mono ?_
      rintro _ w4 ⟨u4, rfl, i4, x4⟩
      have I4 := hid i4
      obtain ⟨a4, c4, rfl, -, -, -⟩ := i4
      unfold matV
      obtain ⟨W4, hW4⟩ : ∃ W, w4.alloc (.cells #[.int .i64 (k : Int), .int .i64 (m : Int), .slice a4 (turnL m k xs).length c4] 25) = W := ⟨_, rfl⟩
      have X4 : Ext w3 W4 := hW4 ▸ x4.alloc _
      have e4 : Ext w4 W4 := hW4 ▸ (Ext.refl w4).alloc _
      have HD := hid (show Blk W4 w4.heap.size 25 #[.int .i64 (k : Int), .int .i64 (m : Int), .slice a4 (turnL m k xs).length c4] from hW4 ▸ Blk.new w4 _ _)
      replace I4 := hid (I4.out.ext e4)
      clear p0 p1 p2
      obtain ⟨q0, q1, q2⟩ := (HB.out.ext X4).at3
      go_wp2_with fail
      clear hW4 q0 q1 q2
      refine (T2.out _ (y3.trans X4)).mono ?_
      rintro _ w5 ⟨u5, rfl, i5, x5⟩
      have I5 := hid i5
      obtain ⟨a5, c5, rfl, -, -, -⟩ := i5
      unfold matV
      obtain ⟨W5, hW5⟩ : ∃ W, w5.alloc (.cells #[.int .i64 (n : Int), .int .i64 (k : Int), .slice a5 (turnL k n ys).length c5] 25) = W := ⟨_, rfl⟩
      have x45 : Ext W4 W5 := hW5 ▸ x5.alloc _
      have e5 : Ext w5 W5 := hW5 ▸ (Ext.refl w5).alloc _
      have HE := hid (show Blk W5 w5.heap.size 25 #[.int .i64 (n : Int), .int .i64 (k : Int), .slice a5 (turnL k n ys).length c5] from hW5 ▸ Blk.new w5 _ _)
      replace I5 := hid (I5.out.ext e5)
      replace I4 := hid (I4.out.ext x45)
      replace HD := hid (HD.out.ext x45)
      have X5 := X4.trans x45
      obtain ⟨s0, s1, s2⟩ := (HC.out.ext X5).at3
      go_wp2_with fail
      clear hW5 s0 s1 s2
      refine (T3.out _ (y3.trans X5)).mono ?_
      rintro _ w6 ⟨u6, rfl, i6, x6⟩
      have I6 := hid i6
      obtain ⟨a6, c6, rfl, -, -, -⟩ := i6
      unfold matV
      obtain ⟨W6, hW6⟩ : ∃ W, w6.alloc (.cells #[.int .i64 (n : Int), .int .i64 (m : Int), .slice a6 (turnL m n zs).length c6] 25) = W := ⟨_, rfl⟩
      have x56 : Ext W5 W6 := hW6 ▸ x6.alloc _
      have e6 : Ext w6 W6 := hW6 ▸ (Ext.refl w6).alloc _
      have HG := hid (show Blk W6 w6.heap.size 25 #[.int .i64 (n : Int), .int .i64 (m : Int), .slice a6 (turnL m n zs).length c6] from hW6 ▸ Blk.new w6 _ _)
      replace I6 := hid (I6.out.ext e6)
      replace I4 := hid (I4.out.ext x56)
      replace I5 := hid (I5.out.ext x56)
      replace HD := hid (HD.out.ext x56)
      replace HE := hid (HE.out.ext x56)
      have X6 := X5.trans x56
      replace HA := hid (HA.out.ext X6)
      replace HB := hid (HB.out.ext X6)
      replace HC := hid (HC.out.ext X6)
      have y6 := y3.trans X6
      clear y3 X4 X5 X6 x4 x5 x6 x45 x56 e4 e5 e6 T1 T2 T3
      go_wp2_with fail
      clear hW6
      go_loopw [17, 18, 19, 20, 21, 22, 23] (fun c i _ _ _ _ _ wr => ∃ (N C : Nat), c = .int .u64 C ∧ i = .int .u64 N ∧ N ≤ Q ∧ C ≤ N ∧ Hid (C = cntTo P m (leftB (P : Int) m k n xs ys zs) N) ∧ Ext W6 wr) (fun _ i _ _ _ _ _ _ => Q - (intOf i).toNat)
      case atStart => exact ⟨0, 0, rfl, rfl, Nat.zero_le _, Nat.le_refl _, hid rfl, Ext.refl _⟩
      case round =>
        obtain ⟨N, C, rfl, rfl, hN, hC, hcn, hxw⟩ := hrel
        rename World => wr
        have yr := y6.trans hxw
        by_cases hlt2 : N < Q
        · have CV := hid fun (W : World) => r12Vector P N m W ⟨by omega, by omega⟩ (by omega) hn.2
          obtain ⟨B, eB⟩ : ∃ B, leftB (P : Int) m k n xs ys zs (digV P N m) = B := ⟨_, rfl⟩
          have CF2 := hid fun (W : World) (hW : Ext w W) (v : Value) (hv : Ints .u64 W v (digV P N m)) => CF.out W hW v _ hv (digV_dig (by omega) m N) (digV_len P m N)
          have CL2 := hid fun (W : World) (hW : Ext W6 W) (v : Value) (hv : Ints .u64 W v (digV P N m)) => CL.out W _ _ _ v _ (I4.out.ext hW) (I5.out.ext hW) (I6.out.ext hW) hv (digV_dig (by omega) m N) (digV_len P m N)
          rw [eB] at CL2 CF2
          have HEB := hid eB
          clear eB
          obtain ⟨p0, p1, p2⟩ := (HA.out.ext hxw).at3
          go_wp2_with fail
          clear p0 p1 p2
          refine (CV.out _).mono ?_
          rintro _ w7 ⟨v7, rfl, o7, x7⟩
          have I7 := hid (own_ints o7)
          clear o7
          obtain ⟨a7, c7, rfl, -, -, -⟩ := I7.out
          obtain ⟨p0, p1, p2⟩ := (HA.out.ext (hxw.trans x7)).at3; obtain ⟨q0, q1, q2⟩ := (HB.out.ext (hxw.trans x7)).at3; obtain ⟨s0, s1, s2⟩ := (HC.out.ext (hxw.trans x7)).at3
          go_wp2_with fail
          clear p0 p1 p2 q0 q1 q2 s0 s1 s2
          refine (CF2.out _ (yr.trans x7) _ I7.out).mono ?_
          rintro _ w8 ⟨rfl, x8⟩
          have X8 := hxw.trans (x7.trans x8)
          obtain ⟨p0, p1, p2⟩ := (HD.out.ext X8).at3; obtain ⟨q0, q1, q2⟩ := (HE.out.ext X8).at3; obtain ⟨s0, s1, s2⟩ := (HG.out.ext X8).at3
          go_wp2_with fail
          clear p0 p1 p2 q0 q1 q2 s0 s1 s2
          refine (CL2.out _ X8 _ (I7.out.ext x8)).mono ?_
          rintro _ w9 ⟨rfl, x9⟩
          cases B with
          | true =>
            go_wp2_with fail
            go_roundw
            case rel => exact ⟨N + 1, C + 1, by go_num, by go_num, by omega, by omega, hid (by rw [cntTo_yes HEB.out, hcn.out]), X8.trans x9⟩
            case measure => simp [intOf]; omega
          | false =>
            go_wp2_with fail
            go_roundw
            case rel => exact ⟨N + 1, C, by go_num, by go_num, by omega, by omega, hid (by rw [cntTo_no HEB.out, hcn.out]), X8.trans x9⟩
            case measure => simp [intOf]; omega
        · obtain rfl : Q = N := by omega
          have hall : C = cntV P m (leftB (P : Int) m k n xs ys zs) := by rw [hcn.out, hq.out, cntTo_all (by omega)]
          have hsil : silentN P n k m (turnL k n ys) (turnL m k xs) (turnL m n zs) = C := by rw [hall, HCN.out]
          have CQ2 := hid fun (W : World) (hW : Ext W6 W) => CQ.out W _ _ _ (I4.out.ext hW) (I5.out.ext hW) (I6.out.ext hW) (by rw [hsil]; omega)
          rw [hsil] at CQ2
          have HZ2 := hid fun h => hall.trans ((HZ.out h).trans hq.out.symm)
          have HPT2 := hid fun h => (show C ≤ Q / P by rw [hall, hq.out]; exact HPT.out h)
          have CZ := hid fun (W : World) (v : Value) (hv : Ints .u64 W v (wrongL P m k n xs ys zs)) => r12Zero v _ W hv
          obtain ⟨Z, eZ⟩ : ∃ Z, zeroB (wrongL P m k n xs ys zs) = Z := ⟨_, rfl⟩
          rw [eZ] at CZ HZ2 HPT2
          clear hall hsil CQ HZ HPT CL CF HCN hq hcn
          obtain ⟨p0, p1, p2⟩ := (HD.out.ext hxw).at3; obtain ⟨q0, q1, q2⟩ := (HE.out.ext hxw).at3; obtain ⟨s0, s1, s2⟩ := (HG.out.ext hxw).at3
          go_wp2_with fail
          clear p0 p1 p2 q0 q1 q2 s0 s1 s2
          refine (CQ2.out _ hxw).mono ?_
          rintro _ w7 ⟨rfl, x7⟩
          have X7 := hxw.trans x7
          obtain ⟨p0, p1, p2⟩ := (HA.out.ext X7).at3; obtain ⟨q0, q1, q2⟩ := (HB.out.ext X7).at3; obtain ⟨s0, s1, s2⟩ := (HC.out.ext X7).at3
          go_wp2_with fail
          clear p0 p1 p2 q0 q1 q2 s0 s1 s2
          refine (CW.out _ (yr.trans x7)).mono ?_
          rintro _ w8 ⟨u8, rfl, i8, x8⟩
          have I8 := hid i8
          obtain ⟨a8, c8, rfl, -, -, -⟩ := i8
          unfold matV
          obtain ⟨W8, hW8⟩ : ∃ W, w8.alloc (.cells #[.int .i64 (m : Int), .int .i64 (n : Int), .slice a8 (wrongL (P : Int) m k n xs ys zs).length c8] 25) = W := ⟨_, rfl⟩
          have x89 : Ext w8 W8 := hW8 ▸ (Ext.refl w8).alloc _
          have HW := hid (show Blk W8 w8.heap.size 25 #[.int .i64 (m : Int), .int .i64 (n : Int), .slice a8 (wrongL (P : Int) m k n xs ys zs).length c8] from hW8 ▸ Blk.new w8 _ _)
          replace I8 := hid (I8.out.ext x89)
          have yz := (yr.trans x7).trans (x8.trans x89)
          obtain ⟨p0, p1, p2⟩ := HW.out.at3
          obtain ⟨D, eD⟩ : ∃ D, Q / P = D := ⟨_, rfl⟩
          rw [eD] at HPT2
          have eDi : (Q : Int).tdiv (P : Int) = (D : Int) := by rw [Int.tdiv_eq_ediv_of_nonneg (by omega), ← eD]; rfl
          have hDQ : D ≤ Q := by rw [← eD]; exact Nat.div_le_self _ _
          clear eD
          cases Z with
          | true =>
            obtain rfl : C = Q := HZ2.out rfl
            go_wp2_with (go_at_call 13; refine (CZ.out _ _ I8.out).mono ?_; rintro _ _ ⟨rfl, rfl⟩)
            go_ret
            exact ⟨ret_bool (by simp), yz⟩
          | false =>
            have hd := HPT2.out rfl
            go_wp2_with (go_at_call 13; refine (CZ.out _ _ I8.out).mono ?_; rintro _ _ ⟨rfl, rfl⟩)
            go_ret
            exact ⟨ret_bool (by simp), yz⟩
theorem walk (p ra ca : Int) (va : Value) (xs : List Int) (rb cb : Int) (vb : Value) (ys : List Int) (rc cc : Int) (vc : Value) (zs : List Int) (w : World) (hp : (Lit.int .u64 p).wf = true)
    (_ : (Lit.int .i64 ra).wf = true) (_ : (Lit.int .i64 ca).wf = true) (ha : Ints .u64 w va xs) (hx : ∀ x ∈ xs, (Lit.int .u64 x).wf = true) (_ : (Lit.int .i64 rb).wf = true) (_ : (Lit.int .i64 cb).wf = true) (hb : Ints .u64 w vb ys) (hy : ∀ x ∈ ys, (Lit.int .u64 x).wf = true)
    (_ : (Lit.int .i64 rc).wf = true) (_ : (Lit.int .i64 cc).wf = true) (hc : Ints .u64 w vc zs) (hz : ∀ x ∈ zs, (Lit.int .u64 x).wf = true) :
    Calls Try.prog 4 #[.int .u64 p, .agg #[.int .i64 ra, .int .i64 ca, va], .agg #[.int .i64 rb, .int .i64 cb, vb], .agg #[.int .i64 rc, .int .i64 cc, vc]] w (Ret (.bool true) w) := by
  have hp' := u64_wf hp
  have hx' : U64s xs := fun x h => u64_wf (hx x h)
  have hy' : U64s ys := fun x h => u64_wf (hy x h)
  have hz' : U64s zs := fun x h => u64_wf (hz x h)
  cases h : (decide (p ≤ 11) && (isB p && ((decide (xs.length ≤ 150) && (decide (ys.length ≤ 150) && decide (zs.length ≤ 150))) && meetB p ra ca rb cb rc cc xs ys zs)))
  · exact walk_skip p ra ca rb cb rc cc va vb vc xs ys zs w hp'.1 hp'.2 ha hb hc hx' hy' hz' h
  · rw [Bool.and_eq_true, Bool.and_eq_true, Bool.and_eq_true] at h
    obtain ⟨hpl, hI, hS, hM⟩ := h
    obtain ⟨m, k, n, rfl, rfl, rfl, rfl, rfl, rfl, ok, oky, okz⟩ := meet_ok hx' hy' hz' hM
    obtain ⟨P, rfl⟩ := Int.eq_ofNat_of_zero_le hp'.1
    exact walk_yes P m k n va vb vc xs ys zs w (by have := of_decide_eq_true hpl; omega) hI ok oky okz ha hb hc hS

theorem own : ownKnob Try.prog.godebug = none := by kernel_rfl
set_option maxRecDepth 100000 in
theorem lifted (os : Os) (started : os.Started) (H : Type) (enc : TypeId × Value → H) :
    ReturnsInHanded {} Try.checked os 4 .any (Rows.foldSidesSpec.pre6 enc Try.prog Try.f4 Rows.foldSidesRow.domain false) (Rows.foldSidesSpec.post enc Try.prog Try.f4 false true false false) := by
  refine returnsInHanded_of_change (C := Try.checked) own started (by kernel_rfl) Try.func4
    (ChangeSpec.witness6 (enc := enc) (C := Try.checked) false ⟨#[], #[.int .u64 0, .agg #[.int .i64 0, .int .i64 0, .slice none 0 0], .agg #[.int .i64 0, .int .i64 0, .slice none 0 0], .agg #[.int .i64 0, .int .i64 0, .slice none 0 0]], []⟩ 8 (by kernel_rfl) (by kernel_rfl) (by kernel_rfl) (by kernel_rfl)) ?_
  intro W base args ds gs before hval0 hW _ _
  have hval : ∀ (j : Nat) t v, Try.f4.params[j]? = some t → args[j]? = some v → Value.okWide Try.prog W .any base t v := hval0
  have hW' := hW
  obtain ⟨p, q, hA0, hV, rfl, _, _⟩ := hW
  have hA : DataW.TrodAll enc Try.prog W 0 (fun _ => true) true Try.f4.params.toList args.toList ds p := hA0
  rw [Try.params4] at hA hval
  obtain ⟨v0, vs0, d0, ds0, p0, q0, hargs, rfl, rfl, h0, r0⟩ := trodAll_cons hA
  obtain ⟨v1, vs1, d1, ds1, p1, q1, rfl, rfl, rfl, h1, r1⟩ := trodAll_cons r0
  obtain ⟨v2, vs2, d2, ds2, p2, q2, rfl, rfl, rfl, h2, r2⟩ := trodAll_cons r1
  obtain ⟨v3, vs3, d3, ds3, p3, q3, rfl, rfl, rfl, h3, r3⟩ := trodAll_cons r2
  obtain ⟨rfl, rfl, rfl⟩ := trodAll_nil r3
  obtain rfl : args = #[v0, v1, v2, v3] := by cases args; simp_all
  obtain ⟨rfl, rfl⟩ := trodVars_none hV
  obtain ⟨a0, rfl, rfl, rfl, w0⟩ := open_int Try.underlying22 (hval 0 22 v0 rfl rfl) h0
  obtain ⟨mr1, mc1, mu1, xs1, rfl, wr1, wc1, i1, w1⟩ := open_Mat (hval 1 25 v1 rfl rfl) h1
  obtain ⟨mr2, mc2, mu2, xs2, rfl, wr2, wc2, i2, w2⟩ := open_Mat (hval 2 25 v2 rfl rfl) h2
  obtain ⟨mr3, mc3, mu3, xs3, rfl, wr3, wc3, i3, w3⟩ := open_Mat (hval 3 25 v3 rfl rfl) h3
  refine (walk a0 mr1 mc1 mu1 xs1 mr2 mc2 mu2 xs2 mr3 mc3 mu3 xs3 W w0 wr1 wc1 i1 w1 wr2 wc2 i2 w2 wr3 wc3 i3 w3).mono fun e W' ⟨he, hg⟩ => ⟨_, he, ?_⟩
  exact law_post (by kernel_rfl) (by kernel_rfl) rfl Try.underlying4 rfl rfl hW' hg

/-- the statement -/
theorem proved : Rows.FoldSidesSaid :=
  OpenClaim.holds_of_wide 4 Try.f4 rfl rfl rfl rfl rfl rfl rfl ⟨rfl, rfl, rfl, rfl, rfl⟩ rfl rfl rfl rfl rfl (by kernel_rfl) Try.func4 (by kernel_rfl)
    (of_decide_eq_true (by kernel_rfl)) (by unfold Func.isWrapper; first | (rw [if_pos (by decide +kernel)]; kernel_rfl) | (rw [if_neg (by decide +kernel)]; exact ⟨rfl, rfl⟩))
    (fun os started H enc _ => lifted os started H enc)
end Go.Proofs.Ytmcadgcfdlonoaa.foldSides
