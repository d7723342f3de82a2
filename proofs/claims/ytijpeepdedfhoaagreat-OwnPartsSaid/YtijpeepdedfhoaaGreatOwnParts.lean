/- OwnParts: whatever the arguments, the law answers true, and nothing that was there has turned. No condition. -/
import Derived.Test.YtijpeepdedfhoaaGreatAwake15
import Derived.Test.YtijpeepdedfhoaaGreatBun22
import Derived.Test.YtijpeepdedfhoaaGreatBun30
import Derived.Test.YtijpeepdedfhoaaGreatFldP
import Derived.Test.YtijpeepdedfhoaaGreatBun08
import Derived.Test.YtijpeepdedfhoaaGreatBun32
import Derived.Test.YtijpeepdedfhoaaGreatR15k
import Derived.Test.YtijpeepdedfhoaaGreatCntL
import Derived.Test.YtijpeepdedfhoaaGreatBun23
import Derived.Test.YtijpeepdedfhoaaGreatDiv
import Derived.Deep.RegionHeld3
namespace Go.Proofs.YtijpeepdedfhoaaGreat.ownParts
open Go.ChangeShapes Go.WideShapes Go.ChangeAt Go.RowKit Go.Maps

/-- who divides leaves no rest -/
theorem rest_none {p : Int} {X G q r : List Int} (hG : Pol p G) (g0 : G ≠ []) {i : Int} (hi : lead G * i % p = 1) (hr : Pol p r) (hl : r.length < G.length) {u : Ser p} (hu : u.poly) (e : pol p X = u * pol p G) (h : pol p X = pol p q * pol p G + pol p r) : r = [] := by
  have := pol_div_unique (q := pol p q) (r := pol p r) (q' := u) (r' := 0) hG g0 hi (pol_poly _) hu ((pol_low r).mono (by omega)) (Ser.low_zero _) (by rw [← h, Ser.add_zero, e])
  exact hr.zero this.2
set_option maxRecDepth 100000 in
set_option maxHeartbeats 8000000 in
theorem walk_skip (p r c : Int) (mv : Value) (xs F H S T U V : List Int) (fv hv sv tv uv vv : Value) (w : World) (h0 : 0 ≤ p) (h1 : p ≤ 18446744073709551615) (hm : Ints .u64 w mv xs) (ux : U64s xs) (o : OwnR w fv hv sv tv uv vv F H S T U V) (ou : OwnU F H S T U V) (h : (decide (p ≤ 7) && (isB p && (decide (xs.length ≤ 16) && (shortO F H S T U V && (matB p r c xs && (decide (r = c) && ownB p r F H S T U V)))))) = false) :
    Calls Tryz.prog 5 #[.int .u64 p, matV r c mv, .agg #[fv, hv, sv, tv, uv, vv]] w (Ret (.bool true) w) := by
  have CI := hid fun (W : World) (hp : p ≤ 7) => Is_any p W h0 (by omega)
  have CB := hid fun (W : World) (hW : Ext w W) => r15Short F H S T U V fv hv sv tv uv vv W (o.ext hW)
  have CM := hid fun (W : World) (hW : Ext w W) => mxRight p r c mv xs W h0 h1 (hm.ext hW) ux
  have CO := hid fun (W : World) (hW : Ext w W) => owHas p r F H S T U V fv hv sv tv uv vv W h0 h1 (o.ext hW) ou
  obtain ⟨I, eI⟩ : ∃ B, isB p = B := ⟨_, rfl⟩
  rw [eI] at CI h
  obtain ⟨B, eB⟩ : ∃ B, shortO F H S T U V = B := ⟨_, rfl⟩
  rw [eB] at CB h
  obtain ⟨M, eM⟩ : ∃ B, matB p r c xs = B := ⟨_, rfl⟩
  rw [eM] at CM h
  obtain ⟨O, eO⟩ : ∃ B, ownB p r F H S T U V = B := ⟨_, rfl⟩
  rw [eO] at CO h
  clear eI eB eM eO ux ou
  unfold matV at CM
  obtain ⟨a, cap, rfl, -, -, -⟩ := hm
  obtain ⟨a1, c1, rfl, -, -, -⟩ := o.f
  obtain ⟨a2, c2, rfl, -, -, -⟩ := o.h
  obtain ⟨a3, c3, rfl, -, -, -⟩ := o.s
  obtain ⟨a4, c4, rfl, -, -, -⟩ := o.t
  obtain ⟨a5, c5, rfl, -, -, -⟩ := o.u
  obtain ⟨a6, c6, rfl, -, -, -⟩ := o.v
  clear o
  have HM := hid (show Blk ((w.alloc (.cells #[.int .i64 r, .int .i64 c, .slice a xs.length cap] 25)).alloc (.cells #[.slice a1 F.length c1, .slice a2 H.length c2, .slice a3 S.length c3, .slice a4 T.length c4, .slice a5 U.length c5, .slice a6 V.length c6] 30)) w.heap.size 25 #[.int .i64 r, .int .i64 c, .slice a xs.length cap] from (Blk.new _ _ _).ext ((Ext.refl _).alloc _))
  have HO := hid (show Blk ((w.alloc (.cells #[.int .i64 r, .int .i64 c, .slice a xs.length cap] 25)).alloc (.cells #[.slice a1 F.length c1, .slice a2 H.length c2, .slice a3 S.length c3, .slice a4 T.length c4, .slice a5 U.length c5, .slice a6 V.length c6] 30)) (w.heap.size + 1) 30 #[.slice a1 F.length c1, .slice a2 H.length c2, .slice a3 S.length c3, .slice a4 T.length c4, .slice a5 U.length c5, .slice a6 V.length c6] from Blk.at_ (by rw [alloc_size]))
  have hW0 := hid (show Ext w ((w.alloc (.cells #[.int .i64 r, .int .i64 c, .slice a xs.length cap] 25)).alloc (.cells #[.slice a1 F.length c1, .slice a2 H.length c2, .slice a3 S.length c3, .slice a4 T.length c4, .slice a5 U.length c5, .slice a6 V.length c6] 30)) from ((Ext.refl w).alloc _).alloc _)
  unfold matV
  obtain ⟨LM, eLM⟩ : ∃ k, xs.length = k := ⟨_, rfl⟩
  rw [eLM] at h HM HO hW0 CM
  rw [eLM]
  clear eLM
  have Hh := hid h
  clear h
  go_enter Tryz.func5, Tryz.ntmps5
  go_wp2_with fail
  refine (awake15 _).mono ?_
  rintro _ w1 ⟨rfl, xw1⟩
  by_cases g1 : p ≤ 7
  case neg =>
    obtain ⟨hm_0, hm_1, hm_2⟩ := (HM.out.ext xw1).at3
    obtain ⟨ho_0, ho_1, ho_2, ho_3, ho_4, ho_5⟩ := (HO.out.ext xw1).at6
    go_wp2_with fail
    go_ret
    exact ⟨rfl, (hW0.out.trans xw1)⟩
  obtain ⟨hm_0, hm_1, hm_2⟩ := (HM.out.ext xw1).at3
  obtain ⟨ho_0, ho_1, ho_2, ho_3, ho_4, ho_5⟩ := (HO.out.ext xw1).at6
  go_wp2_with fail
  refine (CI.out _ g1).mono ?_
  rintro _ _ ⟨rfl, rfl⟩
  clear hm_0 hm_1 hm_2 ho_0 ho_1 ho_2 ho_3 ho_4 ho_5
  cases I
  · obtain ⟨hm_0, hm_1, hm_2⟩ := (HM.out.ext xw1).at3
    obtain ⟨ho_0, ho_1, ho_2, ho_3, ho_4, ho_5⟩ := (HO.out.ext xw1).at6
    go_wp2_with fail
    go_ret
    exact ⟨rfl, (hW0.out.trans xw1)⟩
  by_cases g2 : LM ≤ 16
  case neg =>
    obtain ⟨hm_0, hm_1, hm_2⟩ := (HM.out.ext xw1).at3
    obtain ⟨ho_0, ho_1, ho_2, ho_3, ho_4, ho_5⟩ := (HO.out.ext xw1).at6
    go_wp2_with fail
    go_ret
    exact ⟨rfl, (hW0.out.trans xw1)⟩
  obtain ⟨hm_0, hm_1, hm_2⟩ := (HM.out.ext xw1).at3
  obtain ⟨ho_0, ho_1, ho_2, ho_3, ho_4, ho_5⟩ := (HO.out.ext xw1).at6
  go_wp2_with fail
  refine (CB.out _ (hW0.out.trans xw1)).mono ?_
  rintro _ w2 ⟨rfl, xw2⟩
  clear hm_0 hm_1 hm_2 ho_0 ho_1 ho_2 ho_3 ho_4 ho_5
  cases B
  · obtain ⟨hm_0, hm_1, hm_2⟩ := (HM.out.ext (xw1.trans xw2)).at3
    obtain ⟨ho_0, ho_1, ho_2, ho_3, ho_4, ho_5⟩ := (HO.out.ext (xw1.trans xw2)).at6
    go_wp2_with fail
    go_ret
    exact ⟨rfl, (hW0.out.trans (xw1.trans xw2))⟩
  obtain ⟨hm_0, hm_1, hm_2⟩ := (HM.out.ext (xw1.trans xw2)).at3
  obtain ⟨ho_0, ho_1, ho_2, ho_3, ho_4, ho_5⟩ := (HO.out.ext (xw1.trans xw2)).at6
  go_wp2_with fail
  refine (CM.out _ (hW0.out.trans (xw1.trans xw2))).mono ?_
  rintro _ w3 ⟨rfl, xw3⟩
  clear hm_0 hm_1 hm_2 ho_0 ho_1 ho_2 ho_3 ho_4 ho_5
  cases M
  · obtain ⟨hm_0, hm_1, hm_2⟩ := (HM.out.ext (xw1.trans (xw2.trans xw3))).at3
    obtain ⟨ho_0, ho_1, ho_2, ho_3, ho_4, ho_5⟩ := (HO.out.ext (xw1.trans (xw2.trans xw3))).at6
    go_wp2_with fail
    go_ret
    exact ⟨rfl, (hW0.out.trans (xw1.trans (xw2.trans xw3)))⟩
  by_cases g4 : r = c
  case neg =>
    have bg4 : (r != c) = true := by rw [bne_iff_ne]; exact g4
    obtain ⟨hm_0, hm_1, hm_2⟩ := (HM.out.ext (xw1.trans (xw2.trans xw3))).at3
    obtain ⟨ho_0, ho_1, ho_2, ho_3, ho_4, ho_5⟩ := (HO.out.ext (xw1.trans (xw2.trans xw3))).at6
    go_wp2_with fail
    go_ret
    exact ⟨rfl, (hW0.out.trans (xw1.trans (xw2.trans xw3)))⟩
  have bg4 : (r != c) = false := by simp [g4]
  have Hg4 := hid g4
  clear g4
  obtain ⟨hm_0, hm_1, hm_2⟩ := (HM.out.ext (xw1.trans (xw2.trans xw3))).at3
  obtain ⟨ho_0, ho_1, ho_2, ho_3, ho_4, ho_5⟩ := (HO.out.ext (xw1.trans (xw2.trans xw3))).at6
  go_wp2_with fail
  refine (CO.out _ (hW0.out.trans (xw1.trans (xw2.trans xw3)))).mono ?_
  rintro _ w4 ⟨rfl, xw4⟩
  clear hm_0 hm_1 hm_2 ho_0 ho_1 ho_2 ho_3 ho_4 ho_5
  cases O
  · obtain ⟨hm_0, hm_1, hm_2⟩ := (HM.out.ext (xw1.trans (xw2.trans (xw3.trans xw4)))).at3
    obtain ⟨ho_0, ho_1, ho_2, ho_3, ho_4, ho_5⟩ := (HO.out.ext (xw1.trans (xw2.trans (xw3.trans xw4)))).at6
    go_wp2_with fail
    go_ret
    exact ⟨rfl, (hW0.out.trans (xw1.trans (xw2.trans (xw3.trans xw4))))⟩
  exact absurd Hh.out (by simp [g1, g2, Hg4.out])
set_option maxRecDepth 100000 in
set_option maxHeartbeats 8000000 in
theorem walk_yes (P n : Nat) (mv : Value) (xs F H S T U V : List Int) (fv hv sv tv uv vv : Value) (w : World) (ok : MatOk (P : Int) n n xs) (hP : P ≤ 7) (hI : isB (P : Int) = true) (hlen : xs.length ≤ 16) (hsh : shortO F H S T U V = true) (hm : Ints .u64 w mv xs) (o : OwnR w fv hv sv tv uv vv F H S T U V) (oo : OwnOk (P : Int) n F H S T U V) :
    Calls Tryz.prog 5 #[.int .u64 P, matV n n mv, .agg #[fv, hv, sv, tv, uv, vv]] w (Ret (.bool true) w) := by
  have hp2 := rightB_true ok.hp
  have hf : Fld (P : Int) := fld_is ((isB_iff _).1 hI)
  have hn := ok.hn
  have ou := oo.u
  obtain ⟨f, hmin⟩ := MinL.any (hf.has hp2.1) n xs
  have hfl := hmin.len (hf.has hp2.1)
  have CI := hid fun (W : World) => Is_any (P : Int) W (by omega) (by omega)
  rw [hI] at CI
  have CB := hid fun (W : World) (hW : Ext w W) => r15Short F H S T U V fv hv sv tv uv vv W (o.ext hW)
  rw [hsh] at CB
  have CM := hid fun (W : World) (hW : Ext w W) => (ok.b ▸ mxRight (P : Int) n n mv xs W (by omega) (by omega) (hm.ext hW) ok.u64 : Calls Tryz.prog 9 #[.int .u64 P, matV n n mv] W (Ret (.bool true) W))
  have CO := hid fun (W : World) (hW : Ext w W) => owHas (P : Int) n F H S T U V fv hv sv tv uv vv W (by omega) (by omega) (o.ext hW) ou
  rw [(ownB_iff ou).2 ⟨n, rfl, oo⟩] at CO
  have CF := hid fun (W : World) (hW : Ext w W) => krMin (P : Int) n mv xs f W ok hf (hm.ext hW) hmin
  have CD := hid fun (W : World) (hW : Ext w W) (z : Value) (x : List Int) (hz : Ints .u64 W z x) (hx : Dig P x) (hl : x.length = n) => (show Calls Tryz.prog 14 #[.int .u64 P, matV n n mv, .agg #[fv, hv, sv, tv, uv, vv], z] W (Ret (.tuple #[.bool (diesB (P : Int) n xs F x), .int .i64 0]) W) from by
    have hr : Rng (P : Int) x := fun y hy => hx y hy
    have h := owDies (P : Int) n F H S T U V xs x mv fv hv sv tv uv vv z W ok (hm.ext hW) (o.ext hW) ou oo hz (hr.u64 hp2.2)
    rwa [(vecB_iff (hr.u64 hp2.2)).2 ⟨ok.hp, hl, hr⟩, Bool.true_and, if_pos rfl] at h)
  have hl1 := hf.linv hp2.1 hmin.isp hmin.ne
  have CV2 := hid fun (W : World) (v : Value) (hW : Ext w W) (hv : Ints .u64 W v f) => pDiv_yes (P : Int) fv v F f W ok.hp ((o.ext hW).f) hv oo.pF hmin.isp (by have := oo.lF; omega) hmin.ne (hf.unit_lead hmin.isp hmin.ne)
  have HZ := hid fun (h : ∃ q : Ser (P : Int), q.poly ∧ pol (P : Int) F = q * pol (P : Int) f) => (show cntV P n (diesB (P : Int) n xs F) = P ^ n by
    exact (cntV_congr fun x _ _ => (decide_eq_true (dies_all hmin h x) : diesB (P : Int) n xs F x = true)).trans (cntV_all P n))
  have HPT := hid fun (h : ¬ ∃ q : Ser (P : Int), q.poly ∧ pol (P : Int) F = q * pol (P : Int) f) => (show cntV P n (diesB (P : Int) n xs F) ≤ P ^ n / P from dies_part ok hf hmin h)
  have HDv := hid fun (qs rs : List Int) (_ : Pol (P : Int) qs) (pr : Pol (P : Int) rs) (er : pol (P : Int) F = pol (P : Int) qs * pol (P : Int) f + pol (P : Int) rs) (lr : rs.length < f.length) => (show (rs.length = 0 → ∃ q : Ser (P : Int), q.poly ∧ pol (P : Int) F = q * pol (P : Int) f) ∧ (¬ rs.length = 0 → ¬ ∃ q : Ser (P : Int), q.poly ∧ pol (P : Int) F = q * pol (P : Int) f) from by
    refine ⟨fun h => ⟨pol (P : Int) qs, pol_poly _, ?_⟩, fun h ⟨q, hq, e⟩ => h ?_⟩
    · rw [er, List.eq_nil_of_length_eq_zero h, pol_nil, Ser.add_zero]
    · rw [rest_none hmin.isp hmin.ne hl1 pr lr hq e er]; rfl)
  have hp1 : 2 ≤ P := by omega
  clear hI hf hmin hfl oo ou ok hsh hl1
  unfold RetDiv at CV2
  unfold matV at CM CF CD
  unfold matV
  obtain ⟨a, cap, rfl, -, -, -⟩ := hm
  obtain ⟨a1, c1, rfl, -, -, -⟩ := o.f
  obtain ⟨a2, c2, rfl, -, -, -⟩ := o.h
  obtain ⟨a3, c3, rfl, -, -, -⟩ := o.s
  obtain ⟨a4, c4, rfl, -, -, -⟩ := o.t
  obtain ⟨a5, c5, rfl, -, -, -⟩ := o.u
  obtain ⟨a6, c6, rfl, -, -, -⟩ := o.v
  clear o
  have HM := hid (show Blk ((w.alloc (.cells #[.int .i64 (n : Int), .int .i64 (n : Int), .slice a xs.length cap] 25)).alloc (.cells #[.slice a1 F.length c1, .slice a2 H.length c2, .slice a3 S.length c3, .slice a4 T.length c4, .slice a5 U.length c5, .slice a6 V.length c6] 30)) w.heap.size 25 #[.int .i64 (n : Int), .int .i64 (n : Int), .slice a xs.length cap] from (Blk.new _ _ _).ext ((Ext.refl _).alloc _))
  have HO := hid (show Blk ((w.alloc (.cells #[.int .i64 (n : Int), .int .i64 (n : Int), .slice a xs.length cap] 25)).alloc (.cells #[.slice a1 F.length c1, .slice a2 H.length c2, .slice a3 S.length c3, .slice a4 T.length c4, .slice a5 U.length c5, .slice a6 V.length c6] 30)) (w.heap.size + 1) 30 #[.slice a1 F.length c1, .slice a2 H.length c2, .slice a3 S.length c3, .slice a4 T.length c4, .slice a5 U.length c5, .slice a6 V.length c6] from Blk.at_ (by rw [alloc_size]))
  have hW0 := hid (show Ext w ((w.alloc (.cells #[.int .i64 (n : Int), .int .i64 (n : Int), .slice a xs.length cap] 25)).alloc (.cells #[.slice a1 F.length c1, .slice a2 H.length c2, .slice a3 S.length c3, .slice a4 T.length c4, .slice a5 U.length c5, .slice a6 V.length c6] 30)) from ((Ext.refl w).alloc _).alloc _)
  have nn : ((n : Int) != (n : Int)) = false := by simp
  go_enter Tryz.func5, Tryz.ntmps5
  go_wp2_with fail
  refine (awake15 _).mono ?_
  rintro _ w1 ⟨rfl, xw1⟩
  obtain ⟨hm_0, hm_1, hm_2⟩ := (HM.out.ext xw1).at3
  obtain ⟨ho_0, ho_1, ho_2, ho_3, ho_4, ho_5⟩ := (HO.out.ext xw1).at6
  go_wp2_with fail
  refine (CI.out _).mono ?_
  rintro _ _ ⟨rfl, rfl⟩
  go_wp2_with fail
  refine (CB.out _ (hW0.out.trans xw1)).mono ?_
  rintro _ w2 ⟨rfl, xw2⟩
  clear hm_0 hm_1 hm_2 ho_0 ho_1 ho_2 ho_3 ho_4 ho_5
  obtain ⟨hm_0, hm_1, hm_2⟩ := (HM.out.ext (xw1.trans xw2)).at3
  obtain ⟨ho_0, ho_1, ho_2, ho_3, ho_4, ho_5⟩ := (HO.out.ext (xw1.trans xw2)).at6
  go_wp2_with fail
  refine (CM.out _ (hW0.out.trans (xw1.trans xw2))).mono ?_
  rintro _ w3 ⟨rfl, xw3⟩
  clear hm_0 hm_1 hm_2 ho_0 ho_1 ho_2 ho_3 ho_4 ho_5
  obtain ⟨hm_0, hm_1, hm_2⟩ := (HM.out.ext (xw1.trans (xw2.trans xw3))).at3
  obtain ⟨ho_0, ho_1, ho_2, ho_3, ho_4, ho_5⟩ := (HO.out.ext (xw1.trans (xw2.trans xw3))).at6
  go_wp2_with fail
  refine (CO.out _ (hW0.out.trans (xw1.trans (xw2.trans xw3)))).mono ?_
  rintro _ w4 ⟨rfl, xw4⟩
  clear hm_0 hm_1 hm_2 ho_0 ho_1 ho_2 ho_3 ho_4 ho_5
  have Y := hid (hW0.out.trans (xw1.trans (xw2.trans (xw3.trans xw4))))
  have HM := hid (HM.out.ext (xw1.trans (xw2.trans (xw3.trans xw4))))
  have HO := hid (HO.out.ext (xw1.trans (xw2.trans (xw3.trans xw4))))
  clear CI CB CM CO hW0 xw1 xw2 xw3 xw4
  obtain ⟨p0, p1, p2⟩ := HM.out.at3
  go_wp2_with fail
  go_loop [7, 8] (fun al i => ∃ (j Q : Nat), i = .int .i64 j ∧ al = .int .u64 Q ∧ j ≤ n ∧ Q ≤ 1000 ∧ 1 ≤ Q ∧ Hid (Q = P ^ j)) (fun _ i => n - (intOf i).toNat)
  case atStart => exact ⟨0, 1, rfl, rfl, Nat.zero_le _, by omega, by omega, hid rfl⟩
  case round =>
    obtain ⟨j, Q, rfl, rfl, hj, hQ, hQ1, hq⟩ := hrel
    by_cases hlt : j < n
    · obtain ⟨R, eR⟩ : ∃ R, Q * P = R := ⟨_, rfl⟩
      have eR' : (Q : Int) * (P : Int) = (R : Int) := by rw [← eR, Int.natCast_mul]
      have hR : R ≤ 7000 := by rw [← eR]; exact Nat.mul_le_mul hQ hP
      have hR1 : 1 ≤ R := by rw [← eR]; exact Nat.mul_pos hQ1 (by omega)
      have HNX := hid (show R = P ^ (j + 1) by rw [← eR, hq.out, Nat.pow_succ])
      clear eR
      by_cases g : 1000 < R
      · go_wp2_with fail
        go_ret
        exact ⟨rfl, Y.out⟩
      · go_wp2_with fail
        go_round
        case rel => exact ⟨j + 1, R, by go_num, by go_num, by omega, by omega, hR1, HNX⟩
        case measure => simp [intOf]; omega
    · obtain rfl : n = j := by omega
      go_wp2_with fail
      clear p0 p1 p2
      go_loopw [9, 10, 11, 12] (fun c i _ _ wr => ∃ (N C : Nat), c = .int .u64 C ∧ i = .int .u64 N ∧ N ≤ Q ∧ C ≤ N ∧ Hid (C = cntTo P n (diesB (P : Int) n xs F) N) ∧ Ext w4 wr) (fun _ i _ _ _ => Q - (intOf i).toNat)
      case atStart => exact ⟨0, 0, rfl, rfl, Nat.zero_le _, Nat.le_refl _, hid rfl, Ext.refl _⟩
      case round =>
        obtain ⟨N, C, rfl, rfl, hN, hC, hcn, hxw⟩ := hrel
        rename World => wr
        have yr := Y.out.trans hxw
        by_cases hlt2 : N < Q
        · have CV := hid fun (W : World) => r12Vector P N n W ⟨by omega, by omega⟩ (by omega) hn.2
          obtain ⟨B, eB⟩ : ∃ B, diesB (P : Int) n xs F (digV P N n) = B := ⟨_, rfl⟩
          have CL2 := hid fun (W : World) (hW : Ext w W) (v : Value) (hv : Ints .u64 W v (digV P N n)) => CD.out W hW v _ hv (digV_dig (by omega) n N) (digV_len P n N)
          rw [eB] at CL2
          have HE := hid eB
          have fs := hid fun (W : World) (hW : Ext wr W) => And.intro ((HM.out.ext (hxw.trans hW)).at3) ((HO.out.ext (hxw.trans hW)).at6)
          clear eB
          go_wp2_with fail
          go_region_held3 (fun w' => (w'.cell? ⟨w.heap.size, 0, none⟩ = some (.int .i64 (n : Int)) ∧ w'.cell? ⟨w.heap.size, 1, none⟩ = some (.int .i64 (n : Int)) ∧ w'.cell? ⟨w.heap.size, 2, none⟩ = some (.slice a xs.length cap)) ∧ (w'.cell? ⟨w.heap.size + 1, 0, none⟩ = some (.slice a1 F.length c1) ∧ w'.cell? ⟨w.heap.size + 1, 1, none⟩ = some (.slice a2 H.length c2) ∧ w'.cell? ⟨w.heap.size + 1, 2, none⟩ = some (.slice a3 S.length c3) ∧ w'.cell? ⟨w.heap.size + 1, 3, none⟩ = some (.slice a4 T.length c4) ∧ w'.cell? ⟨w.heap.size + 1, 4, none⟩ = some (.slice a5 U.length c5) ∧ w'.cell? ⟨w.heap.size + 1, 5, none⟩ = some (.slice a6 V.length c6)))
            (first | assumption | exact fs.out _ ((Ext.refl wr).drew) | exact fs.out _ (((Ext.refl wr).drew).trans x5) | exact fs.out _ (((Ext.refl wr).drew).trans (x5.trans x6)))
            ((first
              | (go_at_call 23; refine (CV.out _).mono ?_; rintro _ w5 ⟨v5, rfl, o5, x5⟩
                 have I5 := hid (own_ints o5)
                 have y5 : Ext wr w5 := (Ext.refl wr).drew.trans x5
                 clear o5
                 obtain ⟨a7, c7, rfl, -, -, -⟩ := I5.out)
              | (go_at_call 14; refine (CL2.out _ (yr.trans y5) _ I5.out).mono ?_; rintro _ w6 ⟨rfl, x6⟩)))
          cases B with
          | true =>
            go_wp2_with fail
            go_roundw
            case rel => exact ⟨N + 1, C + 1, by go_num, by go_num, by omega, by omega, hid (by rw [cntTo_yes HE.out, hcn.out]), hxw.trans (y5.trans x6)⟩
            case measure => simp [intOf]; omega
          | false =>
            go_wp2_with fail
            go_roundw
            case rel => exact ⟨N + 1, C, by go_num, by go_num, by omega, by omega, hid (by rw [cntTo_no HE.out, hcn.out]), hxw.trans (y5.trans x6)⟩
            case measure => simp [intOf]; omega
        · obtain rfl : Q = N := by omega
          have hall : C = cntV P n (diesB (P : Int) n xs F) := by rw [hcn.out, hq.out, cntTo_all (by omega)]
          have HZ2 := hid fun h => hall.trans ((HZ.out h).trans hq.out.symm)
          have HPT2 := hid fun h => (show C ≤ Q / P by rw [hall, hq.out]; exact HPT.out h)
          obtain ⟨p0, p1, p2⟩ := (HM.out.ext hxw).at3
          clear hall HZ HPT hq hcn
          go_wp2_with fail
          refine (CF.out _ yr).mono ?_
          rintro _ w5 ⟨v5, rfl, i5, x5⟩
          have I5 := hid i5
          obtain ⟨a7, c7, rfl, -, -, -⟩ := i5
          clear p0 p1 p2
          obtain ⟨q0, q1, q2, q3, q4, q5⟩ := (HO.out.ext (hxw.trans x5)).at6
          have y5 := yr.trans x5
          go_wp2_with fail
          refine (CV2.out _ _ y5 I5.out).mono ?_
          rintro _ w6 ⟨v6, v7, qs, rs, rfl, i6, i7, pq, pr, er, lr, -, x6, -, -⟩
          have HD := hid (HDv.out qs rs pq pr er lr)
          obtain ⟨a8, c8, rfl, -, -, -⟩ := i6
          obtain ⟨a9, c9, rfl, -, -, -⟩ := i7
          clear pq pr er lr q0 q1 q2 q3 q4 q5
          obtain ⟨LR, eLR⟩ : ∃ k, rs.length = k := ⟨_, rfl⟩
          replace HD := hid (by have := HD.out; rwa [eLR] at this)
          rw [eLR]
          clear eLR
          have y6 := y5.trans x6
          by_cases g : LR = 0
          · obtain rfl : C = Q := HZ2.out (HD.out.1 g)
            have bR : ((LR : Int) == 0) = true := by simp [g]
            clear g
            go_wp2_with fail
            go_ret
            exact ⟨ret_bool (by simp), y6⟩
          · have bR : ((LR : Int) == 0) = false := by simp [g]
            have hd := HPT2.out (HD.out.2 g)
            clear g
            obtain ⟨D, eD⟩ : ∃ D, Q / P = D := ⟨_, rfl⟩
            rw [eD] at hd
            have eDi : (Q : Int).tdiv (P : Int) = (D : Int) := by rw [Int.tdiv_eq_ediv_of_nonneg (by omega), ← eD]; rfl
            have hDQ : D ≤ Q := by rw [← eD]; exact Nat.div_le_self _ _
            clear eD
            go_wp2_with fail
            go_ret
            exact ⟨ret_bool (by simp), y6⟩

theorem walk (p : Int) (r c : Int) (mv : Value) (xs : List Int) (fv hv sv tv uv vv : Value) (F H S T U V : List Int) (w : World) (hp : (Lit.int .u64 p).wf = true)
    (_ : (Lit.int .i64 r).wf = true) (_ : (Lit.int .i64 c).wf = true) (hm : Ints .u64 w mv xs) (ux : ∀ x ∈ xs, (Lit.int .u64 x).wf = true) (o : OwnR w fv hv sv tv uv vv F H S T U V) (ou : OwnU F H S T U V) :
    Calls Tryz.prog 5 #[.int .u64 p, .agg #[.int .i64 r, .int .i64 c, mv], .agg #[fv, hv, sv, tv, uv, vv]] w (Ret (.bool true) w) := by
  have hp' := u64_wf hp
  have ux' : U64s xs := fun x h => by have := u64_wf (ux x h); omega
  cases h : (decide (p ≤ 7) && (isB p && (decide (xs.length ≤ 16) && (shortO F H S T U V && (matB p r c xs && (decide (r = c) && ownB p r F H S T U V)))))) with
  | false => exact walk_skip p r c mv xs F H S T U V fv hv sv tv uv vv w (by omega) (by omega) hm ux' o ou h
  | true =>
    simp only [Bool.and_eq_true, decide_eq_true_eq] at h
    obtain ⟨h1, h2, h3, h4, h5, h6, h7⟩ := h
    obtain ⟨m, n, rfl, rfl, ok⟩ := MatOk.of ux' h5
    have e : m = n := by omega
    subst e
    obtain ⟨P, rfl⟩ := Int.eq_ofNat_of_zero_le (show 0 ≤ p by omega)
    obtain ⟨k, hk, oo⟩ := (ownB_iff ou).1 h7
    have e : m = k := by omega
    subst e
    exact walk_yes P m mv xs F H S T U V fv hv sv tv uv vv w ok (by omega) h2 h3 h4 hm o oo
theorem own : ownKnob Tryz.prog.godebug = none := by kernel_rfl
set_option maxRecDepth 100000 in
theorem lifted (os : Os) (started : os.Started) (H : Type) (enc : TypeId × Value → H) :
    ReturnsInHanded {} Tryz.checked os 5 .any (Rows.ownPartsSpec.pre6 enc Tryz.prog Tryz.f5 Rows.ownPartsRow.domain false) (Rows.ownPartsSpec.post enc Tryz.prog Tryz.f5 false true false false) := by
  refine returnsInHanded_of_change (C := Tryz.checked) own started (by kernel_rfl) Tryz.func5
    (ChangeSpec.witness6 (enc := enc) (C := Tryz.checked) false ⟨#[], #[.int .u64 0, .agg #[.int .i64 0, .int .i64 0, .slice none 0 0], .agg #[.slice none 0 0, .slice none 0 0, .slice none 0 0, .slice none 0 0, .slice none 0 0, .slice none 0 0]], []⟩ 8 (by kernel_rfl) (by kernel_rfl) (by kernel_rfl) (by kernel_rfl)) ?_
  intro W base args ds gs before hval0 hW _ _
  have hval : ∀ (j : Nat) t v, Tryz.f5.params[j]? = some t → args[j]? = some v → Value.okWide Tryz.prog W .any base t v := hval0
  have hW' := hW
  obtain ⟨p, q, hA0, hV, rfl, _, _⟩ := hW
  have hA : DataW.TrodAll enc Tryz.prog W 0 (fun _ => true) true Tryz.f5.params.toList args.toList ds p := hA0
  rw [Tryz.params5] at hA hval
  obtain ⟨v0, vs0, d0, ds0, p0, q0, hargs, rfl, rfl, h0, r0⟩ := trodAll_cons hA
  obtain ⟨v1, vs1, d1, ds1, p1, q1, rfl, rfl, rfl, h1, r1⟩ := trodAll_cons r0
  obtain ⟨v2, vs2, d2, ds2, p2, q2, rfl, rfl, rfl, h2, r2⟩ := trodAll_cons r1
  obtain ⟨rfl, rfl, rfl⟩ := trodAll_nil r2
  obtain rfl : args = #[v0, v1, v2] := by cases args; simp_all
  obtain ⟨rfl, rfl⟩ := trodVars_none hV
  obtain ⟨a0, rfl, rfl, rfl, w0⟩ := open_int Tryz.underlying22 (hval 0 22 v0 rfl rfl) h0
  obtain ⟨mr1, mc1, mu1, xs1, rfl, wr1, wc1, i1, w1⟩ := open_Mat (hval 1 25 v1 rfl rfl) h1
  obtain ⟨of2, oh2, os2, ot2, ou2, ov2, F2, H2, S2, T2, U2, V2, rfl, or2, oz2⟩ := open_Own (hval 2 30 v2 rfl rfl) h2
  refine (walk a0 mr1 mc1 mu1 xs1 of2 oh2 os2 ot2 ou2 ov2 F2 H2 S2 T2 U2 V2 W w0 wr1 wc1 i1 w1 or2 oz2).mono fun e W' ⟨he, hg⟩ => ⟨_, he, ?_⟩
  exact law_post (by kernel_rfl) (by kernel_rfl) rfl Tryz.underlying4 rfl rfl hW' hg

/-- the statement -/
theorem proved : Rows.OwnPartsSaid :=
  OpenClaim.holds_of_wide 5 Tryz.f5 rfl rfl rfl rfl rfl rfl rfl ⟨rfl, rfl, rfl, rfl, rfl⟩ rfl rfl rfl rfl rfl (by kernel_rfl) Tryz.func5 (by kernel_rfl)
    (of_decide_eq_true (by kernel_rfl)) (by unfold Func.isWrapper; first | (rw [if_pos (by decide +kernel)]; kernel_rfl) | (rw [if_neg (by decide +kernel)]; exact ⟨rfl, rfl⟩))
    (fun os started H enc _ => lifted os started H enc)
end Go.Proofs.YtijpeepdedfhoaaGreat.ownParts
