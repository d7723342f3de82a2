/- OwnSame: whatever the arguments, the law answers true, and nothing that was there has turned. No condition. -/
import Derived.Test.YtijpeepdedfhoaaGreatAwake15
import Derived.Test.YtijpeepdedfhoaaGreatBun22
import Derived.Test.YtijpeepdedfhoaaGreatBun30
import Derived.Test.YtijpeepdedfhoaaGreatFldP
import Derived.Test.YtijpeepdedfhoaaGreatBun08
import Derived.Test.YtijpeepdedfhoaaGreatOpenOw
import Derived.Test.YtijpeepdedfhoaaGreatBun20
import Derived.Test.YtijpeepdedfhoaaGreatBun21
namespace Go.Proofs.YtijpeepdedfhoaaGreat.ownSame
open Go.ChangeShapes Go.WideShapes Go.ChangeAt Go.RowKit Go.Maps

/-- can a claim be made? -/
noncomputable def mkB (p : Int) (n : Nat) (xs f u v : List Int) : Bool := (vecB p n u && vecB p n v) && @decide (IsGcd p f (folL p n xs f u v) [1]) (Classical.propDecidable _)
theorem mk_no {p : Int} {n : Nat} {xs f u v : List Int} (ok : MatOk p n n xs) (hf : Fld p) (hmin : MinL p n xs f) (ux : U64s u) (vx : U64s v) (h : mkB p n xs f u v = false) :
    ∃ ca : Int, ca ≠ 0 ∧ ∀ (W : World) (mv vu vv : Value), Ints .u64 W mv xs → Ints .u64 W vu u → Ints .u64 W vv v → Calls Tryz.prog 10 #[.int .u64 p, matV n n mv, vu, vv] W (Ret (noOwn ca) W) := by
  unfold mkB at h
  cases hV : vecB p n u && vecB p n v with
  | false => exact ⟨1, by decide, fun W mv vu vv h1 h2 h3 => owMake_arg p n xs u v mv vu vv W ok h1 h2 ux h3 vx hV⟩
  | true =>
    rw [hV, Bool.true_and] at h
    rw [Bool.and_eq_true] at hV
    obtain ⟨-, g1, g2⟩ := (vecB_iff ux).1 hV.1
    obtain ⟨-, g3, g4⟩ := (vecB_iff vx).1 hV.2
    refine ⟨6, by decide, fun W mv vu vv h1 h2 h3 => (owMake p n xs u v f mv vu vv W ok hf h1 h2 g1 g2 h3 g3 g4 hmin).mono ?_⟩
    rintro e w' (⟨hg, -⟩ | ⟨-, h⟩)
    · exact absurd hg (@of_decide_eq_false _ (Classical.propDecidable _) h)
    · exact h
theorem mk_yes {p : Int} {n : Nat} {xs f u v : List Int} (ok : MatOk p n n xs) (hf : Fld p) (hmin : MinL p n xs f) (ux : U64s u) (vx : U64s v) (h : mkB p n xs f u v = true) :
    (u.length = n ∧ Rng p u ∧ v.length = n ∧ Rng p v) ∧ ∀ (W : World) (mv vu vv : Value), Ints .u64 W mv xs → Ints .u64 W vu u → Ints .u64 W vv v → Calls Tryz.prog 10 #[.int .u64 p, matV n n mv, vu, vv] W (RetOwn p n f (folL p n xs f u v) u v W) := by
  unfold mkB at h
  rw [Bool.and_eq_true, Bool.and_eq_true] at h
  obtain ⟨⟨h1, h2⟩, h3⟩ := h
  obtain ⟨-, g1, g2⟩ := (vecB_iff ux).1 h1
  obtain ⟨-, g3, g4⟩ := (vecB_iff vx).1 h2
  refine ⟨⟨g1, g2, g3, g4⟩, fun W mv vu vv k1 k2 k3 => (owMake p n xs u v f mv vu vv W ok hf k1 k2 g1 g2 k3 g3 g4 hmin).mono ?_⟩
  rintro e w' (⟨-, h⟩ | ⟨hg, -⟩)
  · exact h
  · exact absurd (@of_decide_eq_true _ (Classical.propDecidable _) h3) hg
theorem mk_turn {p : Int} {n : Nat} {xs f u v : List Int} : mkB p n (turnL n n xs) f v u = mkB p n xs f u v := by
  unfold mkB
  rw [folL_turn, Bool.and_comm (vecB p n v)]
set_option maxRecDepth 100000 in
set_option maxHeartbeats 4000000 in
theorem walk_skip (p r c : Int) (mv vu vv vx vy : Value) (xs : List Int) (z : Int) (w : World) (h0 : 0 ≤ p) (h1 : p ≤ 18446744073709551615) (hm : Ints .u64 w mv xs) (ux : U64s xs) (h : (decide (xs.length ≤ 25) && (takenB p && (matB p r c xs && (decide (r = c) && decide (z < p))))) = false) :
    Calls Tryz.prog 6 #[.int .u64 p, matV r c mv, vu, vv, vx, vy, .int .u64 z] w (Ret (.bool true) w) := by
  have CI := hid fun (W : World) => prime_any p W h0
  have CM := hid fun (W : World) (hW : Ext w W) => mxRight p r c mv xs W h0 h1 (hm.ext hW) ux
  obtain ⟨I, eI⟩ : ∃ B, takenB p = B := ⟨_, rfl⟩
  rw [eI] at CI h
  obtain ⟨M, eM⟩ : ∃ B, matB p r c xs = B := ⟨_, rfl⟩
  rw [eM] at CM h
  clear eI eM ux
  unfold matV at CM
  obtain ⟨a, cap, rfl, -, -, -⟩ := hm
  have HM := hid (Blk.new w 25 #[.int .i64 r, .int .i64 c, .slice a xs.length cap])
  have hW0 := hid ((Ext.refl w).alloc (.cells #[.int .i64 r, .int .i64 c, .slice a xs.length cap] 25))
  unfold matV
  obtain ⟨LM, eLM⟩ : ∃ k, xs.length = k := ⟨_, rfl⟩
  rw [eLM] at h HM hW0 CM
  rw [eLM]
  clear eLM
  have Hh := hid h
  clear h
  go_enter Tryz.func6, Tryz.ntmps6
  go_wp2_with fail
  refine (awake15 _).mono ?_
  rintro _ w1 ⟨rfl, xw1⟩
  by_cases g1 : LM ≤ 25
  case neg =>
    obtain ⟨hm_0, hm_1, hm_2⟩ := (HM.out.ext xw1).at3
    go_wp2_with fail
    go_ret
    exact ⟨rfl, (hW0.out.trans xw1)⟩
  obtain ⟨hm_0, hm_1, hm_2⟩ := (HM.out.ext xw1).at3
  go_wp2_with fail
  refine (CI.out _).mono ?_
  rintro _ _ ⟨rfl, rfl⟩
  clear hm_0 hm_1 hm_2
  cases I
  · obtain ⟨hm_0, hm_1, hm_2⟩ := (HM.out.ext xw1).at3
    go_wp2_with fail
    go_ret
    exact ⟨rfl, (hW0.out.trans xw1)⟩
  obtain ⟨hm_0, hm_1, hm_2⟩ := (HM.out.ext xw1).at3
  go_wp2_with fail
  refine (CM.out _ (hW0.out.trans xw1)).mono ?_
  rintro _ w2 ⟨rfl, xw2⟩
  clear hm_0 hm_1 hm_2
  cases M
  · obtain ⟨hm_0, hm_1, hm_2⟩ := (HM.out.ext (xw1.trans xw2)).at3
    go_wp2_with fail
    go_ret
    exact ⟨rfl, (hW0.out.trans (xw1.trans xw2))⟩
  by_cases g4 : r = c
  case neg =>
    have bg4 : (r != c) = true := by rw [bne_iff_ne]; exact g4
    obtain ⟨hm_0, hm_1, hm_2⟩ := (HM.out.ext (xw1.trans xw2)).at3
    go_wp2_with fail
    go_ret
    exact ⟨rfl, (hW0.out.trans (xw1.trans xw2))⟩
  have bg4 : (r != c) = false := by simp [g4]
  have Hg4 := hid g4
  clear g4
  by_cases g5 : z < p
  case neg =>
    obtain ⟨hm_0, hm_1, hm_2⟩ := (HM.out.ext (xw1.trans xw2)).at3
    go_wp2_with fail
    go_ret
    exact ⟨rfl, (hW0.out.trans (xw1.trans xw2))⟩
  exact absurd Hh.out (by simp [g1, Hg4.out, g5])
set_option maxRecDepth 100000 in
set_option maxHeartbeats 8000000 in
theorem walk_n (p : Int) (n : Nat) (mv vu vv vx vy : Value) (xs u v x y : List Int) (z : Int) (w : World) (ok : MatOk p n n xs) (hT : takenB p = true) (hlen : xs.length ≤ 25) (hz1 : z < p) (hm : Ints .u64 w mv xs) (hu : Ints .u64 w vu u) (uu : U64s u) (hv : Ints .u64 w vv v) (uv : U64s v) (hx : Ints .u64 w vx x) (ux : U64s x) (hy : Ints .u64 w vy y) (uy : U64s y) (hB : ∀ f, MinL p n xs f → mkB p n xs f u v = false) :
    Calls Tryz.prog 6 #[.int .u64 p, matV n n mv, vu, vv, vx, vy, .int .u64 z] w (Ret (.bool true) w) := by
  have hp2 := rightB_true ok.hp
  have hf : Fld p := taken_fld hT
  have hn := ok.hn
  obtain ⟨F, hmin⟩ := MinL.any (hf.has hp2.1) n xs
  have CI := hid fun (W : World) => (hT ▸ prime_any p W (by omega) : Calls Tryz.prog 8 #[.int .u64 p] W fun e w' => e = .returned (.bool true) ∧ W = w')
  have CM := hid fun (W : World) (hW : Ext w W) => (ok.b ▸ mxRight p n n mv xs W (by omega) (by omega) (hm.ext hW) ok.u64 : Calls Tryz.prog 9 #[.int .u64 p, matV n n mv] W (Ret (.bool true) W))
  have CT := hid fun (W : World) (hW : Ext w W) => mxTurn_yes p n n mv xs W ok (hm.ext hW)
  have ok' : MatOk p n n (turnL n n xs) := ok.turn
  have hmin' : MinL p n (turnL n n xs) F := hmin.turn
  have hlt : (turnL n n xs).length = xs.length := by rw [ok'.hl, ok.hl]
  have CB := hid (show ∀ (W : World), Ext w W → Calls Tryz.prog 10 #[.int .u64 p, matV n n mv, vx, vy] W (fun e w' => (∃ fv hv sv tv uv vv H S T, e = .returned (.tuple #[.agg #[fv, hv, sv, tv, uv, vv], .int .i64 0]) ∧ OwnR w' fv hv sv tv uv vv F H S T x y ∧ Ext W w') ∨ (∃ cb : Int, cb ≠ 0 ∧ e = .returned (noOwn cb) ∧ Ext W w')) from fun W hW => by
    cases hb : mkB p n xs F x y with
    | false =>
      obtain ⟨cb, h0, h⟩ := mk_no ok hf hmin ux uy hb
      exact (h W mv vx vy (hm.ext hW) (hx.ext hW) (hy.ext hW)).mono fun e w' ⟨h1, h2⟩ => .inr ⟨cb, h0, h1, h2⟩
    | true =>
      obtain ⟨-, h⟩ := mk_yes ok hf hmin ux uy hb
      exact (h W mv vx vy (hm.ext hW) (hx.ext hW) (hy.ext hW)).mono fun e w' ⟨f1, f2, f3, f4, f5, f6, S, T, h1, h2, _, _, h3⟩ => .inl ⟨f1, f2, f3, f4, f5, f6, _, S, T, h1, h2, h3⟩)
  obtain ⟨ca, ca0, CA'⟩ := mk_no ok hf hmin uu uv (hB F hmin)
  obtain ⟨cc, cc0, CC'⟩ := mk_no ok' hf hmin' uv uu (by rw [mk_turn]; exact hB F hmin)
  have CA := hid fun (W : World) (hW : Ext w W) => CA' W mv vu vv (hm.ext hW) (hu.ext hW) (hv.ext hW)
  have CC := hid fun (W : World) (tv : Value) (hW : Ext w W) (ht : Ints .u64 W tv (turnL n n xs)) => CC' W tv vv vu ht (hv.ext hW) (hu.ext hW)
  have ca1 : (ca == 0) = false := by simpa using ca0
  have ca2 : (ca != 0) = true := by simpa using ca0
  have cc1 : (cc == 0) = false := by simpa using cc0
  clear CA' CC' ca0 cc0 hB hmin hmin' ok' ok hf hT uu uv ux uy hlt
  unfold noOwn at CA CB CC
  unfold RetN at CT
  unfold matV at CM CA CB CC CT
  unfold matV
  obtain ⟨a, cap, rfl, -, -, -⟩ := hm
  obtain ⟨b1, d1, rfl, -, -, -⟩ := hu
  obtain ⟨b2, d2, rfl, -, -, -⟩ := hv
  obtain ⟨b3, d3, rfl, -, -, -⟩ := hx
  obtain ⟨b4, d4, rfl, -, -, -⟩ := hy
  have HM := hid (Blk.new w 25 #[.int .i64 (n : Int), .int .i64 (n : Int), .slice a xs.length cap])
  have hW0 := hid ((Ext.refl w).alloc (.cells #[.int .i64 (n : Int), .int .i64 (n : Int), .slice a xs.length cap] 25))
  have nn : ((n : Int) != (n : Int)) = false := by simp
  go_enter Tryz.func6, Tryz.ntmps6
  go_wp2_with fail
  refine (awake15 _).mono ?_
  rintro _ w1 ⟨rfl, xw1⟩
  obtain ⟨hm_0, hm_1, hm_2⟩ := (HM.out.ext xw1).at3
  go_wp2_with fail
  refine (CI.out _).mono ?_
  rintro _ _ ⟨rfl, rfl⟩
  go_wp2_with fail
  refine (CM.out _ (hW0.out.trans xw1)).mono ?_
  rintro _ w2 ⟨rfl, xw2⟩
  clear hm_0 hm_1 hm_2
  obtain ⟨hm_0, hm_1, hm_2⟩ := (HM.out.ext (xw1.trans xw2)).at3
  go_wp2_with fail
  refine (CA.out _ (hW0.out.trans (xw1.trans xw2))).mono ?_
  rintro _ w3 ⟨rfl, xw3⟩
  clear hm_0 hm_1 hm_2
  have z5 := (Ext.refl w3).alloc (.cells #[.slice none 0 0, .slice none 0 0, .slice none 0 0, .slice none 0 0, .slice none 0 0, .slice none 0 0] 30)
  obtain ⟨hm_0, hm_1, hm_2⟩ := (HM.out.ext (xw1.trans (xw2.trans (xw3.trans z5)))).at3
  go_wp2_with fail
  refine (CB.out _ (hW0.out.trans (xw1.trans (xw2.trans (xw3.trans z5))))).mono ?_
  clear hm_0 hm_1 hm_2
  rintro e4 w4 (⟨f1, f2, f3, f4, f5, f6, H, S, T, rfl, o4, xw4⟩ | ⟨cb, cb0, rfl, xw4⟩)
  · obtain ⟨⟨p1, q1, rfl⟩, ⟨p2, q2, rfl⟩, ⟨p3, q3, rfl⟩, ⟨p4, q4, rfl⟩, ⟨p5, q5, rfl⟩, ⟨p6, q6, rfl⟩⟩ := o4.slices
    clear o4
    have z7 := (Ext.refl w4).alloc (.cells #[.slice p1 F.length q1, .slice p2 H.length q2, .slice p3 S.length q3, .slice p4 T.length q4, .slice p5 x.length q5, .slice p6 y.length q6] 30)
    obtain ⟨hm_0, hm_1, hm_2⟩ := (HM.out.ext (xw1.trans (xw2.trans (xw3.trans (z5.trans (xw4.trans z7)))))).at3
    go_wp2_with fail
    refine (CT.out _ (hW0.out.trans (xw1.trans (xw2.trans (xw3.trans (z5.trans (xw4.trans z7))))))).mono ?_
    rintro _ w6 ⟨tv, rfl, i6, xw6⟩
    clear hm_0 hm_1 hm_2
    have I6 := hid i6
    obtain ⟨ta, tk, rfl, -, -, -⟩ := i6
    have z9 := (Ext.refl w6).alloc (.cells #[.int .i64 (n : Int), .int .i64 (n : Int), .slice ta (turnL n n xs).length tk] 25)
    have HT := hid (Blk.new w6 25 #[.int .i64 (n : Int), .int .i64 (n : Int), .slice ta (turnL n n xs).length tk])
    obtain ⟨ht_0, ht_1, ht_2⟩ := HT.out.at3
    go_wp2_with fail
    refine (CC.out _ _ (hW0.out.trans (xw1.trans (xw2.trans (xw3.trans (z5.trans (xw4.trans (z7.trans (xw6.trans z9)))))))) (I6.out.ext z9)).mono ?_
    rintro _ w7 ⟨rfl, xw7⟩
    clear ht_0 ht_1 ht_2
    have z11 := (Ext.refl w7).alloc (.cells #[.slice none 0 0, .slice none 0 0, .slice none 0 0, .slice none 0 0, .slice none 0 0, .slice none 0 0] 30)
    obtain ⟨hm_0, hm_1, hm_2⟩ := (HM.out.ext (xw1.trans (xw2.trans (xw3.trans (z5.trans (xw4.trans (z7.trans (xw6.trans (z9.trans (xw7.trans z11)))))))))).at3
    go_wp2_with fail
    go_ret
    exact ⟨rfl, (hW0.out.trans (xw1.trans (xw2.trans (xw3.trans (z5.trans (xw4.trans (z7.trans (xw6.trans (z9.trans (xw7.trans z11))))))))))⟩
  · have cb1 : (cb == 0) = false := by simpa using cb0
    clear cb0
    have z7 := (Ext.refl w4).alloc (.cells #[.slice none 0 0, .slice none 0 0, .slice none 0 0, .slice none 0 0, .slice none 0 0, .slice none 0 0] 30)
    obtain ⟨hm_0, hm_1, hm_2⟩ := (HM.out.ext (xw1.trans (xw2.trans (xw3.trans (z5.trans (xw4.trans z7)))))).at3
    go_wp2_with fail
    refine (CT.out _ (hW0.out.trans (xw1.trans (xw2.trans (xw3.trans (z5.trans (xw4.trans z7))))))).mono ?_
    rintro _ w6 ⟨tv, rfl, i6, xw6⟩
    clear hm_0 hm_1 hm_2
    have I6 := hid i6
    obtain ⟨ta, tk, rfl, -, -, -⟩ := i6
    have z9 := (Ext.refl w6).alloc (.cells #[.int .i64 (n : Int), .int .i64 (n : Int), .slice ta (turnL n n xs).length tk] 25)
    have HT := hid (Blk.new w6 25 #[.int .i64 (n : Int), .int .i64 (n : Int), .slice ta (turnL n n xs).length tk])
    obtain ⟨ht_0, ht_1, ht_2⟩ := HT.out.at3
    go_wp2_with fail
    refine (CC.out _ _ (hW0.out.trans (xw1.trans (xw2.trans (xw3.trans (z5.trans (xw4.trans (z7.trans (xw6.trans z9)))))))) (I6.out.ext z9)).mono ?_
    rintro _ w7 ⟨rfl, xw7⟩
    clear ht_0 ht_1 ht_2
    have z11 := (Ext.refl w7).alloc (.cells #[.slice none 0 0, .slice none 0 0, .slice none 0 0, .slice none 0 0, .slice none 0 0, .slice none 0 0] 30)
    obtain ⟨hm_0, hm_1, hm_2⟩ := (HM.out.ext (xw1.trans (xw2.trans (xw3.trans (z5.trans (xw4.trans (z7.trans (xw6.trans (z9.trans (xw7.trans z11)))))))))).at3
    go_wp2_with fail
    go_ret
    exact ⟨rfl, (hW0.out.trans (xw1.trans (xw2.trans (xw3.trans (z5.trans (xw4.trans (z7.trans (xw6.trans (z9.trans (xw7.trans z11))))))))))⟩
set_option maxRecDepth 100000 in
set_option maxHeartbeats 16000000 in
theorem walk_y (p : Int) (n : Nat) (mv vu vv vx vy : Value) (xs u v x y : List Int) (z : Int) (w : World) (ok : MatOk p n n xs) (hT : takenB p = true) (hlen : xs.length ≤ 25) (hz1 : z < p) (hm : Ints .u64 w mv xs) (hu : Ints .u64 w vu u) (uu : U64s u) (hv : Ints .u64 w vv v) (uv : U64s v) (hx : Ints .u64 w vx x) (ux : U64s x) (hy : Ints .u64 w vy y) (uy : U64s y) (hz0 : 0 ≤ z) (hB : ∀ f, MinL p n xs f → mkB p n xs f u v = true) :
    Calls Tryz.prog 6 #[.int .u64 p, matV n n mv, vu, vv, vx, vy, .int .u64 z] w (Ret (.bool true) w) := by
  have hp2 := rightB_true ok.hp
  have hf : Fld p := taken_fld hT
  have hn := ok.hn
  obtain ⟨F, hmin⟩ := MinL.any (hf.has hp2.1) n xs
  have CI := hid fun (W : World) => (hT ▸ prime_any p W (by omega) : Calls Tryz.prog 8 #[.int .u64 p] W fun e w' => e = .returned (.bool true) ∧ W = w')
  have CM := hid fun (W : World) (hW : Ext w W) => (ok.b ▸ mxRight p n n mv xs W (by omega) (by omega) (hm.ext hW) ok.u64 : Calls Tryz.prog 9 #[.int .u64 p, matV n n mv] W (Ret (.bool true) W))
  have CT := hid fun (W : World) (hW : Ext w W) => mxTurn_yes p n n mv xs W ok (hm.ext hW)
  have ok' : MatOk p n n (turnL n n xs) := ok.turn
  have hmin' : MinL p n (turnL n n xs) F := hmin.turn
  have hlt : (turnL n n xs).length = xs.length := by rw [ok'.hl, ok.hl]
  have CB := hid (show ∀ (W : World), Ext w W → Calls Tryz.prog 10 #[.int .u64 p, matV n n mv, vx, vy] W (fun e w' => (∃ fv hv sv tv uv vv H S T, e = .returned (.tuple #[.agg #[fv, hv, sv, tv, uv, vv], .int .i64 0]) ∧ OwnR w' fv hv sv tv uv vv F H S T x y ∧ Ext W w') ∨ (∃ cb : Int, cb ≠ 0 ∧ e = .returned (noOwn cb) ∧ Ext W w')) from fun W hW => by
    cases hb : mkB p n xs F x y with
    | false =>
      obtain ⟨cb, h0, h⟩ := mk_no ok hf hmin ux uy hb
      exact (h W mv vx vy (hm.ext hW) (hx.ext hW) (hy.ext hW)).mono fun e w' ⟨h1, h2⟩ => .inr ⟨cb, h0, h1, h2⟩
    | true =>
      obtain ⟨-, h⟩ := mk_yes ok hf hmin ux uy hb
      exact (h W mv vx vy (hm.ext hW) (hx.ext hW) (hy.ext hW)).mono fun e w' ⟨f1, f2, f3, f4, f5, f6, S, T, h1, h2, _, _, h3⟩ => .inl ⟨f1, f2, f3, f4, f5, f6, _, S, T, h1, h2, h3⟩)
  obtain ⟨⟨hul, hur, hvl, hvr⟩, CA'⟩ := mk_yes ok hf hmin uu uv (hB F hmin)
  obtain ⟨-, CC'⟩ := mk_yes ok' hf hmin' uv uu (by rw [mk_turn]; exact hB F hmin)
  rw [folL_turn] at CC'
  have CA := hid fun (W : World) (hW : Ext w W) => CA' W mv vu vv (hm.ext hW) (hu.ext hW) (hv.ext hW)
  have CC := hid fun (W : World) (tv : Value) (hW : Ext w W) (ht : Ints .u64 W tv (turnL n n xs)) => CC' W tv vv vu ht (hv.ext hW) (hu.ext hW)
  have hFl := hmin.len (hf.has hp2.1)
  have CE := hid fun (W : World) (fv : Value) (hF : Ints .u64 W fv F) => pEval_yes p z fv F W ok.hp hF hmin.isp (by omega) hz0 hz1
  obtain ⟨E, eE'⟩ : ∃ E, hor p z F.reverse = E := ⟨_, rfl⟩
  obtain ⟨cd, l, CAn, HP0⟩ : ∃ (cd : Int) (l : List Int), Hid (∀ (W : World) (tv : Value), Ext w W → Ints .u64 W tv (turnL n n xs) → Calls Tryz.prog 16 #[.int .u64 p, matV n n tv, vu, .int .u64 z] W (RetE cd l W)) ∧
      Hid (E ≠ 0 → cd = 0 ∧ ∀ (W : World) (tv f1 f2 f3 f4 f5 f6 y : Value) (S T : List Int), Ext w W → Ints .u64 W tv (turnL n n xs) → OwnR W f1 f2 f3 f4 f5 f6 F (folL p n xs F u v) S T v u → OwnOk p n F (folL p n xs F u v) S T v u → Ints .u64 W y l →
        Calls Tryz.prog 17 #[.int .u64 p, matV n n tv, .agg #[f1, f2, f3, f4, f5, f6], .int .u64 z, y] W (Ret (.tuple #[.bool true, .int .i64 0]) W)) := by
    by_cases hA : ∃ y, IsX p n n (shL p n z (turnL n n xs)) u y
    · obtain ⟨y, hy⟩ := hA
      refine ⟨0, y, hid fun W tv hW ht => owAnswer_yes p z n (turnL n n xs) u y tv vu W ok' hf ht (hu.ext hW) hul hur hz0 hz1 hy, hid fun _ => ⟨rfl, fun W tv f1 f2 f3 f4 f5 f6 yv S T hW ht o q hyv => ?_⟩⟩
      have h := owPasses p z n F (folL p n xs F u v) S T v u (turnL n n xs) y tv f1 f2 f3 f4 f5 f6 yv W ok' ht o q.u q hz0 hz1 hyv hy.len hy.rng
      have hB' : passB p n (turnL n n xs) F (folL p n xs F u v) v u z y = true := by
        unfold passB
        rw [left_sh hy.len, decide_eq_true hy.sol, Bool.true_and, decide_eq_true_eq, ← folL_turn (p := p) (xs := xs) (F := F) (U := u) (V := v)]
        exact ans_follows hp2.1 hvl hy.len (hmin'.all _) hy.sol
      rwa [hB'] at h
    · refine ⟨6, [], hid fun W tv hW ht => owAnswer_no p z n (turnL n n xs) u tv vu W ok' hf ht (hu.ext hW) hul hur hz0 hz1 hA, hid fun h0 => absurd ?_ hA⟩
      rw [← eE'] at h0
      exact ans_has ok' hf hul hur (hmin'.all _) h0
  rw [eE'] at CE
  obtain ⟨H, eH⟩ : ∃ H, folL p n xs F u v = H := ⟨_, rfl⟩
  rw [eH] at CA CC HP0
  have CH := hid fun (W : World) (f1 f2 f3 f4 f5 f6 : Value) (S T : List Int) (o : OwnR W f1 f2 f3 f4 f5 f6 F H S T v u) (q : OwnOk p n F H S T v u) => (show Calls Tryz.prog 12 #[.int .u64 p, .agg #[f1, f2, f3, f4, f5, f6], .int .i64 n] W (Ret (.bool true) W) from (ownB_iff q.u).2 ⟨n, rfl, q⟩ ▸ owHas p n F H S T v u f1 f2 f3 f4 f5 f6 W (by omega) (by omega) o q.u)
  have CSF := hid fun (W : World) (f1 f2 : Value) (h1 : Ints .u64 W f1 F) (h2 : Ints .u64 W f2 F) => same_yes f1 f2 F W h1 h2
  have CSH := hid fun (W : World) (f1 f2 : Value) (h1 : Ints .u64 W f1 H) (h2 : Ints .u64 W f2 H) => same_yes f1 f2 H W h1 h2
  clear CA' CC' hB hmin hmin' ok' ok hf hT uu uv ux uy hlt hul hur hvl hvr hFl eE' eH
  unfold RetOwn at CA CC
  unfold noOwn at CB
  unfold RetN at CT
  unfold matV at CM CA CB CC CT CAn HP0
  unfold matV
  obtain ⟨a, cap, rfl, -, -, -⟩ := hm
  obtain ⟨b1, d1, rfl, -, -, -⟩ := hu
  obtain ⟨b2, d2, rfl, -, -, -⟩ := hv
  obtain ⟨b3, d3, rfl, -, -, -⟩ := hx
  obtain ⟨b4, d4, rfl, -, -, -⟩ := hy
  have HM := hid (Blk.new w 25 #[.int .i64 (n : Int), .int .i64 (n : Int), .slice a xs.length cap])
  have hW0 := hid ((Ext.refl w).alloc (.cells #[.int .i64 (n : Int), .int .i64 (n : Int), .slice a xs.length cap] 25))
  have nn : ((n : Int) != (n : Int)) = false := by simp
  go_enter Tryz.func6, Tryz.ntmps6
  go_wp2_with fail
  refine (awake15 _).mono ?_
  rintro _ w1 ⟨rfl, xw1⟩
  obtain ⟨hm_0, hm_1, hm_2⟩ := (HM.out.ext xw1).at3
  go_wp2_with fail
  refine (CI.out _).mono ?_
  rintro _ _ ⟨rfl, rfl⟩
  go_wp2_with fail
  refine (CM.out _ (hW0.out.trans xw1)).mono ?_
  rintro _ w2 ⟨rfl, xw2⟩
  clear hm_0 hm_1 hm_2
  obtain ⟨hm_0, hm_1, hm_2⟩ := (HM.out.ext (xw1.trans xw2)).at3
  go_wp2_with fail
  refine (CA.out _ (hW0.out.trans (xw1.trans xw2))).mono ?_
  rintro _ w3 ⟨f1, f2, f3, f4, f5, f6, S, T, rfl, o3, q3, -, xw3⟩
  clear hm_0 hm_1 hm_2
  have OA := hid o3
  clear q3
  obtain ⟨⟨e1, ke1, rfl⟩, ⟨e2, ke2, rfl⟩, ⟨e3, ke3, rfl⟩, ⟨e4, ke4, rfl⟩, ⟨e5, ke5, rfl⟩, ⟨e6, ke6, rfl⟩⟩ := o3.slices
  have HA0 := Blk.new w3 30 #[.slice e1 F.length ke1, .slice e2 H.length ke2, .slice e3 S.length ke3, .slice e4 T.length ke4, .slice e5 u.length ke5, .slice e6 v.length ke6]
  obtain ⟨wa, hwa⟩ : ∃ W, w3.alloc (.cells #[.slice e1 F.length ke1, .slice e2 H.length ke2, .slice e3 S.length ke3, .slice e4 T.length ke4, .slice e5 u.length ke5, .slice e6 v.length ke6] 30) = W := ⟨_, rfl⟩
  rw [hwa] at HA0
  have xwa : Ext w3 wa := hwa ▸ (Ext.refl w3).alloc _
  have HA := hid HA0
  clear HA0
  clear o3
  obtain ⟨hm_0, hm_1, hm_2⟩ := (HM.out.ext (xw1.trans (xw2.trans (xw3.trans xwa)))).at3
  go_wp2_with fail
  refine (CB.out _ (hW0.out.trans (xw1.trans (xw2.trans (xw3.trans xwa))))).mono ?_
  clear hm_0 hm_1 hm_2
  rintro e4 w4 (⟨f1, f2, f3, f4, f5, f6, H2, S2, T2, rfl, o4, xw4⟩ | ⟨cb, cb0, rfl, xw4⟩)
  · have OB := hid o4
    obtain ⟨⟨j1, kj1, rfl⟩, ⟨j2, kj2, rfl⟩, ⟨j3, kj3, rfl⟩, ⟨j4, kj4, rfl⟩, ⟨j5, kj5, rfl⟩, ⟨j6, kj6, rfl⟩⟩ := o4.slices
    have HB0 := Blk.new w4 30 #[.slice j1 F.length kj1, .slice j2 H2.length kj2, .slice j3 S2.length kj3, .slice j4 T2.length kj4, .slice j5 x.length kj5, .slice j6 y.length kj6]
    obtain ⟨wb, hwb⟩ : ∃ W, w4.alloc (.cells #[.slice j1 F.length kj1, .slice j2 H2.length kj2, .slice j3 S2.length kj3, .slice j4 T2.length kj4, .slice j5 x.length kj5, .slice j6 y.length kj6] 30) = W := ⟨_, rfl⟩
    rw [hwb] at HB0
    have xwb : Ext w4 wb := hwb ▸ (Ext.refl w4).alloc _
    have HB := hid HB0
    clear HB0
    clear o4
    obtain ⟨ha_0, ha_1, ha_2, ha_3, ha_4, ha_5⟩ := (HA.out.ext (xw4.trans xwb)).at6
    obtain ⟨hb_0, hb_1, hb_2, hb_3, hb_4, hb_5⟩ := HB.out.at6
    go_wp2_with fail
    refine (CSF.out _ _ _ ((OA.out.ext (xwa.trans (xw4.trans xwb)))).f ((OB.out.ext xwb)).f).mono ?_
    rintro _ w5 ⟨rfl, xw5⟩
    clear ha_0 ha_1 ha_2 ha_3 ha_4 ha_5 hb_0 hb_1 hb_2 hb_3 hb_4 hb_5
    obtain ⟨hm_0, hm_1, hm_2⟩ := (HM.out.ext (xw1.trans (xw2.trans (xw3.trans (xwa.trans (xw4.trans (xwb.trans xw5))))))).at3
    go_wp2_with fail
    refine (CT.out _ (hW0.out.trans (xw1.trans (xw2.trans (xw3.trans (xwa.trans (xw4.trans (xwb.trans xw5)))))))).mono ?_
    rintro _ w6 ⟨tv, rfl, i6, xw6⟩
    clear hm_0 hm_1 hm_2
    have I6 := hid i6
    obtain ⟨ta, tk, rfl, -, -, -⟩ := i6
    have HT0 := Blk.new w6 25 #[.int .i64 (n : Int), .int .i64 (n : Int), .slice ta (turnL n n xs).length tk]
    obtain ⟨wt, hwt⟩ : ∃ W, w6.alloc (.cells #[.int .i64 (n : Int), .int .i64 (n : Int), .slice ta (turnL n n xs).length tk] 25) = W := ⟨_, rfl⟩
    rw [hwt] at HT0
    have xwt : Ext w6 wt := hwt ▸ (Ext.refl w6).alloc _
    have HT := hid HT0
    clear HT0
    obtain ⟨ht_0, ht_1, ht_2⟩ := HT.out.at3
    go_wp2_with fail
    refine (CC.out _ _ (hW0.out.trans (xw1.trans (xw2.trans (xw3.trans (xwa.trans (xw4.trans (xwb.trans (xw5.trans (xw6.trans xwt))))))))) (I6.out.ext xwt)).mono ?_
    rintro _ w7 ⟨f1, f2, f3, f4, f5, f6, S3, T3, rfl, o7, q7, -, xw7⟩
    clear ht_0 ht_1 ht_2
    have OC := hid o7
    have QC := hid q7
    obtain ⟨⟨g1, kg1, rfl⟩, ⟨g2, kg2, rfl⟩, ⟨g3, kg3, rfl⟩, ⟨g4, kg4, rfl⟩, ⟨g5, kg5, rfl⟩, ⟨g6, kg6, rfl⟩⟩ := o7.slices
    have HC0 := Blk.new w7 30 #[.slice g1 F.length kg1, .slice g2 H.length kg2, .slice g3 S3.length kg3, .slice g4 T3.length kg4, .slice g5 v.length kg5, .slice g6 u.length kg6]
    obtain ⟨wc, hwc⟩ : ∃ W, w7.alloc (.cells #[.slice g1 F.length kg1, .slice g2 H.length kg2, .slice g3 S3.length kg3, .slice g4 T3.length kg4, .slice g5 v.length kg5, .slice g6 u.length kg6] 30) = W := ⟨_, rfl⟩
    rw [hwc] at HC0
    have xwc : Ext w7 wc := hwc ▸ (Ext.refl w7).alloc _
    have HC := hid HC0
    clear HC0
    clear o7 q7
    obtain ⟨ha_0, ha_1, ha_2, ha_3, ha_4, ha_5⟩ := (HA.out.ext (xw4.trans (xwb.trans (xw5.trans (xw6.trans (xwt.trans (xw7.trans xwc))))))).at6
    obtain ⟨hc_0, hc_1, hc_2, hc_3, hc_4, hc_5⟩ := HC.out.at6
    go_wp2_with fail
    refine (CSF.out _ _ _ ((OA.out.ext (xwa.trans (xw4.trans (xwb.trans (xw5.trans (xw6.trans (xwt.trans (xw7.trans xwc))))))))).f ((OC.out.ext xwc)).f).mono ?_
    rintro _ w8 ⟨rfl, xw8⟩
    clear ha_0 ha_1 ha_2 ha_3 ha_4 ha_5 hc_0 hc_1 hc_2 hc_3 hc_4 hc_5
    obtain ⟨ha_0, ha_1, ha_2, ha_3, ha_4, ha_5⟩ := (HA.out.ext (xw4.trans (xwb.trans (xw5.trans (xw6.trans (xwt.trans (xw7.trans (xwc.trans xw8)))))))).at6
    obtain ⟨hc_0, hc_1, hc_2, hc_3, hc_4, hc_5⟩ := (HC.out.ext xw8).at6
    go_wp2_with fail
    refine (CSH.out _ _ _ ((OA.out.ext (xwa.trans (xw4.trans (xwb.trans (xw5.trans (xw6.trans (xwt.trans (xw7.trans (xwc.trans xw8)))))))))).h ((OC.out.ext (xwc.trans xw8))).h).mono ?_
    rintro _ w9 ⟨rfl, xw9⟩
    clear ha_0 ha_1 ha_2 ha_3 ha_4 ha_5 hc_0 hc_1 hc_2 hc_3 hc_4 hc_5
    obtain ⟨hm_0, hm_1, hm_2⟩ := (HM.out.ext (xw1.trans (xw2.trans (xw3.trans (xwa.trans (xw4.trans (xwb.trans (xw5.trans (xw6.trans (xwt.trans (xw7.trans (xwc.trans (xw8.trans xw9))))))))))))).at3
    obtain ⟨hc_0, hc_1, hc_2, hc_3, hc_4, hc_5⟩ := (HC.out.ext (xw8.trans xw9)).at6
    go_wp2_with fail
    refine (CH.out _ _ _ _ _ _ _ _ _ (OC.out.ext (xwc.trans (xw8.trans xw9))) QC.out).mono ?_
    rintro _ w10 ⟨rfl, xw10⟩
    clear hm_0 hm_1 hm_2 hc_0 hc_1 hc_2 hc_3 hc_4 hc_5
    obtain ⟨ha_0, ha_1, ha_2, ha_3, ha_4, ha_5⟩ := (HA.out.ext (xw4.trans (xwb.trans (xw5.trans (xw6.trans (xwt.trans (xw7.trans (xwc.trans (xw8.trans (xw9.trans xw10)))))))))).at6
    go_wp2_with fail
    refine (CE.out _ _ ((OA.out.ext (xwa.trans (xw4.trans (xwb.trans (xw5.trans (xw6.trans (xwt.trans (xw7.trans (xwc.trans (xw8.trans (xw9.trans xw10)))))))))))).f).mono ?_
    rintro _ w11 ⟨rfl, xw11⟩
    clear ha_0 ha_1 ha_2 ha_3 ha_4 ha_5
    obtain ⟨ht_0, ht_1, ht_2⟩ := (HT.out.ext (xw7.trans (xwc.trans (xw8.trans (xw9.trans (xw10.trans xw11)))))).at3
    go_wp2_with fail
    refine (CAn.out _ _ (hW0.out.trans (xw1.trans (xw2.trans (xw3.trans (xwa.trans (xw4.trans (xwb.trans (xw5.trans (xw6.trans (xwt.trans (xw7.trans (xwc.trans (xw8.trans (xw9.trans (xw10.trans xw11))))))))))))))) (I6.out.ext (xwt.trans (xw7.trans (xwc.trans (xw8.trans (xw9.trans (xw10.trans xw11)))))))).mono ?_
    rintro _ w12 ⟨y8, rfl, i8, xw12⟩
    clear ht_0 ht_1 ht_2
    have I8 := hid i8
    obtain ⟨a8, c8, rfl, -, -, -⟩ := i8
    by_cases g9 : E = 0
    · have eE : (E == 0) = true := by simp [g9]
      clear g9
      go_wp2_with fail
      go_ret
      exact ⟨rfl, (hW0.out.trans (xw1.trans (xw2.trans (xw3.trans (xwa.trans (xw4.trans (xwb.trans (xw5.trans (xw6.trans (xwt.trans (xw7.trans (xwc.trans (xw8.trans (xw9.trans (xw10.trans (xw11.trans xw12))))))))))))))))⟩
    have eE : (E == 0) = false := by simp [g9]
    obtain ⟨rfl, hP⟩ := HP0.out g9
    have HP := hid hP
    clear g9 hP
    obtain ⟨ht_0, ht_1, ht_2⟩ := (HT.out.ext (xw7.trans (xwc.trans (xw8.trans (xw9.trans (xw10.trans (xw11.trans xw12))))))).at3
    obtain ⟨hc_0, hc_1, hc_2, hc_3, hc_4, hc_5⟩ := (HC.out.ext (xw8.trans (xw9.trans (xw10.trans (xw11.trans xw12))))).at6
    go_wp2_with fail
    refine (HP.out _ _ _ _ _ _ _ _ _ _ _ (hW0.out.trans (xw1.trans (xw2.trans (xw3.trans (xwa.trans (xw4.trans (xwb.trans (xw5.trans (xw6.trans (xwt.trans (xw7.trans (xwc.trans (xw8.trans (xw9.trans (xw10.trans (xw11.trans xw12)))))))))))))))) (I6.out.ext (xwt.trans (xw7.trans (xwc.trans (xw8.trans (xw9.trans (xw10.trans (xw11.trans xw12)))))))) (OC.out.ext (xwc.trans (xw8.trans (xw9.trans (xw10.trans (xw11.trans xw12)))))) QC.out I8.out).mono ?_
    rintro _ w13 ⟨rfl, xw13⟩
    clear ht_0 ht_1 ht_2 hc_0 hc_1 hc_2 hc_3 hc_4 hc_5
    go_wp2_with fail
    go_ret
    exact ⟨rfl, (hW0.out.trans (xw1.trans (xw2.trans (xw3.trans (xwa.trans (xw4.trans (xwb.trans (xw5.trans (xw6.trans (xwt.trans (xw7.trans (xwc.trans (xw8.trans (xw9.trans (xw10.trans (xw11.trans (xw12.trans xw13)))))))))))))))))⟩
  · have cb1 : (cb == 0) = false := by simpa using cb0
    clear cb0
    have z7 := (Ext.refl w4).alloc (.cells #[.slice none 0 0, .slice none 0 0, .slice none 0 0, .slice none 0 0, .slice none 0 0, .slice none 0 0] 30)
    obtain ⟨hm_0, hm_1, hm_2⟩ := (HM.out.ext (xw1.trans (xw2.trans (xw3.trans (xwa.trans (xw4.trans z7)))))).at3
    go_wp2_with fail
    refine (CT.out _ (hW0.out.trans (xw1.trans (xw2.trans (xw3.trans (xwa.trans (xw4.trans z7))))))).mono ?_
    rintro _ w6 ⟨tv, rfl, i6, xw6⟩
    clear hm_0 hm_1 hm_2
    have I6 := hid i6
    obtain ⟨ta, tk, rfl, -, -, -⟩ := i6
    have HT0 := Blk.new w6 25 #[.int .i64 (n : Int), .int .i64 (n : Int), .slice ta (turnL n n xs).length tk]
    obtain ⟨wt, hwt⟩ : ∃ W, w6.alloc (.cells #[.int .i64 (n : Int), .int .i64 (n : Int), .slice ta (turnL n n xs).length tk] 25) = W := ⟨_, rfl⟩
    rw [hwt] at HT0
    have xwt : Ext w6 wt := hwt ▸ (Ext.refl w6).alloc _
    have HT := hid HT0
    clear HT0
    obtain ⟨ht_0, ht_1, ht_2⟩ := HT.out.at3
    go_wp2_with fail
    refine (CC.out _ _ (hW0.out.trans (xw1.trans (xw2.trans (xw3.trans (xwa.trans (xw4.trans (z7.trans (xw6.trans xwt)))))))) (I6.out.ext xwt)).mono ?_
    rintro _ w7 ⟨f1, f2, f3, f4, f5, f6, S3, T3, rfl, o7, q7, -, xw7⟩
    clear ht_0 ht_1 ht_2
    have OC := hid o7
    have QC := hid q7
    obtain ⟨⟨g1, kg1, rfl⟩, ⟨g2, kg2, rfl⟩, ⟨g3, kg3, rfl⟩, ⟨g4, kg4, rfl⟩, ⟨g5, kg5, rfl⟩, ⟨g6, kg6, rfl⟩⟩ := o7.slices
    have HC0 := Blk.new w7 30 #[.slice g1 F.length kg1, .slice g2 H.length kg2, .slice g3 S3.length kg3, .slice g4 T3.length kg4, .slice g5 v.length kg5, .slice g6 u.length kg6]
    obtain ⟨wc, hwc⟩ : ∃ W, w7.alloc (.cells #[.slice g1 F.length kg1, .slice g2 H.length kg2, .slice g3 S3.length kg3, .slice g4 T3.length kg4, .slice g5 v.length kg5, .slice g6 u.length kg6] 30) = W := ⟨_, rfl⟩
    rw [hwc] at HC0
    have xwc : Ext w7 wc := hwc ▸ (Ext.refl w7).alloc _
    have HC := hid HC0
    clear HC0
    clear o7 q7
    obtain ⟨ha_0, ha_1, ha_2, ha_3, ha_4, ha_5⟩ := (HA.out.ext (xw4.trans (z7.trans (xw6.trans (xwt.trans (xw7.trans xwc)))))).at6
    obtain ⟨hc_0, hc_1, hc_2, hc_3, hc_4, hc_5⟩ := HC.out.at6
    go_wp2_with fail
    refine (CSF.out _ _ _ ((OA.out.ext (xwa.trans (xw4.trans (z7.trans (xw6.trans (xwt.trans (xw7.trans xwc)))))))).f ((OC.out.ext xwc)).f).mono ?_
    rintro _ w8 ⟨rfl, xw8⟩
    clear ha_0 ha_1 ha_2 ha_3 ha_4 ha_5 hc_0 hc_1 hc_2 hc_3 hc_4 hc_5
    obtain ⟨ha_0, ha_1, ha_2, ha_3, ha_4, ha_5⟩ := (HA.out.ext (xw4.trans (z7.trans (xw6.trans (xwt.trans (xw7.trans (xwc.trans xw8))))))).at6
    obtain ⟨hc_0, hc_1, hc_2, hc_3, hc_4, hc_5⟩ := (HC.out.ext xw8).at6
    go_wp2_with fail
    refine (CSH.out _ _ _ ((OA.out.ext (xwa.trans (xw4.trans (z7.trans (xw6.trans (xwt.trans (xw7.trans (xwc.trans xw8))))))))).h ((OC.out.ext (xwc.trans xw8))).h).mono ?_
    rintro _ w9 ⟨rfl, xw9⟩
    clear ha_0 ha_1 ha_2 ha_3 ha_4 ha_5 hc_0 hc_1 hc_2 hc_3 hc_4 hc_5
    obtain ⟨hm_0, hm_1, hm_2⟩ := (HM.out.ext (xw1.trans (xw2.trans (xw3.trans (xwa.trans (xw4.trans (z7.trans (xw6.trans (xwt.trans (xw7.trans (xwc.trans (xw8.trans xw9)))))))))))).at3
    obtain ⟨hc_0, hc_1, hc_2, hc_3, hc_4, hc_5⟩ := (HC.out.ext (xw8.trans xw9)).at6
    go_wp2_with fail
    refine (CH.out _ _ _ _ _ _ _ _ _ (OC.out.ext (xwc.trans (xw8.trans xw9))) QC.out).mono ?_
    rintro _ w10 ⟨rfl, xw10⟩
    clear hm_0 hm_1 hm_2 hc_0 hc_1 hc_2 hc_3 hc_4 hc_5
    obtain ⟨ha_0, ha_1, ha_2, ha_3, ha_4, ha_5⟩ := (HA.out.ext (xw4.trans (z7.trans (xw6.trans (xwt.trans (xw7.trans (xwc.trans (xw8.trans (xw9.trans xw10))))))))).at6
    go_wp2_with fail
    refine (CE.out _ _ ((OA.out.ext (xwa.trans (xw4.trans (z7.trans (xw6.trans (xwt.trans (xw7.trans (xwc.trans (xw8.trans (xw9.trans xw10))))))))))).f).mono ?_
    rintro _ w11 ⟨rfl, xw11⟩
    clear ha_0 ha_1 ha_2 ha_3 ha_4 ha_5
    obtain ⟨ht_0, ht_1, ht_2⟩ := (HT.out.ext (xw7.trans (xwc.trans (xw8.trans (xw9.trans (xw10.trans xw11)))))).at3
    go_wp2_with fail
    refine (CAn.out _ _ (hW0.out.trans (xw1.trans (xw2.trans (xw3.trans (xwa.trans (xw4.trans (z7.trans (xw6.trans (xwt.trans (xw7.trans (xwc.trans (xw8.trans (xw9.trans (xw10.trans xw11)))))))))))))) (I6.out.ext (xwt.trans (xw7.trans (xwc.trans (xw8.trans (xw9.trans (xw10.trans xw11)))))))).mono ?_
    rintro _ w12 ⟨y8, rfl, i8, xw12⟩
    clear ht_0 ht_1 ht_2
    have I8 := hid i8
    obtain ⟨a8, c8, rfl, -, -, -⟩ := i8
    by_cases g9 : E = 0
    · have eE : (E == 0) = true := by simp [g9]
      clear g9
      go_wp2_with fail
      go_ret
      exact ⟨rfl, (hW0.out.trans (xw1.trans (xw2.trans (xw3.trans (xwa.trans (xw4.trans (z7.trans (xw6.trans (xwt.trans (xw7.trans (xwc.trans (xw8.trans (xw9.trans (xw10.trans (xw11.trans xw12)))))))))))))))⟩
    have eE : (E == 0) = false := by simp [g9]
    obtain ⟨rfl, hP⟩ := HP0.out g9
    have HP := hid hP
    clear g9 hP
    obtain ⟨ht_0, ht_1, ht_2⟩ := (HT.out.ext (xw7.trans (xwc.trans (xw8.trans (xw9.trans (xw10.trans (xw11.trans xw12))))))).at3
    obtain ⟨hc_0, hc_1, hc_2, hc_3, hc_4, hc_5⟩ := (HC.out.ext (xw8.trans (xw9.trans (xw10.trans (xw11.trans xw12))))).at6
    go_wp2_with fail
    refine (HP.out _ _ _ _ _ _ _ _ _ _ _ (hW0.out.trans (xw1.trans (xw2.trans (xw3.trans (xwa.trans (xw4.trans (z7.trans (xw6.trans (xwt.trans (xw7.trans (xwc.trans (xw8.trans (xw9.trans (xw10.trans (xw11.trans xw12))))))))))))))) (I6.out.ext (xwt.trans (xw7.trans (xwc.trans (xw8.trans (xw9.trans (xw10.trans (xw11.trans xw12)))))))) (OC.out.ext (xwc.trans (xw8.trans (xw9.trans (xw10.trans (xw11.trans xw12)))))) QC.out I8.out).mono ?_
    rintro _ w13 ⟨rfl, xw13⟩
    clear ht_0 ht_1 ht_2 hc_0 hc_1 hc_2 hc_3 hc_4 hc_5
    go_wp2_with fail
    go_ret
    exact ⟨rfl, (hW0.out.trans (xw1.trans (xw2.trans (xw3.trans (xwa.trans (xw4.trans (z7.trans (xw6.trans (xwt.trans (xw7.trans (xwc.trans (xw8.trans (xw9.trans (xw10.trans (xw11.trans (xw12.trans xw13))))))))))))))))⟩

theorem walk (p : Int) (r c : Int) (mv : Value) (xs : List Int) (vu : Value) (u : List Int) (vv : Value) (v : List Int) (vx : Value) (x : List Int) (vy : Value) (y : List Int) (z : Int) (w : World) (hp : (Lit.int .u64 p).wf = true)
    (_ : (Lit.int .i64 r).wf = true) (_ : (Lit.int .i64 c).wf = true) (hm : Ints .u64 w mv xs) (ux : ∀ x ∈ xs, (Lit.int .u64 x).wf = true) (hu : Ints .u64 w vu u) (uu : ∀ x ∈ u, (Lit.int .u64 x).wf = true) (hv : Ints .u64 w vv v) (uv : ∀ x ∈ v, (Lit.int .u64 x).wf = true)
    (hx : Ints .u64 w vx x) (uxx : ∀ z ∈ x, (Lit.int .u64 z).wf = true) (hy : Ints .u64 w vy y) (uyy : ∀ z ∈ y, (Lit.int .u64 z).wf = true) (hz : (Lit.int .u64 z).wf = true) :
    Calls Tryz.prog 6 #[.int .u64 p, .agg #[.int .i64 r, .int .i64 c, mv], vu, vv, vx, vy, .int .u64 z] w (Ret (.bool true) w) := by
  have hp' := u64_wf hp
  have hz' := u64_wf hz
  have ux' : U64s xs := fun x h => by have := u64_wf (ux x h); omega
  have uu' : U64s u := fun x h => by have := u64_wf (uu x h); omega
  have uv' : U64s v := fun x h => by have := u64_wf (uv x h); omega
  have uxx' : U64s x := fun z h => by have := u64_wf (uxx z h); omega
  have uyy' : U64s y := fun z h => by have := u64_wf (uyy z h); omega
  cases h : (decide (xs.length ≤ 25) && (takenB p && (matB p r c xs && (decide (r = c) && decide (z < p))))) with
  | false => exact walk_skip p r c mv vu vv vx vy xs z w (by omega) (by omega) hm ux' h
  | true =>
    simp only [Bool.and_eq_true, decide_eq_true_eq] at h
    obtain ⟨h1, h2, h3, h4, h5⟩ := h
    obtain ⟨m, n, rfl, rfl, ok⟩ := MatOk.of ux' h3
    have e : m = n := by omega
    subst e
    have hp2 := rightB_true ok.hp
    obtain ⟨F, hmin⟩ := MinL.any ((taken_fld h2).has hp2.1) m xs
    cases hV : mkB p m xs F u v with
    | false => exact walk_n p m mv vu vv vx vy xs u v x y z w ok h2 h1 h5 hm hu uu' hv uv' hx uxx' hy uyy' fun f hf => by rw [hf.one hp2.1 hmin]; exact hV
    | true => exact walk_y p m mv vu vv vx vy xs u v x y z w ok h2 h1 h5 hm hu uu' hv uv' hx uxx' hy uyy' (by omega) fun f hf => by rw [hf.one hp2.1 hmin]; exact hV
theorem own : ownKnob Tryz.prog.godebug = none := by kernel_rfl
set_option maxRecDepth 100000 in
theorem lifted (os : Os) (started : os.Started) (H : Type) (enc : TypeId × Value → H) :
    ReturnsInHanded {} Tryz.checked os 6 .any (Rows.ownSameSpec.pre6 enc Tryz.prog Tryz.f6 Rows.ownSameRow.domain false) (Rows.ownSameSpec.post enc Tryz.prog Tryz.f6 false true false false) := by
  refine returnsInHanded_of_change (C := Tryz.checked) own started (by kernel_rfl) Tryz.func6
    (ChangeSpec.witness6 (enc := enc) (C := Tryz.checked) false ⟨#[], #[.int .u64 0, .agg #[.int .i64 0, .int .i64 0, .slice none 0 0], .slice none 0 0, .slice none 0 0, .slice none 0 0, .slice none 0 0, .int .u64 0], []⟩ 8 (by kernel_rfl) (by kernel_rfl) (by kernel_rfl) (by kernel_rfl)) ?_
  intro W base args ds gs before hval0 hW _ _
  have hval : ∀ (j : Nat) t v, Tryz.f6.params[j]? = some t → args[j]? = some v → Value.okWide Tryz.prog W .any base t v := hval0
  have hW' := hW
  obtain ⟨p, q, hA0, hV, rfl, _, _⟩ := hW
  have hA : DataW.TrodAll enc Tryz.prog W 0 (fun _ => true) true Tryz.f6.params.toList args.toList ds p := hA0
  rw [Tryz.params6] at hA hval
  obtain ⟨v0, vs0, d0, ds0, p0, q0, hargs, rfl, rfl, h0, r0⟩ := trodAll_cons hA
  obtain ⟨v1, vs1, d1, ds1, p1, q1, rfl, rfl, rfl, h1, r1⟩ := trodAll_cons r0
  obtain ⟨v2, vs2, d2, ds2, p2, q2, rfl, rfl, rfl, h2, r2⟩ := trodAll_cons r1
  obtain ⟨v3, vs3, d3, ds3, p3, q3, rfl, rfl, rfl, h3, r3⟩ := trodAll_cons r2
  obtain ⟨v4, vs4, d4, ds4, p4, q4, rfl, rfl, rfl, h4, r4⟩ := trodAll_cons r3
  obtain ⟨v5, vs5, d5, ds5, p5, q5, rfl, rfl, rfl, h5, r5⟩ := trodAll_cons r4
  obtain ⟨v6, vs6, d6, ds6, p6, q6, rfl, rfl, rfl, h6, r6⟩ := trodAll_cons r5
  obtain ⟨rfl, rfl, rfl⟩ := trodAll_nil r6
  obtain rfl : args = #[v0, v1, v2, v3, v4, v5, v6] := by cases args; simp_all
  obtain ⟨rfl, rfl⟩ := trodVars_none hV
  obtain ⟨a0, rfl, rfl, rfl, w0⟩ := open_int Tryz.underlying22 (hval 0 22 v0 rfl rfl) h0
  obtain ⟨mr1, mc1, mu1, xs1, rfl, wr1, wc1, i1, w1⟩ := open_Mat (hval 1 25 v1 rfl rfl) h1
  obtain ⟨xs2, i2, w2⟩ := open_Ints Tryz.underlying23 Tryz.underlying22 (by kernel_rfl) (hval 2 23 v2 rfl rfl) h2
  obtain ⟨xs3, i3, w3⟩ := open_Ints Tryz.underlying23 Tryz.underlying22 (by kernel_rfl) (hval 3 23 v3 rfl rfl) h3
  obtain ⟨xs4, i4, w4⟩ := open_Ints Tryz.underlying23 Tryz.underlying22 (by kernel_rfl) (hval 4 23 v4 rfl rfl) h4
  obtain ⟨xs5, i5, w5⟩ := open_Ints Tryz.underlying23 Tryz.underlying22 (by kernel_rfl) (hval 5 23 v5 rfl rfl) h5
  obtain ⟨a6, rfl, rfl, rfl, w6⟩ := open_int Tryz.underlying22 (hval 6 22 v6 rfl rfl) h6
  refine (walk a0 mr1 mc1 mu1 xs1 v2 xs2 v3 xs3 v4 xs4 v5 xs5 a6 W w0 wr1 wc1 i1 w1 i2 w2 i3 w3 i4 w4 i5 w5 w6).mono fun e W' ⟨he, hg⟩ => ⟨_, he, ?_⟩
  exact law_post (by kernel_rfl) (by kernel_rfl) rfl Tryz.underlying4 rfl rfl hW' hg

/-- the statement -/
theorem proved : Rows.OwnSameSaid :=
  OpenClaim.holds_of_wide 6 Tryz.f6 rfl rfl rfl rfl rfl rfl rfl ⟨rfl, rfl, rfl, rfl, rfl⟩ rfl rfl rfl rfl rfl (by kernel_rfl) Tryz.func6 (by kernel_rfl)
    (of_decide_eq_true (by kernel_rfl)) (by unfold Func.isWrapper; first | (rw [if_pos (by decide +kernel)]; kernel_rfl) | (rw [if_neg (by decide +kernel)]; exact ⟨rfl, rfl⟩))
    (fun os started H enc _ => lifted os started H enc)
end Go.Proofs.YtijpeepdedfhoaaGreat.ownSame
