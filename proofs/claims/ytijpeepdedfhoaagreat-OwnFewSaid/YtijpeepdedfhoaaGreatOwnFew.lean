/- OwnFew: whatever the arguments, the law answers true, and nothing that was there has turned. No condition. -/
import Derived.Test.YtijpeepdedfhoaaGreatAwake15
import Derived.Test.YtijpeepdedfhoaaGreatBun22
import Derived.Test.YtijpeepdedfhoaaGreatBun30
import Derived.Test.YtijpeepdedfhoaaGreatFldP
import Derived.Test.YtijpeepdedfhoaaGreatBun08
import Derived.Test.YtijpeepdedfhoaaGreatBun32
import Derived.Test.YtijpeepdedfhoaaGreatR15k
import Derived.Test.YtijpeepdedfhoaaGreatBun14
import Derived.Test.YtijpeepdedfhoaaGreatDiv
namespace Go.Proofs.YtijpeepdedfhoaaGreat.ownFew
open Go.ChangeShapes Go.WideShapes Go.ChangeAt Go.RowKit Go.Maps

/-- who divides leaves no rest -/
theorem rest_none {p : Int} {X G q r : List Int} (hG : Pol p G) (g0 : G ≠ []) {i : Int} (hi : lead G * i % p = 1) (hr : Pol p r) (hl : r.length < G.length) {u : Ser p} (hu : u.poly) (e : pol p X = u * pol p G) (h : pol p X = pol p q * pol p G + pol p r) : r = [] := by
  have := pol_div_unique (q := pol p q) (r := pol p r) (q' := u) (r' := 0) hG g0 hi (pol_poly _) hu ((pol_low r).mono (by omega)) (Ser.low_zero _) (by rw [← h, Ser.add_zero, e])
  exact hr.zero this.2
/-- is a place passed, by whatever answer, or one where the matrix keeps a direction? -/
def PZ (p : Int) (n : Nat) (xs F H U V : List Int) (k : Nat) : Prop := detF n (atF n (shL p n k xs)) % p = 0 ∨ ∃ y, IsX p n n (shL p n k xs) V y ∧ passB p n xs F H U V k y = true
noncomputable def pzB (p : Int) (n : Nat) (xs F H U V : List Int) (k : Nat) : Bool := @decide (PZ p n xs F H U V k) (Classical.propDecidable _)
theorem pzB_iff {p : Int} {n : Nat} {xs F H U V : List Int} {k : Nat} : pzB p n xs F H U V k = true ↔ PZ p n xs F H U V k := by
  unfold pzB
  rw [@decide_eq_true_iff _ (Classical.propDecidable _)]
theorem cntZ_yes {P : Nat → Bool} {N : Nat} (h : P N = true) : cntZ P (N + 1) = cntZ P N + 1 := by
  show cntZ P N + (if P N then 1 else 0) = _
  rw [h]; rfl
theorem cntZ_no {P : Nat → Bool} {N : Nat} (h : P N = false) : cntZ P (N + 1) = cntZ P N := by
  show cntZ P N + (if P N then 1 else 0) = _
  rw [h]; rfl
set_option maxRecDepth 100000 in
set_option maxHeartbeats 8000000 in
theorem walk_skip (p r c : Int) (mv : Value) (xs F H S T U V : List Int) (fv hv sv tv uv vv : Value) (w : World) (h0 : 0 ≤ p) (h1 : p ≤ 18446744073709551615) (hm : Ints .u64 w mv xs) (ux : U64s xs) (o : OwnR w fv hv sv tv uv vv F H S T U V) (ou : OwnU F H S T U V) (h : (decide (p ≤ 101) && (isB p && (decide (xs.length ≤ 16) && (shortO F H S T U V && (matB p r c xs && (decide (r = c) && ownB p r F H S T U V)))))) = false) :
    Calls Tryz.prog 4 #[.int .u64 p, matV r c mv, .agg #[fv, hv, sv, tv, uv, vv]] w (Ret (.bool true) w) := by
  have CI := hid fun (W : World) (hp : p ≤ 101) => Is_any p W h0 (by omega)
  have CB := hid fun (W : World) (hW : Ext w W) => r15Short F H S T U V fv hv sv tv uv vv W (o.ext hW)
  have CM := hid fun (W : World) (hW : Ext w W) => mxRight p r c mv xs W h0 h1 (hm.ext hW) ux
  have CO := hid fun (W : World) (hW : Ext w W) => owHas p r F H S T U V fv hv sv tv uv vv W h0 h1 (o.ext hW) ou
  obtain ⟨I, eI⟩ : ∃ B, isB p = B := ⟨_, rfl⟩
  rw [eI] at CI h
  obtain ⟨B, eB⟩ : ∃ B, shortO F H S T U V = B := ⟨_, rfl⟩
  rw [eB] at CB h
  obtain ⟨M, eM⟩ : ∃ B, matB p r c xs = B := ⟨_, rfl⟩
  rw [eM] at CM h
  obtain ⟨O, eO⟩ : ∃ B, ownB p r F H S T U V = B := ⟨_, rfl⟩
  rw [eO] at CO h
  clear eI eB eM eO ux ou
  unfold matV at CM
  obtain ⟨a, cap, rfl, -, -, -⟩ := hm
  obtain ⟨a1, c1, rfl, -, -, -⟩ := o.f
  obtain ⟨a2, c2, rfl, -, -, -⟩ := o.h
  obtain ⟨a3, c3, rfl, -, -, -⟩ := o.s
  obtain ⟨a4, c4, rfl, -, -, -⟩ := o.t
  obtain ⟨a5, c5, rfl, -, -, -⟩ := o.u
  obtain ⟨a6, c6, rfl, -, -, -⟩ := o.v
  clear o
  have HM := hid (show Blk ((w.alloc (.cells #[.int .i64 r, .int .i64 c, .slice a xs.length cap] 25)).alloc (.cells #[.slice a1 F.length c1, .slice a2 H.length c2, .slice a3 S.length c3, .slice a4 T.length c4, .slice a5 U.length c5, .slice a6 V.length c6] 30)) w.heap.size 25 #[.int .i64 r, .int .i64 c, .slice a xs.length cap] from (Blk.new _ _ _).ext ((Ext.refl _).alloc _))
  have HO := hid (show Blk ((w.alloc (.cells #[.int .i64 r, .int .i64 c, .slice a xs.length cap] 25)).alloc (.cells #[.slice a1 F.length c1, .slice a2 H.length c2, .slice a3 S.length c3, .slice a4 T.length c4, .slice a5 U.length c5, .slice a6 V.length c6] 30)) (w.heap.size + 1) 30 #[.slice a1 F.length c1, .slice a2 H.length c2, .slice a3 S.length c3, .slice a4 T.length c4, .slice a5 U.length c5, .slice a6 V.length c6] from Blk.at_ (by rw [alloc_size]))
  have hW0 := hid (show Ext w ((w.alloc (.cells #[.int .i64 r, .int .i64 c, .slice a xs.length cap] 25)).alloc (.cells #[.slice a1 F.length c1, .slice a2 H.length c2, .slice a3 S.length c3, .slice a4 T.length c4, .slice a5 U.length c5, .slice a6 V.length c6] 30)) from ((Ext.refl w).alloc _).alloc _)
  unfold matV
  obtain ⟨LM, eLM⟩ : ∃ k, xs.length = k := ⟨_, rfl⟩
  rw [eLM] at h HM HO hW0 CM
  rw [eLM]
  clear eLM
  have Hh := hid h
  clear h
  go_enter Tryz.func4, Tryz.ntmps4
  go_wp2_with fail
  refine (awake15 _).mono ?_
  rintro _ w1 ⟨rfl, xw1⟩
  by_cases g1 : p ≤ 101
  case neg =>
    obtain ⟨hm_0, hm_1, hm_2⟩ := (HM.out.ext xw1).at3
    obtain ⟨ho_0, ho_1, ho_2, ho_3, ho_4, ho_5⟩ := (HO.out.ext xw1).at6
    go_wp2_with fail
    go_ret
    exact ⟨rfl, (hW0.out.trans xw1)⟩
  obtain ⟨hm_0, hm_1, hm_2⟩ := (HM.out.ext xw1).at3
  obtain ⟨ho_0, ho_1, ho_2, ho_3, ho_4, ho_5⟩ := (HO.out.ext xw1).at6
  go_wp2_with fail
  refine (CI.out _ g1).mono ?_
  rintro _ _ ⟨rfl, rfl⟩
  clear hm_0 hm_1 hm_2 ho_0 ho_1 ho_2 ho_3 ho_4 ho_5
  cases I
  · obtain ⟨hm_0, hm_1, hm_2⟩ := (HM.out.ext xw1).at3
    obtain ⟨ho_0, ho_1, ho_2, ho_3, ho_4, ho_5⟩ := (HO.out.ext xw1).at6
    go_wp2_with fail
    go_ret
    exact ⟨rfl, (hW0.out.trans xw1)⟩
  by_cases g2 : LM ≤ 16
  case neg =>
    obtain ⟨hm_0, hm_1, hm_2⟩ := (HM.out.ext xw1).at3
    obtain ⟨ho_0, ho_1, ho_2, ho_3, ho_4, ho_5⟩ := (HO.out.ext xw1).at6
    go_wp2_with fail
    go_ret
    exact ⟨rfl, (hW0.out.trans xw1)⟩
  obtain ⟨hm_0, hm_1, hm_2⟩ := (HM.out.ext xw1).at3
  obtain ⟨ho_0, ho_1, ho_2, ho_3, ho_4, ho_5⟩ := (HO.out.ext xw1).at6
  go_wp2_with fail
  refine (CB.out _ (hW0.out.trans xw1)).mono ?_
  rintro _ w2 ⟨rfl, xw2⟩
  clear hm_0 hm_1 hm_2 ho_0 ho_1 ho_2 ho_3 ho_4 ho_5
  cases B
  · obtain ⟨hm_0, hm_1, hm_2⟩ := (HM.out.ext (xw1.trans xw2)).at3
    obtain ⟨ho_0, ho_1, ho_2, ho_3, ho_4, ho_5⟩ := (HO.out.ext (xw1.trans xw2)).at6
    go_wp2_with fail
    go_ret
    exact ⟨rfl, (hW0.out.trans (xw1.trans xw2))⟩
  obtain ⟨hm_0, hm_1, hm_2⟩ := (HM.out.ext (xw1.trans xw2)).at3
  obtain ⟨ho_0, ho_1, ho_2, ho_3, ho_4, ho_5⟩ := (HO.out.ext (xw1.trans xw2)).at6
  go_wp2_with fail
  refine (CM.out _ (hW0.out.trans (xw1.trans xw2))).mono ?_
  rintro _ w3 ⟨rfl, xw3⟩
  clear hm_0 hm_1 hm_2 ho_0 ho_1 ho_2 ho_3 ho_4 ho_5
  cases M
  · obtain ⟨hm_0, hm_1, hm_2⟩ := (HM.out.ext (xw1.trans (xw2.trans xw3))).at3
    obtain ⟨ho_0, ho_1, ho_2, ho_3, ho_4, ho_5⟩ := (HO.out.ext (xw1.trans (xw2.trans xw3))).at6
    go_wp2_with fail
    go_ret
    exact ⟨rfl, (hW0.out.trans (xw1.trans (xw2.trans xw3)))⟩
  by_cases g4 : r = c
  case neg =>
    have bg4 : (r != c) = true := by rw [bne_iff_ne]; exact g4
    obtain ⟨hm_0, hm_1, hm_2⟩ := (HM.out.ext (xw1.trans (xw2.trans xw3))).at3
    obtain ⟨ho_0, ho_1, ho_2, ho_3, ho_4, ho_5⟩ := (HO.out.ext (xw1.trans (xw2.trans xw3))).at6
    go_wp2_with fail
    go_ret
    exact ⟨rfl, (hW0.out.trans (xw1.trans (xw2.trans xw3)))⟩
  have bg4 : (r != c) = false := by simp [g4]
  have Hg4 := hid g4
  clear g4
  obtain ⟨hm_0, hm_1, hm_2⟩ := (HM.out.ext (xw1.trans (xw2.trans xw3))).at3
  obtain ⟨ho_0, ho_1, ho_2, ho_3, ho_4, ho_5⟩ := (HO.out.ext (xw1.trans (xw2.trans xw3))).at6
  go_wp2_with fail
  refine (CO.out _ (hW0.out.trans (xw1.trans (xw2.trans xw3)))).mono ?_
  rintro _ w4 ⟨rfl, xw4⟩
  clear hm_0 hm_1 hm_2 ho_0 ho_1 ho_2 ho_3 ho_4 ho_5
  cases O
  · obtain ⟨hm_0, hm_1, hm_2⟩ := (HM.out.ext (xw1.trans (xw2.trans (xw3.trans xw4)))).at3
    obtain ⟨ho_0, ho_1, ho_2, ho_3, ho_4, ho_5⟩ := (HO.out.ext (xw1.trans (xw2.trans (xw3.trans xw4)))).at6
    go_wp2_with fail
    go_ret
    exact ⟨rfl, (hW0.out.trans (xw1.trans (xw2.trans (xw3.trans xw4))))⟩
  exact absurd Hh.out (by simp [g1, g2, Hg4.out])
set_option maxRecDepth 100000 in
set_option maxHeartbeats 8000000 in
theorem walk_yes (P n : Nat) (mv : Value) (xs F H S T U V : List Int) (fv hv sv tv uv vv : Value) (w : World) (ok : MatOk (P : Int) n n xs) (hP : P ≤ 101) (hI : isB (P : Int) = true) (hlen : xs.length ≤ 16) (hsh : shortO F H S T U V = true) (hm : Ints .u64 w mv xs) (o : OwnR w fv hv sv tv uv vv F H S T U V) (oo : OwnOk (P : Int) n F H S T U V) :
    Calls Tryz.prog 4 #[.int .u64 P, matV n n mv, .agg #[fv, hv, sv, tv, uv, vv]] w (Ret (.bool true) w) := by
  have hp2 := rightB_true ok.hp
  have hf : Fld (P : Int) := fld_is ((isB_iff _).1 hI)
  have hn := ok.hn
  have ou := oo.u
  obtain ⟨f, hmin⟩ := MinL.any (hf.has hp2.1) n xs
  have hfl := hmin.len (hf.has hp2.1)
  have CI := hid fun (W : World) => Is_any (P : Int) W (by omega) (by omega)
  rw [hI] at CI
  have CB := hid fun (W : World) (hW : Ext w W) => r15Short F H S T U V fv hv sv tv uv vv W (o.ext hW)
  rw [hsh] at CB
  have CM := hid fun (W : World) (hW : Ext w W) => (ok.b ▸ mxRight (P : Int) n n mv xs W (by omega) (by omega) (hm.ext hW) ok.u64 : Calls Tryz.prog 9 #[.int .u64 P, matV n n mv] W (Ret (.bool true) W))
  have CO := hid fun (W : World) (hW : Ext w W) => owHas (P : Int) n F H S T U V fv hv sv tv uv vv W (by omega) (by omega) (o.ext hW) ou
  rw [(ownB_iff ou).2 ⟨n, rfl, oo⟩] at CO
  have CF := hid fun (W : World) (hW : Ext w W) => krMin (P : Int) n mv xs f W ok hf (hm.ext hW) hmin
  have hF0 : F ≠ [] := List.length_pos_iff.1 (by have := oo.lF; omega)
  have hl1 := hf.linv hp2.1 oo.pF hF0
  have CV2 := hid fun (W : World) (z : Value) (hW : Ext w W) (hz : Ints .u64 W z f) => pDiv_yes (P : Int) z fv f F W ok.hp hz ((o.ext hW).f) hmin.isp oo.pF (by have := oo.lF; omega) hF0 (hf.unit_lead oo.pF hF0)
  have HDv := hid fun (qs rs : List Int) (pr : Pol (P : Int) rs) (er : pol (P : Int) f = pol (P : Int) qs * pol (P : Int) F + pol (P : Int) rs) (lr : rs.length < F.length) => (show ¬ rs.length = 0 → ¬ ∃ q : Ser (P : Int), q.poly ∧ pol (P : Int) f = q * pol (P : Int) F from fun h ⟨q, hq, e⟩ => h (by rw [rest_none oo.pF hF0 hl1 pr lr hq e er]; rfl))
  have HFew := hid fun (h : ¬ ∃ q : Ser (P : Int), q.poly ∧ pol (P : Int) f = q * pol (P : Int) F) => (show cntZ (pzB (P : Int) n xs F H U V) P ≤ 3 * n from
    few_claim (V := V) ok hf hmin oo.lF.2 (by have := oo.lF; have := oo.lH; omega) oo.lU (pol_poly S) (pol_poly T) oo.bz h _ P (Int.le_refl _) fun k hk hPk => by
      rcases pzB_iff.1 hPk with h1 | ⟨y, hy, hb⟩
      · exact .inl h1
      · refine .inr ⟨y, hy.len, hy.sol, ?_⟩
        unfold passB at hb
        rw [Bool.and_eq_true, decide_eq_true_eq, decide_eq_true_eq] at hb
        exact hb.2)
  have CP := hid fun (k : Nat) (hk : k < P) => (show ∃ K : Bool, (∀ W : World, Ext w W → Calls Tryz.prog 22 #[.int .u64 P, matV n n mv, .int .u64 k] W (Ret (.bool K) W)) ∧ (K = true → pzB (P : Int) n xs F H U V k = true) ∧
      (K = false → ∃ (y : List Int) (B : Bool), (∀ W : World, Ext w W → Calls Tryz.prog 16 #[.int .u64 P, matV n n mv, vv, .int .u64 k] W (RetE 0 y W)) ∧
        (∀ (W : World) (z : Value), Ext w W → Ints .u64 W z y → Calls Tryz.prog 17 #[.int .u64 P, matV n n mv, .agg #[fv, hv, sv, tv, uv, vv], .int .u64 k, z] W (Ret (.tuple #[.bool B, .int .i64 0]) W)) ∧ pzB (P : Int) n xs F H U V k = B) from by
    refine ⟨_, fun W hW => r15kept (P : Int) k n mv xs W ok hf (by omega) (by omega) (hm.ext hW), fun h => pzB_iff.2 (.inl (of_decide_eq_true h)), fun h => ?_⟩
    have hd := of_decide_eq_false h
    obtain ⟨y, hy⟩ := all_of_det (shL_ok ok k) hf hd oo.lV oo.rV
    refine ⟨y, passB (P : Int) n xs F H U V k y, fun W hW => owAnswer_yes (P : Int) k n xs V y mv vv W ok hf (hm.ext hW) ((o.ext hW).v) oo.lV oo.rV (by omega) (by omega) hy, fun W z hW hz => owPasses (P : Int) k n F H S T U V xs y mv fv hv sv tv uv vv z W ok (hm.ext hW) (o.ext hW) ou oo (by omega) (by omega) hz hy.len hy.rng, ?_⟩
    rw [Bool.eq_iff_iff, pzB_iff]
    constructor
    · rintro (h1 | ⟨y', hy', hb⟩)
      · exact absurd h1 hd
      · rw [hy.one (shL_ok ok k) hf hy']; exact hb
    · intro hb
      exact .inr ⟨y, hy, hb⟩)
  have hp1 : 2 ≤ P := by omega
  have Hn := hid hn
  clear hI hf hmin hfl oo ou ok hsh hl1 hF0
  unfold RetDiv at CV2
  unfold matV at CM CF CP
  unfold matV
  obtain ⟨a, cap, rfl, -, -, -⟩ := hm
  obtain ⟨a1, c1, rfl, -, -, -⟩ := o.f
  obtain ⟨a2, c2, rfl, -, -, -⟩ := o.h
  obtain ⟨a3, c3, rfl, -, -, -⟩ := o.s
  obtain ⟨a4, c4, rfl, -, -, -⟩ := o.t
  obtain ⟨a5, c5, rfl, -, -, -⟩ := o.u
  obtain ⟨a6, c6, rfl, -, -, -⟩ := o.v
  clear o
  have HM := hid (show Blk ((w.alloc (.cells #[.int .i64 (n : Int), .int .i64 (n : Int), .slice a xs.length cap] 25)).alloc (.cells #[.slice a1 F.length c1, .slice a2 H.length c2, .slice a3 S.length c3, .slice a4 T.length c4, .slice a5 U.length c5, .slice a6 V.length c6] 30)) w.heap.size 25 #[.int .i64 (n : Int), .int .i64 (n : Int), .slice a xs.length cap] from (Blk.new _ _ _).ext ((Ext.refl _).alloc _))
  have HO := hid (show Blk ((w.alloc (.cells #[.int .i64 (n : Int), .int .i64 (n : Int), .slice a xs.length cap] 25)).alloc (.cells #[.slice a1 F.length c1, .slice a2 H.length c2, .slice a3 S.length c3, .slice a4 T.length c4, .slice a5 U.length c5, .slice a6 V.length c6] 30)) (w.heap.size + 1) 30 #[.slice a1 F.length c1, .slice a2 H.length c2, .slice a3 S.length c3, .slice a4 T.length c4, .slice a5 U.length c5, .slice a6 V.length c6] from Blk.at_ (by rw [alloc_size]))
  have hW0 := hid (show Ext w ((w.alloc (.cells #[.int .i64 (n : Int), .int .i64 (n : Int), .slice a xs.length cap] 25)).alloc (.cells #[.slice a1 F.length c1, .slice a2 H.length c2, .slice a3 S.length c3, .slice a4 T.length c4, .slice a5 U.length c5, .slice a6 V.length c6] 30)) from ((Ext.refl w).alloc _).alloc _)
  have nn : ((n : Int) != (n : Int)) = false := by simp
  go_enter Tryz.func4, Tryz.ntmps4
  go_wp2_with fail
  refine (awake15 _).mono ?_
  rintro _ w1 ⟨rfl, xw1⟩
  obtain ⟨hm_0, hm_1, hm_2⟩ := (HM.out.ext xw1).at3
  obtain ⟨ho_0, ho_1, ho_2, ho_3, ho_4, ho_5⟩ := (HO.out.ext xw1).at6
  go_wp2_with fail
  refine (CI.out _).mono ?_
  rintro _ _ ⟨rfl, rfl⟩
  go_wp2_with fail
  refine (CB.out _ (hW0.out.trans xw1)).mono ?_
  rintro _ w2 ⟨rfl, xw2⟩
  clear hm_0 hm_1 hm_2 ho_0 ho_1 ho_2 ho_3 ho_4 ho_5
  obtain ⟨hm_0, hm_1, hm_2⟩ := (HM.out.ext (xw1.trans xw2)).at3
  obtain ⟨ho_0, ho_1, ho_2, ho_3, ho_4, ho_5⟩ := (HO.out.ext (xw1.trans xw2)).at6
  go_wp2_with fail
  refine (CM.out _ (hW0.out.trans (xw1.trans xw2))).mono ?_
  rintro _ w3 ⟨rfl, xw3⟩
  clear hm_0 hm_1 hm_2 ho_0 ho_1 ho_2 ho_3 ho_4 ho_5
  obtain ⟨hm_0, hm_1, hm_2⟩ := (HM.out.ext (xw1.trans (xw2.trans xw3))).at3
  obtain ⟨ho_0, ho_1, ho_2, ho_3, ho_4, ho_5⟩ := (HO.out.ext (xw1.trans (xw2.trans xw3))).at6
  go_wp2_with fail
  refine (CO.out _ (hW0.out.trans (xw1.trans (xw2.trans xw3)))).mono ?_
  rintro _ w4 ⟨rfl, xw4⟩
  clear hm_0 hm_1 hm_2 ho_0 ho_1 ho_2 ho_3 ho_4 ho_5
  obtain ⟨hm_0, hm_1, hm_2⟩ := (HM.out.ext (xw1.trans (xw2.trans (xw3.trans xw4)))).at3
  obtain ⟨ho_0, ho_1, ho_2, ho_3, ho_4, ho_5⟩ := (HO.out.ext (xw1.trans (xw2.trans (xw3.trans xw4)))).at6
  go_wp2_with fail
  refine (CF.out _ (hW0.out.trans (xw1.trans (xw2.trans (xw3.trans xw4))))).mono ?_
  rintro _ w5 ⟨v5, rfl, i5, xw5⟩
  have I5 := hid i5
  obtain ⟨a7, c7, rfl, -, -, -⟩ := i5
  clear hm_0 hm_1 hm_2 ho_0 ho_1 ho_2 ho_3 ho_4 ho_5
  obtain ⟨hm_0, hm_1, hm_2⟩ := (HM.out.ext (xw1.trans (xw2.trans (xw3.trans (xw4.trans xw5))))).at3
  obtain ⟨ho_0, ho_1, ho_2, ho_3, ho_4, ho_5⟩ := (HO.out.ext (xw1.trans (xw2.trans (xw3.trans (xw4.trans xw5))))).at6
  go_wp2_with fail
  refine (CV2.out _ _ (hW0.out.trans (xw1.trans (xw2.trans (xw3.trans (xw4.trans xw5))))) I5.out).mono ?_
  rintro _ w6 ⟨v6, v7, qs, rs, rfl, i6, i7, pq, pr, er, lr, -, xw6, -, -⟩
  have HD := hid (HDv.out qs rs pr er lr)
  obtain ⟨a8, c8, rfl, -, -, -⟩ := i6
  obtain ⟨a9, c9, rfl, -, -, -⟩ := i7
  clear pq pr er lr hm_0 hm_1 hm_2 ho_0 ho_1 ho_2 ho_3 ho_4 ho_5
  obtain ⟨LR, eLR⟩ : ∃ k, rs.length = k := ⟨_, rfl⟩
  replace HD := hid (by have := HD.out; rwa [eLR] at this)
  rw [eLR]
  clear eLR
  have Y := hid (hW0.out.trans (xw1.trans (xw2.trans (xw3.trans (xw4.trans (xw5.trans xw6))))))
  have HM := hid (HM.out.ext (xw1.trans (xw2.trans (xw3.trans (xw4.trans (xw5.trans xw6))))))
  have HO := hid (HO.out.ext (xw1.trans (xw2.trans (xw3.trans (xw4.trans (xw5.trans xw6))))))
  clear CI CB CM CO CF CV2 hW0 xw1 xw2 xw3 xw4 xw5 xw6 I5 HDv
  go_wp2_with fail
  go_loopw [12, 13, 14, 15, 16, 17] (fun c z _ _ _ _ wr => ∃ (N C : Nat), c = .int .i64 C ∧ z = .int .u64 N ∧ N ≤ P ∧ C ≤ N ∧ Hid (C = cntZ (pzB (P : Int) n xs F H U V) N) ∧ Ext w6 wr) (fun _ z _ _ _ _ _ => P - (intOf z).toNat)
  case atStart => exact ⟨0, 0, rfl, rfl, Nat.zero_le _, Nat.le_refl _, hid rfl, Ext.refl _⟩
  case round =>
    obtain ⟨N, C, rfl, rfl, hN, hC, hcn, hxw⟩ := hrel
    rename World => wr
    have yr := hid (Y.out.trans hxw)
    by_cases hlt : N < P
    · obtain ⟨K, hK, hKy, hKn⟩ := CP.out N hlt
      have HKy := hid hKy; have HKn := hid hKn
      have CKc := hid hK
      clear hK hKy hKn
      obtain ⟨p0, p1, p2⟩ := (HM.out.ext hxw).at3
      go_wp2_with fail
      refine (CKc.out _ yr.out).mono ?_
      rintro _ w7 ⟨rfl, x7⟩
      clear p0 p1 p2
      have y7 := hid (yr.out.trans x7)
      have z7 := hid (hxw.trans x7)
      cases K with
      | true =>
        have hz := HKy.out rfl
        go_wp2_with fail
        go_roundw
        case rel => exact ⟨N + 1, C + 1, by go_num, by go_num, by omega, by omega, hid (by rw [cntZ_yes hz, hcn.out]), z7.out⟩
        case measure => simp [intOf]; omega
      | false =>
        obtain ⟨y, B, hA, hPs, hBz⟩ := HKn.out rfl
        have CA := hid hA; have CPs := hid hPs; have HBz := hid hBz
        clear hA hPs hBz
        obtain ⟨p0, p1, p2⟩ := (HM.out.ext z7.out).at3
        obtain ⟨q0, q1, q2, q3, q4, q5⟩ := (HO.out.ext z7.out).at6
        go_wp2_with fail
        refine (CA.out _ y7.out).mono ?_
        rintro _ w8 ⟨v8, rfl, i8, x8⟩
        have I8 := hid i8
        obtain ⟨b8, d8, rfl, -, -, -⟩ := i8
        clear p0 p1 p2 q0 q1 q2 q3 q4 q5
        have y8 := hid (y7.out.trans x8)
        have z8 := hid (z7.out.trans x8)
        obtain ⟨p0, p1, p2⟩ := (HM.out.ext z8.out).at3
        obtain ⟨q0, q1, q2, q3, q4, q5⟩ := (HO.out.ext z8.out).at6
        go_wp2_with fail
        refine (CPs.out _ _ y8.out I8.out).mono ?_
        rintro _ w9 ⟨rfl, x9⟩
        clear p0 p1 p2 q0 q1 q2 q3 q4 q5
        have z9 := hid (z8.out.trans x9)
        cases B with
        | true =>
          go_wp2_with fail
          go_roundw
          case rel => exact ⟨N + 1, C + 1, by go_num, by go_num, by omega, by omega, hid (by rw [cntZ_yes HBz.out, hcn.out]), z9.out⟩
          case measure => simp [intOf]; omega
        | false =>
          go_wp2_with fail
          go_roundw
          case rel => exact ⟨N + 1, C, by go_num, by go_num, by omega, by omega, hid (by rw [cntZ_no HBz.out, hcn.out]), z9.out⟩
          case measure => simp [intOf]; omega
    · obtain rfl : P = N := by omega
      have HF := hid fun h => (show C ≤ 3 * n by rw [hcn.out]; exact HFew.out h)
      obtain ⟨p0, p1, p2⟩ := (HM.out.ext hxw).at3
      clear hcn HFew
      by_cases g : LR = 0
      · have bR : ((LR : Int) == 0) = true := by simp [g]
        clear g
        go_wp2_with fail
        go_ret
        exact ⟨ret_bool (by simp), yr.out⟩
      · have bR : ((LR : Int) == 0) = false := by simp [g]
        have hd := HF.out (HD.out g)
        clear g
        obtain ⟨D, eD⟩ : ∃ D, 3 * n = D := ⟨_, rfl⟩
        have eDi : (3 : Int) * (n : Int) = (D : Int) := by omega
        have wD : IntKind.i64.wrap (D : Int) = (D : Int) := IntWalk.i64_in _ (by omega)
        have hCD : C ≤ D := by omega
        clear eD
        go_wp2_with fail
        go_ret
        exact ⟨ret_bool (by simp), yr.out⟩

theorem walk (p : Int) (r c : Int) (mv : Value) (xs : List Int) (fv hv sv tv uv vv : Value) (F H S T U V : List Int) (w : World) (hp : (Lit.int .u64 p).wf = true)
    (_ : (Lit.int .i64 r).wf = true) (_ : (Lit.int .i64 c).wf = true) (hm : Ints .u64 w mv xs) (ux : ∀ x ∈ xs, (Lit.int .u64 x).wf = true) (o : OwnR w fv hv sv tv uv vv F H S T U V) (ou : OwnU F H S T U V) :
    Calls Tryz.prog 4 #[.int .u64 p, .agg #[.int .i64 r, .int .i64 c, mv], .agg #[fv, hv, sv, tv, uv, vv]] w (Ret (.bool true) w) := by
  have hp' := u64_wf hp
  have ux' : U64s xs := fun x h => by have := u64_wf (ux x h); omega
  cases h : (decide (p ≤ 101) && (isB p && (decide (xs.length ≤ 16) && (shortO F H S T U V && (matB p r c xs && (decide (r = c) && ownB p r F H S T U V)))))) with
  | false => exact walk_skip p r c mv xs F H S T U V fv hv sv tv uv vv w (by omega) (by omega) hm ux' o ou h
  | true =>
    simp only [Bool.and_eq_true, decide_eq_true_eq] at h
    obtain ⟨h1, h2, h3, h4, h5, h6, h7⟩ := h
    obtain ⟨m, n, rfl, rfl, ok⟩ := MatOk.of ux' h5
    have e : m = n := by omega
    subst e
    obtain ⟨P, rfl⟩ := Int.eq_ofNat_of_zero_le (show 0 ≤ p by omega)
    obtain ⟨k, hk, oo⟩ := (ownB_iff ou).1 h7
    have e : m = k := by omega
    subst e
    exact walk_yes P m mv xs F H S T U V fv hv sv tv uv vv w ok (by omega) h2 h3 h4 hm o oo
theorem own : ownKnob Tryz.prog.godebug = none := by kernel_rfl
set_option maxRecDepth 100000 in
theorem lifted (os : Os) (started : os.Started) (H : Type) (enc : TypeId × Value → H) :
    ReturnsInHanded {} Tryz.checked os 4 .any (Rows.ownFewSpec.pre6 enc Tryz.prog Tryz.f4 Rows.ownFewRow.domain false) (Rows.ownFewSpec.post enc Tryz.prog Tryz.f4 false true false false) := by
  refine returnsInHanded_of_change (C := Tryz.checked) own started (by kernel_rfl) Tryz.func4
    (ChangeSpec.witness6 (enc := enc) (C := Tryz.checked) false ⟨#[], #[.int .u64 0, .agg #[.int .i64 0, .int .i64 0, .slice none 0 0], .agg #[.slice none 0 0, .slice none 0 0, .slice none 0 0, .slice none 0 0, .slice none 0 0, .slice none 0 0]], []⟩ 8 (by kernel_rfl) (by kernel_rfl) (by kernel_rfl) (by kernel_rfl)) ?_
  intro W base args ds gs before hval0 hW _ _
  have hval : ∀ (j : Nat) t v, Tryz.f4.params[j]? = some t → args[j]? = some v → Value.okWide Tryz.prog W .any base t v := hval0
  have hW' := hW
  obtain ⟨p, q, hA0, hV, rfl, _, _⟩ := hW
  have hA : DataW.TrodAll enc Tryz.prog W 0 (fun _ => true) true Tryz.f4.params.toList args.toList ds p := hA0
  rw [Tryz.params4] at hA hval
  obtain ⟨v0, vs0, d0, ds0, p0, q0, hargs, rfl, rfl, h0, r0⟩ := trodAll_cons hA
  obtain ⟨v1, vs1, d1, ds1, p1, q1, rfl, rfl, rfl, h1, r1⟩ := trodAll_cons r0
  obtain ⟨v2, vs2, d2, ds2, p2, q2, rfl, rfl, rfl, h2, r2⟩ := trodAll_cons r1
  obtain ⟨rfl, rfl, rfl⟩ := trodAll_nil r2
  obtain rfl : args = #[v0, v1, v2] := by cases args; simp_all
  obtain ⟨rfl, rfl⟩ := trodVars_none hV
  obtain ⟨a0, rfl, rfl, rfl, w0⟩ := open_int Tryz.underlying22 (hval 0 22 v0 rfl rfl) h0
  obtain ⟨mr1, mc1, mu1, xs1, rfl, wr1, wc1, i1, w1⟩ := open_Mat (hval 1 25 v1 rfl rfl) h1
  obtain ⟨of2, oh2, os2, ot2, ou2, ov2, F2, H2, S2, T2, U2, V2, rfl, or2, oz2⟩ := open_Own (hval 2 30 v2 rfl rfl) h2
  refine (walk a0 mr1 mc1 mu1 xs1 of2 oh2 os2 ot2 ou2 ov2 F2 H2 S2 T2 U2 V2 W w0 wr1 wc1 i1 w1 or2 oz2).mono fun e W' ⟨he, hg⟩ => ⟨_, he, ?_⟩
  exact law_post (by kernel_rfl) (by kernel_rfl) rfl Tryz.underlying4 rfl rfl hW' hg

/-- the statement -/
theorem proved : Rows.OwnFewSaid :=
  OpenClaim.holds_of_wide 4 Tryz.f4 rfl rfl rfl rfl rfl rfl rfl ⟨rfl, rfl, rfl, rfl, rfl⟩ rfl rfl rfl rfl rfl (by kernel_rfl) Tryz.func4 (by kernel_rfl)
    (of_decide_eq_true (by kernel_rfl)) (by unfold Func.isWrapper; first | (rw [if_pos (by decide +kernel)]; kernel_rfl) | (rw [if_neg (by decide +kernel)]; exact ⟨rfl, rfl⟩))
    (fun os started H enc _ => lifted os started H enc)
end Go.Proofs.YtijpeepdedfhoaaGreat.ownFew
