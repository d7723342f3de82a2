/- The first look of layer 15's laws: it answers true. -/
import Derived.Test.YtijpeepdedfhoaaGreatBun30
import Derived.Test.YtijpeepdedfhoaaGreatR15
import Derived.Test.YtijpeepdedfhoaaGreatBun19
import Derived.Test.YtijpeepdedfhoaaGreatFldP
import Derived.Test.YtijpeepdedfhoaaGreatBun31
namespace Go.Proofs.YtijpeepdedfhoaaGreat
open Go.RowKit Go.Maps

theorem o15P7 : IsP 7 := ⟨by decide, fun d h2 hd => by
  have : d ≤ 2 := by
    apply Classical.byContradiction
    intro h
    have := Int.mul_le_mul (show 3 ≤ d by omega) (show 3 ≤ d by omega) (by omega) (by omega)
    omega
  obtain rfl : d = 2 := by omega
  decide⟩
theorem o15F7 : Fld 7 := fld_is o15P7
theorem o15H : folL 7 2 xs9 [1, 0, 1] [1, 0] [0, 1] = [1] := by decide +kernel
theorem o15U : ∀ a b : Fin 7, timesL 7 2 2 (shL 7 2 3 xs9) [(a.val : Int), (b.val : Int)] = [0, 1] → a.val = 5 ∧ b.val = 1 := by decide +kernel
theorem o15X : IsX 7 2 2 (shL 7 2 3 xs9) [0, 1] [5, 1] := by
  obtain ⟨x, hx⟩ := IsX.of_times (b := [0, 1]) (shL_ok ok9 3) o15F7 (x0 := [5, 1]) (by decide +kernel)
  obtain ⟨a, b, rfl⟩ : ∃ a b, x = [a, b] := by
    match x, hx.len with
    | [a, b], _ => exact ⟨a, b, rfl⟩
  have ha := hx.rng a (by simp)
  have hb := hx.rng b (by simp)
  obtain ⟨k, rfl⟩ := Int.eq_ofNat_of_zero_le ha.1
  obtain ⟨l, rfl⟩ := Int.eq_ofNat_of_zero_le hb.1
  have h := o15U ⟨k, by omega⟩ ⟨l, by omega⟩ hx.sol
  obtain ⟨h1, h2⟩ := h
  have h1' : k = 5 := h1
  have h2' : l = 1 := h2
  subst h1'; subst h2'
  exact hx
theorem o15P : passB 7 2 xs9 [1, 0, 1] [1] [1, 0] [0, 1] 3 [5, 1] = true := by decide +kernel
theorem o15D : (vecB 7 (2 : Nat) [4, 5] && diesB 7 2 xs9 [1, 0, 1] [4, 5]) = true := by decide +kernel
theorem o15V : vecB 7 (2 : Nat) [4, 5] = true := by decide +kernel
theorem o15ok : OwnOk 7 2 [1, 0, 1] [1] [] [1] [1, 0] [0, 1] where
  hp := by decide
  hn := by decide
  pF := ⟨by unfold Rng; decide, fun _ => by decide⟩
  lF := by decide
  mF := rfl
  pH := ⟨by unfold Rng; decide, fun _ => by decide⟩
  lH := by decide
  pS := Pol.nil
  lS := by decide
  pT := ⟨by unfold Rng; decide, fun _ => by decide⟩
  lT := by decide
  bz := by rw [pol_nil, Ser.zero_mul, Ser.zero_add, pol_1, Ser.mul_one]
  lU := rfl
  rU := by unfold Rng; decide
  lV := rfl
  rV := by unfold Rng; decide
theorem o15T {S T : List Int} (h : OwnOk 7 2 [1, 0, 1] [1] S T [1, 0] [0, 1]) (hs : ([1] : List Int).length = 1 → S = []) : S = [] ∧ T = [1] := by
  have h0 := hs rfl
  subst h0
  refine ⟨rfl, ?_⟩
  have hb := h.bz
  rw [pol_nil, Ser.zero_mul, Ser.zero_add, pol_1, Ser.mul_one] at hb
  exact h.pT.inj o15ok.pT (by rw [hb, pol_1])
theorem awMake (W : World) (m u v : Value) (hm : Ints .u64 W m xs9) (hu : Ints .u64 W u [1, 0]) (hv : Ints .u64 W v [0, 1]) :
    Calls Tryz.prog 10 #[.int .u64 7, .agg #[.int .i64 2, .int .i64 2, m], u, v] W fun e w' => ∃ fv hv sv tv uv vv, e = .returned (.tuple #[.agg #[fv, hv, sv, tv, uv, vv], .int .i64 0]) ∧ OwnR w' fv hv sv tv uv vv [1, 0, 1] [1] [] [1] [1, 0] [0, 1] ∧ Ext W w' := by
  have h := owMake 7 2 xs9 [1, 0] [0, 1] [1, 0, 1] m u v W ok9 o15F7 hm hu rfl (by unfold Rng; decide) hv rfl (by unfold Rng; decide) min9
  rw [o15H] at h
  refine h.mono ?_
  rintro e w' (⟨-, fv, hv', sv, tv, uv, vv, S, T, he, hr, ho, hs, hx⟩ | ⟨h, -⟩)
  · obtain ⟨rfl, rfl⟩ := o15T ho hs
    exact ⟨fv, hv', sv, tv, uv, vv, he, hr, hx⟩
  · exact absurd (gcd_one (by decide) _) h
theorem OwnR.slices {w : World} {fv hv sv tv uv vv : Value} {F H S T U V : List Int} (o : OwnR w fv hv sv tv uv vv F H S T U V) : (∃ a c, fv = .slice a F.length c) ∧ (∃ a c, hv = .slice a H.length c) ∧ (∃ a c, sv = .slice a S.length c) ∧ (∃ a c, tv = .slice a T.length c) ∧ (∃ a c, uv = .slice a U.length c) ∧ (∃ a c, vv = .slice a V.length c) := by
  obtain ⟨a1, c1, e1, -, -, -⟩ := o.f
  obtain ⟨a2, c2, e2, -, -, -⟩ := o.h
  obtain ⟨a3, c3, e3, -, -, -⟩ := o.s
  obtain ⟨a4, c4, e4, -, -, -⟩ := o.t
  obtain ⟨a5, c5, e5, -, -, -⟩ := o.u
  obtain ⟨a6, c6, e6, -, -, -⟩ := o.v
  exact ⟨⟨a1, c1, e1⟩, ⟨a2, c2, e2⟩, ⟨a3, c3, e3⟩, ⟨a4, c4, e4⟩, ⟨a5, c5, e5⟩, ⟨a6, c6, e6⟩⟩
set_option maxRecDepth 100000 in
set_option maxHeartbeats 4000000 in
theorem awake15 (w : World) : Calls Tryz.prog 7 #[] w (Ret (.bool true) w) := by
  have CM := hid @awMake
  have CA := hid fun (W : World) (m v : Value) (hm : Ints .u64 W m xs9) (hv : Ints .u64 W v [0, 1]) => (show Calls Tryz.prog 16 #[.int .u64 7, .agg #[.int .i64 2, .int .i64 2, m], v, .int .u64 3] W (RetE 0 [5, 1] W) from owAnswer_yes 7 3 2 xs9 [0, 1] [5, 1] m v W ok9 o15F7 hm hv rfl (by unfold Rng; decide) (by decide) (by decide) o15X)
  have CP := hid fun (W : World) (m y fv hv sv tv uv vv : Value) (hm : Ints .u64 W m xs9) (o : OwnR W fv hv sv tv uv vv [1, 0, 1] [1] [] [1] [1, 0] [0, 1]) (hy : Ints .u64 W y [5, 1]) => (show Calls Tryz.prog 17 #[.int .u64 7, .agg #[.int .i64 2, .int .i64 2, m], .agg #[fv, hv, sv, tv, uv, vv], .int .u64 3, y] W (Ret (.tuple #[.bool true, .int .i64 0]) W) from o15P ▸ owPasses 7 3 2 [1, 0, 1] [1] [] [1] [1, 0] [0, 1] xs9 [5, 1] m fv hv sv tv uv vv y W ok9 hm o o15ok.u o15ok (by decide) (by decide) hy rfl (by unfold Rng; decide))
  have CD := hid fun (W : World) (m y fv hv sv tv uv vv : Value) (hm : Ints .u64 W m xs9) (o : OwnR W fv hv sv tv uv vv [1, 0, 1] [1] [] [1] [1, 0] [0, 1]) (hy : Ints .u64 W y [4, 5]) => (show Calls Tryz.prog 14 #[.int .u64 7, .agg #[.int .i64 2, .int .i64 2, m], .agg #[fv, hv, sv, tv, uv, vv], y] W (Ret (.tuple #[.bool true, .int .i64 0]) W) from by
    have h := owDies 7 2 [1, 0, 1] [1] [] [1] [1, 0] [0, 1] xs9 [4, 5] m fv hv sv tv uv vv y W ok9 hm o o15ok.u o15ok hy (by unfold U64s; decide)
    rw [o15D, o15V] at h
    exact h)
  have CN := hid fun (W : World) (fv hv sv tv uv vv : Value) (o : OwnR W fv hv sv tv uv vv [1, 0, 1] [1] [] [1] [1, 0] [0, 1]) => owNumbers [1, 0, 1] [1] [] [1] [1, 0] [0, 1] fv hv sv tv uv vv W o (by decide)
  have CO := hid fun (W : World) (v : Value) (hv : Ints .u64 W v (numsO [1, 0, 1] [1] [] [1] [1, 0] [0, 1])) => (show Calls Tryz.prog 26 #[v, .int .i64 2] W (RetOwnV [1, 0, 1] [1] [] [1] [1, 0] [0, 1] W) from owOf [1, 0, 1] [1] [] [1] [1, 0] [0, 1] 2 v W hv (by decide) (by decide) (by decide) (by decide) (by decide) rfl rfl)
  have CS := hid fun (W : World) (v u : Value) (h0 : Ints .u64 W v [1]) (h1 : Ints .u64 W u [1]) => same_yes v u [1] W h0 h1
  have CT := hid fun (W : World) (fv hv sv tv uv vv fv' hv' sv' tv' uv' vv' : Value) (o : OwnR W fv hv sv tv uv vv [1, 0, 1] [1] [] [1] [1, 0] [0, 1]) (o' : OwnR W fv' hv' sv' tv' uv' vv' [1, 0, 1] [1] [] [1] [1, 0] [0, 1]) => r15Same_yes [1, 0, 1] [1] [] [1] [1, 0] [0, 1] fv hv sv tv uv vv fv' hv' sv' tv' uv' vv' W o o'
  have CH := hid fun (W : World) (fv hv sv tv uv vv : Value) (o : OwnR W fv hv sv tv uv vv [1, 0, 1] [1] [] [1] [1, 0] [0, 1]) => (show Calls Tryz.prog 12 #[.int .u64 7, .agg #[fv, hv, sv, tv, uv, vv], .int .i64 2] W (Ret (.bool true) W) from (ownB_iff o15ok.u).2 ⟨2, rfl, o15ok⟩ ▸ owHas 7 2 [1, 0, 1] [1] [] [1] [1, 0] [0, 1] fv hv sv tv uv vv W (by decide) (by decide) o o15ok.u)
  have hL2 := hid fun (W : World) (a b : Int) => (Ints.new2 (k := .u64) (w := W) (t := 22) (a := a) (b := b))
  have hL1 := hid fun (W : World) (a : Int) => (Ints.new1 (k := .u64) (w := W) (t := 22) (a := a))
  obtain ⟨wa, hwa⟩ : ∃ W, ((w.alloc (.cells #[.int .u64 0, .int .u64 1, .int .u64 6, .int .u64 0] 22)).alloc (.cells #[.int .i64 2, .int .i64 2, .slice (some ⟨w.heap.size, 0, none⟩) 4 4] 25)) = W := ⟨_, rfl⟩
  have IM := hid (show Ints .u64 wa (.slice (some ⟨w.heap.size, 0, none⟩) 4 4) xs9 from hwa ▸ (Ints.lit (k := .u64) (w := w) (t := 22) xs9 (by decide) rfl).alloc (.cells #[.int .i64 2, .int .i64 2, .slice (some ⟨w.heap.size, 0, none⟩) 4 4] 25))
  have HM := hid (show Blk wa (w.heap.size + 1) 25 #[.int .i64 2, .int .i64 2, .slice (some ⟨w.heap.size, 0, none⟩) 4 4] from hwa ▸ Blk.at_ (w := w.alloc (.cells #[.int .u64 0, .int .u64 1, .int .u64 6, .int .u64 0] 22)) (by rw [alloc_size]))
  have hW0 := hid (show Ext w wa from hwa ▸ ((Ext.refl w).alloc _).alloc _)
  obtain ⟨wb, hwb⟩ : ∃ W, (wa.alloc (.cells #[.int .u64 1, .int .u64 0] 22)).alloc (.cells #[.int .u64 0, .int .u64 1] 22) = W := ⟨_, rfl⟩
  have IU := hid (show Ints .u64 wb (.slice (some ⟨wa.heap.size, 0, none⟩) 2 2) [1, 0] from hwb ▸ (hL2.out wa 1 0).alloc _)
  have IV := hid (show Ints .u64 wb (.slice (some ⟨wa.heap.size + 1, 0, none⟩) 2 2) [0, 1] from by have h := hL2.out (wa.alloc (.cells #[.int .u64 1, .int .u64 0] 22)) 0 1; rw [alloc_size, hwb] at h; exact h)
  have xb := hid (show Ext wa wb from hwb ▸ ((Ext.refl wa).alloc _).alloc _)
  go_enter Tryz.func7, Tryz.ntmps7
  obtain ⟨hm_0, hm_1, hm_2⟩ := HM.out.at3
  go_wp2_with fail
  refine (CM.out _ _ _ _ (IM.out.ext xb.out) IU.out IV.out).mono ?_
  rintro _ w2 ⟨fv, hv, sv, tv, uv, vv, rfl, o2, xw2⟩
  have OC := hid o2
  obtain ⟨⟨a1, c1, rfl⟩, ⟨a2, c2, rfl⟩, ⟨a3, c3, rfl⟩, ⟨a4, c4, rfl⟩, ⟨a5, c5, rfl⟩, ⟨a6, c6, rfl⟩⟩ := o2.slices
  clear o2 hm_0 hm_1 hm_2
  have HC0 := Blk.new w2 30 #[.slice a1 3 c1, .slice a2 1 c2, .slice a3 0 c3, .slice a4 1 c4, .slice a5 2 c5, .slice a6 2 c6]
  obtain ⟨wc, hwc⟩ : ∃ W, w2.alloc (.cells #[.slice a1 3 c1, .slice a2 1 c2, .slice a3 0 c3, .slice a4 1 c4, .slice a5 2 c5, .slice a6 2 c6] 30) = W := ⟨_, rfl⟩
  rw [hwc] at HC0
  have xc : Ext w2 wc := hwc ▸ (Ext.refl w2).alloc _
  have HC := hid HC0
  clear HC0
  have I3 := hid (hL2.out wc 0 1)
  obtain ⟨hm_0, hm_1, hm_2⟩ := (HM.out.ext (xb.out.trans (xw2.trans xc))).at3
  go_wp2_with fail
  have z5 := (Ext.refl wc).alloc (.cells #[.int .u64 0, .int .u64 1] 22)
  refine (CA.out _ _ _ (IM.out.ext (xb.out.trans (xw2.trans (xc.trans z5)))) I3.out).mono ?_
  rintro _ w3 ⟨v3, rfl, i3, xw3⟩
  have IW := hid i3
  obtain ⟨a7, c7, rfl, -, -, -⟩ := i3
  clear hm_0 hm_1 hm_2
  obtain ⟨hm_0, hm_1, hm_2⟩ := (HM.out.ext (xb.out.trans (xw2.trans (xc.trans (z5.trans xw3))))).at3
  obtain ⟨hc_0, hc_1, hc_2, hc_3, hc_4, hc_5⟩ := (HC.out.ext (z5.trans xw3)).at6
  go_wp2_with fail
  refine (CP.out _ _ _ _ _ _ _ _ _ (IM.out.ext (xb.out.trans (xw2.trans (xc.trans (z5.trans xw3))))) (OC.out.ext (xc.trans (z5.trans xw3))) IW.out).mono ?_
  rintro _ w4 ⟨rfl, xw4⟩
  clear hm_0 hm_1 hm_2 hc_0 hc_1 hc_2 hc_3 hc_4 hc_5
  have I4 := hid (hL2.out w4 4 5)
  obtain ⟨hm_0, hm_1, hm_2⟩ := (HM.out.ext (xb.out.trans (xw2.trans (xc.trans (z5.trans (xw3.trans xw4)))))).at3
  obtain ⟨hc_0, hc_1, hc_2, hc_3, hc_4, hc_5⟩ := (HC.out.ext (z5.trans (xw3.trans xw4))).at6
  go_wp2_with fail
  have z8 := (Ext.refl w4).alloc (.cells #[.int .u64 4, .int .u64 5] 22)
  refine (CD.out _ _ _ _ _ _ _ _ _ (IM.out.ext (xb.out.trans (xw2.trans (xc.trans (z5.trans (xw3.trans (xw4.trans z8))))))) (OC.out.ext (xc.trans (z5.trans (xw3.trans (xw4.trans z8))))) I4.out).mono ?_
  rintro _ w5 ⟨rfl, xw5⟩
  clear hm_0 hm_1 hm_2 hc_0 hc_1 hc_2 hc_3 hc_4 hc_5
  obtain ⟨hc_0, hc_1, hc_2, hc_3, hc_4, hc_5⟩ := (HC.out.ext (z5.trans (xw3.trans (xw4.trans (z8.trans xw5))))).at6
  go_wp2_with fail
  refine (CN.out _ _ _ _ _ _ _ (OC.out.ext (xc.trans (z5.trans (xw3.trans (xw4.trans (z8.trans xw5))))))).mono ?_
  rintro _ w6 ⟨v6, rfl, i6, xw6⟩
  have I6 := hid i6
  obtain ⟨a8, c8, rfl, -, -, -⟩ := i6
  clear hc_0 hc_1 hc_2 hc_3 hc_4 hc_5
  go_wp2_with fail
  refine (CO.out _ _ I6.out).mono ?_
  rintro _ w7 ⟨fv, hv, sv, tv, uv, vv, rfl, o7, xw7⟩
  have OD := hid o7
  obtain ⟨⟨e1, k1, rfl⟩, ⟨e2, k2, rfl⟩, ⟨e3, k3, rfl⟩, ⟨e4, k4, rfl⟩, ⟨e5, k5, rfl⟩, ⟨e6, k6, rfl⟩⟩ := o7.slices
  clear o7
  have HD0 := Blk.new w7 30 #[.slice e1 3 k1, .slice e2 1 k2, .slice e3 0 k3, .slice e4 1 k4, .slice e5 2 k5, .slice e6 2 k6]
  obtain ⟨wd, hwd⟩ : ∃ W, w7.alloc (.cells #[.slice e1 3 k1, .slice e2 1 k2, .slice e3 0 k3, .slice e4 1 k4, .slice e5 2 k5, .slice e6 2 k6] 30) = W := ⟨_, rfl⟩
  rw [hwd] at HD0
  have xd : Ext w7 wd := hwd ▸ (Ext.refl w7).alloc _
  have HD := hid HD0
  clear HD0
  obtain ⟨hc_0, hc_1, hc_2, hc_3, hc_4, hc_5⟩ := (HC.out.ext (z5.trans (xw3.trans (xw4.trans (z8.trans (xw5.trans (xw6.trans (xw7.trans xd)))))))).at6
  go_wp2_with fail
  have z13 := (Ext.refl wd).alloc (.cells #[.int .u64 1] 22)
  refine (CS.out _ _ _ ((OC.out.ext (xc.trans (z5.trans (xw3.trans (xw4.trans (z8.trans (xw5.trans (xw6.trans (xw7.trans (xd.trans z13))))))))))).h (hL1.out wd 1)).mono ?_
  rintro _ w8 ⟨rfl, xw8⟩
  clear hc_0 hc_1 hc_2 hc_3 hc_4 hc_5
  obtain ⟨hc_0, hc_1, hc_2, hc_3, hc_4, hc_5⟩ := (HC.out.ext (z5.trans (xw3.trans (xw4.trans (z8.trans (xw5.trans (xw6.trans (xw7.trans (xd.trans (z13.trans xw8)))))))))).at6
  go_wp2_with fail
  have z15 := (Ext.refl w8).alloc (.cells #[.int .u64 1] 22)
  refine (CS.out _ _ _ ((OC.out.ext (xc.trans (z5.trans (xw3.trans (xw4.trans (z8.trans (xw5.trans (xw6.trans (xw7.trans (xd.trans (z13.trans (xw8.trans z15))))))))))))).t (hL1.out w8 1)).mono ?_
  rintro _ w9 ⟨rfl, xw9⟩
  clear hc_0 hc_1 hc_2 hc_3 hc_4 hc_5
  obtain ⟨hc_0, hc_1, hc_2, hc_3, hc_4, hc_5⟩ := (HC.out.ext (z5.trans (xw3.trans (xw4.trans (z8.trans (xw5.trans (xw6.trans (xw7.trans (xd.trans (z13.trans (xw8.trans (z15.trans xw9)))))))))))).at6
  obtain ⟨hd_0, hd_1, hd_2, hd_3, hd_4, hd_5⟩ := (HD.out.ext (z13.trans (xw8.trans (z15.trans xw9)))).at6
  go_wp2_with fail
  refine (CT.out _ _ _ _ _ _ _ _ _ _ _ _ _ (OC.out.ext (xc.trans (z5.trans (xw3.trans (xw4.trans (z8.trans (xw5.trans (xw6.trans (xw7.trans (xd.trans (z13.trans (xw8.trans (z15.trans xw9))))))))))))) (OD.out.ext (xd.trans (z13.trans (xw8.trans (z15.trans xw9)))))).mono ?_
  rintro _ w10 ⟨rfl, xw10⟩
  clear hc_0 hc_1 hc_2 hc_3 hc_4 hc_5 hd_0 hd_1 hd_2 hd_3 hd_4 hd_5
  obtain ⟨hc_0, hc_1, hc_2, hc_3, hc_4, hc_5⟩ := (HC.out.ext (z5.trans (xw3.trans (xw4.trans (z8.trans (xw5.trans (xw6.trans (xw7.trans (xd.trans (z13.trans (xw8.trans (z15.trans (xw9.trans xw10))))))))))))).at6
  go_wp2_with fail
  refine (CH.out _ _ _ _ _ _ _ (OC.out.ext (xc.trans (z5.trans (xw3.trans (xw4.trans (z8.trans (xw5.trans (xw6.trans (xw7.trans (xd.trans (z13.trans (xw8.trans (z15.trans (xw9.trans xw10))))))))))))))).mono ?_
  rintro _ w11 ⟨rfl, xw11⟩
  clear hc_0 hc_1 hc_2 hc_3 hc_4 hc_5
  go_wp2_with fail
  go_ret
  exact ⟨rfl, (hW0.out.trans (xb.out.trans (xw2.trans (xc.trans (z5.trans (xw3.trans (xw4.trans (z8.trans (xw5.trans (xw6.trans (xw7.trans (xd.trans (z13.trans (xw8.trans (z15.trans (xw9.trans (xw10.trans xw11)))))))))))))))))⟩
end Go.Proofs.YtijpeepdedfhoaaGreat
