/- TapeSame: whatever the modulus, the tape, the words and the number, the law answers true, and nothing that was there has turned. No condition. -/
import Derived.Test.YtcganfmlfoebpaaTpS
import Derived.Test.YtcganfmlfoebpaaAwake10
import Derived.Test.YtcganfmlfoebpaaOpenTp
namespace Go.Proofs.Ytcganfmlfoebpaa.tapeSame
open Go.ChangeShapes Go.WideShapes Go.ChangeAt Go.RowKit Go.Maps

set_option maxRecDepth 100000 in
set_option maxHeartbeats 2000000 in
theorem walk (p k : Int) (v : Value) (xs : List Int) (va : Value) (hd : List Int) (vb : Value) (bs : List Int) (c : Int) (w : World) (wp : (Lit.int .u64 p).wf = true) (wk : (Lit.int .i64 k).wf = true) (hv : Ints .u64 w v xs) (hx : ∀ x ∈ xs, (Lit.int .u64 x).wf = true)
    (hva : Ints .u64 w va hd) (hxa : ∀ x ∈ hd, (Lit.int .u64 x).wf = true) (hvb : Ints .u64 w vb bs) (hxb : ∀ x ∈ bs, (Lit.int .u64 x).wf = true) (wc : (Lit.int .u8 c).wf = true) :
    Calls Try.prog 6 #[.int .u64 p, .agg #[v, .int .i64 k], va, vb, .int .u8 c] w (Ret (.bool true) w) := by
  have hp := u64_wf wp
  have hkw := i64_wf wk
  have hcw := u8_wf wc
  have hX : U64s xs := fun x h => u64_wf (hx x h)
  have hXa : U64s hd := fun x h => u64_wf (hxa x h)
  have hXb : U64s bs := fun x h => u64_wf (hxb x h)
  obtain ⟨i0, hi, hz0, hz1, hz2⟩ := info_parts info_u64p
  clear wp wk wc hx hxa hxb
  have CT := hid fun (W : World) (hW : Ext w W) => tpRightE (k := k) (B := tapeB k xs) rfl (hv.ext hW)
  have CR := hid fun (W : World) => right_any p W hp.1 hp.2
  have HV := hid hv; have HVA := hid hva; have HVB := hid hvb
  obtain ⟨a, cap, rfl, -, -, -⟩ := hv
  obtain ⟨aa, ca, rfl, -, -, -⟩ := hva
  obtain ⟨ab, cb, rfl, -, -, -⟩ := hvb
  have HT := hid (Blk.new w 25 #[.slice a xs.length cap, .int .i64 k])
  by_cases g1 : 60 < xs.length
  · go_enter Try.func6, Try.ntmps6
    go_wp2_with fail
    refine (awake10 _).mono ?_
    rintro _ w1 ⟨rfl, x1⟩
    obtain ⟨b0, b1⟩ := (HT.out.ext x1).at2
    go_wp2_with fail
    go_ret
    exact ⟨rfl, Ext.trans (by repeat (first | exact Ext.refl _ | assumption | refine Ext.drew ?_ | refine Ext.drewN ?_ _ | refine Ext.alloc ?_ _ | refine Ext.trans ?_ (by assumption))) x1⟩
  by_cases g2 : 60 < hd.length
  · go_enter Try.func6, Try.ntmps6
    go_wp2_with fail
    refine (awake10 _).mono ?_
    rintro _ w1 ⟨rfl, x1⟩
    obtain ⟨b0, b1⟩ := (HT.out.ext x1).at2
    go_wp2_with fail
    go_ret
    exact ⟨rfl, Ext.trans (by repeat (first | exact Ext.refl _ | assumption | refine Ext.drew ?_ | refine Ext.drewN ?_ _ | refine Ext.alloc ?_ _ | refine Ext.trans ?_ (by assumption))) x1⟩
  by_cases g3 : 60 < bs.length
  · go_enter Try.func6, Try.ntmps6
    go_wp2_with fail
    refine (awake10 _).mono ?_
    rintro _ w1 ⟨rfl, x1⟩
    obtain ⟨b0, b1⟩ := (HT.out.ext x1).at2
    go_wp2_with fail
    go_ret
    exact ⟨rfl, Ext.trans (by repeat (first | exact Ext.refl _ | assumption | refine Ext.drew ?_ | refine Ext.drewN ?_ _ | refine Ext.alloc ?_ _ | refine Ext.trans ?_ (by assumption))) x1⟩
  cases hT : tapeB k xs with
  | false =>
    rw [hT] at CT
    go_enter Try.func6, Try.ntmps6
    go_wp2_with fail
    refine (awake10 _).mono ?_
    rintro _ w1 ⟨rfl, x1⟩
    obtain ⟨b0, b1⟩ := (HT.out.ext x1).at2
    go_wp2_with fail
    refine (CT.out _ (Ext.trans (by repeat (first | exact Ext.refl _ | assumption | refine Ext.drew ?_ | refine Ext.drewN ?_ _ | refine Ext.alloc ?_ _ | refine Ext.trans ?_ (by assumption))) x1)).mono ?_
    rintro _ w2 ⟨rfl, x2⟩
    go_wp2_with fail
    go_ret
    exact ⟨rfl, (Ext.trans (by repeat (first | exact Ext.refl _ | assumption | refine Ext.drew ?_ | refine Ext.drewN ?_ _ | refine Ext.alloc ?_ _ | refine Ext.trans ?_ (by assumption))) x1).trans x2⟩
  | true =>
  rw [hT] at CT
  obtain ⟨-, K, rfl, hK⟩ := tapeB_mk hT
  cases hR : rightB p with
  | false =>
    rw [hR] at CR
    go_enter Try.func6, Try.ntmps6
    go_wp2_with fail
    refine (awake10 _).mono ?_
    rintro _ w1 ⟨rfl, x1⟩
    obtain ⟨b0, b1⟩ := (HT.out.ext x1).at2
    go_wp2_with fail
    refine (CT.out _ (Ext.trans (by repeat (first | exact Ext.refl _ | assumption | refine Ext.drew ?_ | refine Ext.drewN ?_ _ | refine Ext.alloc ?_ _ | refine Ext.trans ?_ (by assumption))) x1)).mono ?_
    rintro _ w2 ⟨rfl, x2⟩
    go_wp2_with fail
    refine (CR.out _).mono ?_
    rintro _ _ ⟨rfl, rfl⟩
    go_wp2_with fail
    go_ret
    exact ⟨rfl, (Ext.trans (by repeat (first | exact Ext.refl _ | assumption | refine Ext.drew ?_ | refine Ext.drewN ?_ _ | refine Ext.alloc ?_ _ | refine Ext.trans ?_ (by assumption))) x1).trans x2⟩
  | true =>
  rw [hR] at CR
  obtain ⟨N, hN⟩ : ∃ N, ((xs.drop K).filter (cntB p)).length = N := ⟨_, rfl⟩
  have hNl : N ≤ 60 := by
    have h1 := List.length_filter_le (cntB p) (xs.drop K)
    rw [hN, List.length_drop] at h1
    omega
  obtain ⟨kk, ek⟩ : ∃ kk : Nat, c % ((N : Int) + 1) = kk := ⟨(c % ((N : Int) + 1)).toNat, by have := Int.emod_nonneg c (show (N : Int) + 1 ≠ 0 by omega); omega⟩
  have hkN : kk ≤ N := by have := Int.emod_lt_of_pos c (show 0 < (N : Int) + 1 by omega); omega
  have hctm : c.tmod ((N : Int) + 1) = (kk : Int) := by rw [Int.tmod_eq_emod_of_nonneg hcw.1]; exact ek
  have F0 : leftN p K xs = N := by rw [left_yes (xs := xs) (by omega) hK, hN]
  obtain ⟨L, n, hn, F1, F2, F3⟩ := same_facts hR (by omega) hK (by omega) (by omega) (kk := kk) (hd := hd) (bs := bs) (by rw [hN]; exact hkN)
  obtain ⟨ws, hws⟩ : ∃ ws, xs.drop K = ws := ⟨_, rfl⟩
  rw [hws] at F2 F3
  obtain ⟨R, hRl⟩ : ∃ R, ws.length = R := ⟨_, rfl⟩
  have hRi : xs.length - K = R := by rw [← hRl, ← hws, List.length_drop]
  have hwu : U64s ws := hws ▸ hX.drop K
  obtain ⟨ys, hys⟩ : ∃ ys, hd ++ ws ++ bs = ys := ⟨_, rfl⟩
  have hyu : U64s ys := hys ▸ append_u64 (append_u64 hXa hwu) hXb
  have hyl : ys.length = hd.length + R + bs.length := by rw [← hys, List.length_append, List.length_append, hRl]
  rw [hys] at F2
  obtain ⟨V, hV⟩ : ∃ V, K + n = V := ⟨_, rfl⟩
  obtain ⟨U, hU⟩ : ∃ U, hd.length + n = U := ⟨_, rfl⟩
  rw [hV] at F1; rw [hU] at F2
  have hVi : (V : Int) - (K : Int) = (n : Int) := by omega
  have hUi : (U : Int) - (hd.length : Int) = (n : Int) := by omega
  obtain ⟨a', c', hs1, hs2, hp1⟩ := piece_run HV.out hK
  rw [hRi] at hs1 hs2 hp1
  rw [hws] at hp1
  have D0 := hid fun (W : World) (u : Value) (hu : Ints .u64 W u xs) => tpLeftE hp.1 hp.2 hX F0 hu
  have D1 := hid fun (W : World) (u : Value) (hu : Ints .u64 W u xs) => tpManyE hp.1 hp.2 (by omega) hkw hX (by omega) F1.1 F1.2.1 F1.2.2 hu
  have D2 := hid fun (W : World) (u : Value) (hu : Ints .u64 W u ys) => tpManyE hp.1 hp.2 (by omega) (by omega) hyu (by omega) F2.1 F2.2.1 F2.2.2 hu
  have CS := hid fun (W : World) (u u' : Value) (hu : Ints .u64 W u L) (hu' : Ints .u64 W u' L) => same_any u u' L L W hu hu'
  rw [decide_eq_true rfl] at CS
  have CC := hid fun (W : World) => tpCounts p 18446744073709551615 W hp.1 hp.2
  unfold RetTp at D1 D2
  have HP1 := hid hp1; have HYS := hid hys; have HRL := hid hRl
  have HWS := hid hws; have HRI := hid hRi; have HYL := hid hyl; have HWU := hid hwu
  have HF3 := hid F3
  clear F0 F1 F2 F3 hN hT hR ek hp1 hys hRl hws hRi hyl hwu hyu hV hU hX hXa hXb
  go_enter Try.func6, Try.ntmps6
  have z1 := (Ext.refl w).alloc (.cells #[.slice a xs.length cap, .int .i64 (K : Int)] 25)
  go_wp2_with fail
  refine (awake10 _).mono ?_
  rintro _ w1 ⟨rfl, xw1⟩
  obtain ⟨ht_0, ht_1⟩ := (HT.out.ext xw1).at2
  go_wp2_with fail
  refine (CT.out _ (z1.trans xw1)).mono ?_
  rintro _ w2 ⟨rfl, xw2⟩
  clear ht_0 ht_1
  go_wp2_with fail
  refine (CR.out _).mono ?_
  rintro _ _ ⟨rfl, rfl⟩
  obtain ⟨ht_0, ht_1⟩ := (HT.out.ext (xw1.trans xw2)).at2
  go_wp2_with fail
  refine (D0.out _ _ (HV.out.ext (z1.trans (xw1.trans xw2)))).mono ?_
  rintro _ w3 ⟨rfl, xw3⟩
  clear ht_0 ht_1
  obtain ⟨ht_0, ht_1⟩ := (HT.out.ext (xw1.trans (xw2.trans xw3))).at2
  go_wp2_with fail
  refine (D1.out _ _ (HV.out.ext (z1.trans (xw1.trans (xw2.trans xw3))))).mono ?_
  rintro _ q4 ⟨v4, u4, rfl, j4, i4, xq4⟩
  clear ht_0 ht_1
  have J4 := hid j4
  obtain ⟨b4, d4, rfl, -, -, -⟩ := j4
  obtain ⟨a4, c4, rfl, -, -, -⟩ := i4
  have z6 := (Ext.refl q4).alloc (.cells #[.slice a4 xs.length c4, .int .i64 (V : Int)] 25)
  have H4 := hid (Blk.new q4 25 #[.slice a4 xs.length c4, .int .i64 (V : Int)])
  go_upto_region 7 with fail
  have XW := hid ((z1.trans (xw1.trans (xw2.trans (xw3.trans (xq4.trans z6))))))
  obtain ⟨W, eW⟩ : ∃ W, (q4.alloc (.cells #[.slice a4 xs.length c4, .int .i64 (V : Int)] 25)) = W := ⟨_, rfl⟩
  have J4W := hid (J4.out.ext z6)
  have H4W := hid H4.out
  have HTW := hid (HT.out.ext (xw1.trans (xw2.trans (xw3.trans (xq4.trans z6)))))
  have HVW := hid (HV.out.ext (z1.trans (xw1.trans (xw2.trans (xw3.trans (xq4.trans z6))))))
  have HAW := hid (HVA.out.ext (z1.trans (xw1.trans (xw2.trans (xw3.trans (xq4.trans z6))))))
  have HBW := hid (HVB.out.ext (z1.trans (xw1.trans (xw2.trans (xw3.trans (xq4.trans z6))))))
  have HPW := hid (HP1.out.ext (z1.trans (xw1.trans (xw2.trans (xw3.trans (xq4.trans z6))))))
  rw [eW] at J4W H4W XW HTW HVW HAW HBW HPW
  rw [eW]
  clear eW
  obtain ⟨b0, b1⟩ := (HTW.out.ext (Ext.refl W).drew).at2
  obtain ⟨e0, e1⟩ := (HTW.out.ext ((Ext.refl W).drew.alloc (.cells #[] 22))).at2
  obtain ⟨e2, e3⟩ := (HTW.out.ext ((Ext.refl W).alloc (.cells #[] 22)).drew).at2
  have hE := hid (ownsRow_low (World.ownsRow_lit (base := W.drew.heap.size) (e := 22) (size := 1) W.drew #[] 0 (Nat.le_refl _) (by simp [maxLen]) rfl) (base' := W.heap.size) (Ext.refl W).drew.size)
  go_cut [15] from 65 to 73 (fun u w' => w'.ownsRow W.heap.size 22 1 u (hd.length + ws.length) ((hd ++ ws).map (Value.int .u64)) ∧ Ext W w')
  case first =>
    go_region_law (first
      | ((refine step_append_ints rfl (.tmp 65) (.tmp 66) 23 rfl W.heap.size 22 i0 (.int .u64 0) 8 Try.underlying23 hi hz0 hz1 hz2 rfl _ 0 _ (by first | rfl | (simp [Act.eval, Act.put]; done)) hE.out (.slice aa hd.length ca) hd (by first | rfl | (simp [Act.eval, Act.put]; done)) (HAW.out.ext ((Ext.refl W).drew.alloc _)) (by simp only [maxLen]; omega) (by omega) (((Ext.refl W).drew.alloc _).size) ?_)
         intro va wa howna hgrowa
         have xa : Ext W wa := (((Ext.refl W).drew).alloc _).grown hgrowa (fun k e => by cases e; exact (Ext.refl W).drew.size)
         obtain ⟨f0, f1⟩ := (HTW.out.ext xa).at2
         rw [Nat.zero_add, List.nil_append] at howna
         have Ha := hid howna
         obtain ⟨ax, cx, rfl, -, -, -, -⟩ := WRow.of_owns howna
         clear howna hgrowa)
      | (refine step_append_ints rfl (.tmp 67) (.tmp 72) 23 rfl W.heap.size 22 i0 (.int .u64 0) 8 Try.underlying23 hi hz0 hz1 hz2 rfl _ hd.length _ (by first | rfl | (simp [Act.eval, Act.put]; done)) Ha.out (.slice a' R c') ws (by first | rfl | (simp [Act.eval, Act.put]; done)) (HPW.out.ext xa) (by simp only [maxLen]; have := HRL.out; have := HRI.out; omega) (by have := HRL.out; have := HRI.out; omega) xa.size ?_
         intro vy wy howny hgrowy
         have xy : Ext W wy := xa.grown hgrowy (fun k e => (Ha.out.lt k e).1)
         rw [← List.map_append] at howny
         have Hy := hid howny
         clear howny hgrowy)
      | fail)
    all_goals
      go_wp2_with fail
      go_meet
      exact ⟨Hy.out, xy⟩
  case rest =>
    rename World => W8
    obtain ⟨hy8, x8⟩ := hcut
    have Hy8 := hid hy8
    obtain ⟨a8, c8, rfl, -, -, -, -⟩ := WRow.of_owns hy8
    have HB8 := hid (HBW.out.ext x8)
    have hbl : bs.length ≤ 60 := by omega
    have hwl := hid (show ws.length ≤ 60 by rw [HRL.out, ← HRI.out]; omega)
    have hwl' := hwl.out
    have hs8 := x8.size
    clear b0 b1 e0 e1 e2 e3 hE hy8
    go_wp2_with (first
      | (at_builtin; refine wpList_append_ints rfl _ _ 23 rfl W.heap.size 22 i0 (.int .u64 0) 8 Try.underlying23 hi hz0 hz1 hz2 rfl _ (hd.length + ws.length) _ rfl Hy8.out _ bs rfl HB8.out (by simp only [maxLen]; omega) (by omega) hs8 ?_
         intro vz W9 howny hgrowy
         have xz : Ext W W9 := x8.grown hgrowy (fun k e => (Hy8.out.lt k e).1)
         rw [← List.map_append, HYS.out] at howny
         have Hz := hid (own_ints howny)
         obtain ⟨az, cz, rfl, -, -, -, -⟩ := WRow.of_owns howny
         have hl9 : hd.length + ws.length + bs.length = ys.length := by rw [HYL.out, HRL.out]
         rw [hl9]
         rw [hl9] at Hz
         clear howny hgrowy hl9)
      | fail)
    refine (D2.out _ _ Hz.out).mono ?_
    rintro _ q9 ⟨u9, v9, rfl, j9, i9, x9⟩
    have J9 := hid j9
    obtain ⟨b9, d9, rfl, -, -, -⟩ := j9
    obtain ⟨a9, c9, rfl, -, -, -⟩ := i9
    have z9 := (Ext.refl q9).alloc (.cells #[.slice a9 ys.length c9, .int .i64 (U : Int)] 25)
    have xq : Ext W _ := (xz.trans x9).trans z9
    obtain ⟨t0, t1⟩ := (HTW.out.ext xq).at2
    obtain ⟨u0, u1⟩ := (H4W.out.ext xq).at2
    obtain ⟨s0, s1⟩ := (Blk.new q9 25 #[.slice a9 ys.length c9, .int .i64 (U : Int)]).at2
    go_wp2_with fail
    refine (CS.out _ _ _ (J4W.out.ext xq) (J9.out.ext z9)).mono ?_
    rintro _ qa ⟨rfl, xa⟩
    obtain ⟨t2, t3⟩ := (HTW.out.ext (xq.trans xa)).at2
    obtain ⟨u2, u3⟩ := (H4W.out.ext (xq.trans xa)).at2
    obtain ⟨s2, s3⟩ := ((Blk.new q9 25 #[.slice a9 ys.length c9, .int .i64 (U : Int)]).ext xa).at2
    go_wp2_with fail
    cases hc : cntB p 18446744073709551615 with
    | true =>
      rw [hc] at CC
      refine (CC.out _).mono ?_
      rintro _ _ ⟨rfl, rfl⟩
      go_wp2_with fail
      go_ret
      exact ⟨rfl, XW.out.trans (xq.trans xa)⟩
    | false =>
      rw [hc] at CC
      refine (CC.out _).mono ?_
      rintro _ _ ⟨rfl, rfl⟩
      obtain ⟨J, G1, G2, G3⟩ := HF3.out hc
      have hsu := slip_u64 HWU.out
      have hsl := slip_len 18446744073709551615 ws
      have D3 := hid fun (W : World) (u : Value) (hu : Ints .u64 W u (slip 18446744073709551615 ws)) => tpManyE (p := p) (n := kk) (k := 0) hp.1 hp.2 (by omega) (by omega) hsu (by omega) G1 G2 G3 hu
      unfold RetTp at D3
      have HSL := hid hsl
      have X0 := hid (xq.trans xa)
      have HTA := hid (HTW.out.ext (xq.trans xa))
      have HVA2 := hid (HVW.out.ext (xq.trans xa))
      have JA := hid (J4W.out.ext (xq.trans xa))
      have hK2 : K ≤ xs.length := hK
      clear u0 u1 s0 s1 u2 u3 s2 s3 t0 t1 G1 G2 G3 hsu hsl hc CC
      go_wp2_with fail
      clear t2 t3
      go_loopw [19, 20] (fun rv iv wr => ∃ (j i M : Nat), iv = .int .i64 i ∧ Hid (i = K + j) ∧ i ≤ xs.length ∧ Hid (M = 2 * j) ∧ M ≤ 120 ∧ Hid (wr.ownsRow qa.heap.size 22 1 rv M ((slip 18446744073709551615 (ws.take j)).map (Value.int .u64))) ∧ Ext qa wr) (fun _ iv _ => xs.length - (intOf iv).toNat)
      case atStart => exact ⟨0, K, 0, rfl, hid rfl, hK2, hid rfl, by omega, hid (World.ownsRow_nil _ _ _ _), Ext.refl _⟩
      case round =>
        obtain ⟨j, i, M, rfl, hij, hi', hM, hMl, hrow, hw⟩ := hrel
        rename World => wr
        obtain ⟨t0, t1⟩ := (HTA.out.ext hw).at2
        obtain ⟨ar, cr, rfl, -, -, -, -⟩ := WRow.of_owns hrow.out
        by_cases hlt : i < xs.length
        · obtain ⟨b, off, e9, hb, hcell⟩ : ∃ b off, a = some ⟨b, off, none⟩ ∧ b < qa.heap.size ∧ qa.cell? ⟨b, off + i, none⟩ = some (.int .u64 (xs.getD i 0)) := by
            obtain ⟨a', cap', e, -, -, h3⟩ := HVA2.out
            obtain ⟨b, off, e2, hb, hc⟩ := h3 (by omega)
            injection e with e3 _ _
            exact ⟨b, off, e3.trans e2, hb, hc i hlt⟩
          have c1 := (hw.cells _ _ hb).trans hcell
          have hjR := hid (show j < ws.length by have := hij.out; have := HRL.out; have := HRI.out; omega)
          have hget : ws.getD j 0 = xs.getD i 0 := by rw [← HWS.out, drop_get, ← hij.out]
          obtain ⟨x, ex⟩ : ∃ x, xs.getD i 0 = x := ⟨_, rfl⟩
          rw [ex] at c1 hget
          have hx0 := U64s.get HWU.out hjR.out
          rw [hget] at hx0
          subst e9
          have hnext := hid (show (slip 18446744073709551615 (ws.take j)).map (Value.int .u64) ++ [Value.int .u64 18446744073709551615, Value.int .u64 x] = (slip 18446744073709551615 (ws.take (j + 1))).map (Value.int .u64) by
            rw [take_snoc ws j hjR.out, hget, slip_snoc, List.map_append]; rfl)
          have hws8 := hw.size
          have hM2 := hid (show M + 2 ≤ 120 by have := hM.out; have := hjR.out; have := hwl.out; omega)
          have hM3 := hM2.out
          clear ex hget hcell
          go_wp2_with (first
            | (at_builtin; refine wpList_append_own _ rfl _ _ 23 rfl qa.heap.size 22 i0 (.int .u64 0) 1 8 Try.underlying23 hi hz0 hz1 hz2 rfl (by decide) _ _ _ rfl (hrow.out.alloc _) ⟨wr.heap.size, 0, none⟩ 2 2 [.int .u64 18446744073709551615, .int .u64 x] rfl rfl (cells_new _ _ _ (by simp)) (by simp [Value.oneCell']) (by simp only [maxLen]; omega) (by omega) (by simp; omega) ?_
               intro v6 w6 hown6 hgrow6 hat6)
            | fail)
          rw [hnext.out] at hown6
          go_roundw
          case rel => exact ⟨j + 1, i + 1, M + 2, by go_num, hid (by have := hij.out; omega), by omega, hid (by have := hM.out; omega), by omega, hid hown6, (hw.alloc _).grown hgrow6 (fun b e => (hrow.out.lt b e).1)⟩
          case measure => simp [intOf]; omega
        · obtain rfl : xs.length = i := by omega
          have hjR := hid (show j = ws.length by have := hij.out; have := HRL.out; have := HRI.out; omega)
          have hI := hid (show Ints .u64 wr (.slice ar M cr) (slip 18446744073709551615 ws) by
            have h := own_ints hrow.out
            rw [hjR.out, List.take_length] at h
            exact h)
          clear hrow
          go_wp2_with fail
          refine (D3.out _ _ hI.out).mono ?_
          rintro _ qc ⟨uc, vc, rfl, jc, ic, xc⟩
          have JC := hid jc
          obtain ⟨bc, dc, rfl, -, -, -⟩ := jc
          obtain ⟨ac, cc, rfl, -, -, -⟩ := ic
          have zc := (Ext.refl qc).alloc (.cells #[.slice ac (slip 18446744073709551615 ws).length cc, .int .i64 (J : Int)] 25)
          go_wp2_with fail
          refine (CS.out _ _ _ (JC.out.ext zc) (JA.out.ext ((hw.trans xc).trans zc))).mono ?_
          rintro _ qd ⟨rfl, xd⟩
          go_wp2_with fail
          go_ret
          exact ⟨rfl, (XW.out.trans X0.out).trans (((hw.trans xc).trans zc).trans xd)⟩
theorem own : ownKnob Try.prog.godebug = none := by kernel_rfl
set_option maxRecDepth 100000 in
theorem lifted (os : Os) (started : os.Started) (H : Type) (enc : TypeId × Value → H) :
    ReturnsInHanded {} Try.checked os 6 .any (Rows.tapeSameSpec.pre6 enc Try.prog Try.f6 Rows.tapeSameRow.domain false) (Rows.tapeSameSpec.post enc Try.prog Try.f6 false true false false) := by
  refine returnsInHanded_of_change (C := Try.checked) own started (by kernel_rfl) Try.func6
    (ChangeSpec.witness6 (enc := enc) (C := Try.checked) false ⟨#[], #[.int .u64 0, .agg #[.slice none 0 0, .int .i64 0], .slice none 0 0, .slice none 0 0, .int .u8 0], []⟩ 8 (by kernel_rfl) (by kernel_rfl) (by kernel_rfl) (by kernel_rfl)) ?_
  intro W base args ds gs before hval0 hW _ _
  have hval : ∀ (j : Nat) t v, Try.f6.params[j]? = some t → args[j]? = some v → Value.okWide Try.prog W .any base t v := hval0
  have hW' := hW
  obtain ⟨p, q, hA0, hV, rfl, _, _⟩ := hW
  have hA : DataW.TrodAll enc Try.prog W 0 (fun _ => true) true Try.f6.params.toList args.toList ds p := hA0
  rw [Try.params6] at hA hval
  obtain ⟨v0, vs0, d0, ds0, p0, q0, hargs, rfl, rfl, h0, r0⟩ := trodAll_cons hA
  obtain ⟨v1, vs1, d1, ds1, p1, q1, rfl, rfl, rfl, h1, r1⟩ := trodAll_cons r0
  obtain ⟨v2, vs2, d2, ds2, p2, q2, rfl, rfl, rfl, h2, r2⟩ := trodAll_cons r1
  obtain ⟨v3, vs3, d3, ds3, p3, q3, rfl, rfl, rfl, h3, r3⟩ := trodAll_cons r2
  obtain ⟨v4, vs4, d4, ds4, p4, q4, rfl, rfl, rfl, h4, r4⟩ := trodAll_cons r3
  obtain ⟨rfl, rfl, rfl⟩ := trodAll_nil r4
  obtain rfl : args = #[v0, v1, v2, v3, v4] := by cases args; simp_all
  obtain ⟨rfl, rfl⟩ := trodVars_none hV
  obtain ⟨a0, rfl, rfl, rfl, w0⟩ := open_int Try.underlying22 (hval 0 22 v0 rfl rfl) h0
  obtain ⟨tu1, xs1, tk1, rfl, i1, w1, wk1⟩ := open_Tape (hval 1 25 v1 rfl rfl) h1
  obtain ⟨xs2, i2, w2⟩ := open_Ints Try.underlying23 Try.underlying22 (by kernel_rfl) (hval 2 23 v2 rfl rfl) h2
  obtain ⟨xs3, i3, w3⟩ := open_Ints Try.underlying23 Try.underlying22 (by kernel_rfl) (hval 3 23 v3 rfl rfl) h3
  obtain ⟨a4, rfl, rfl, rfl, w4⟩ := open_int Try.underlying5 (hval 4 5 v4 rfl rfl) h4
  refine (walk a0 tk1 tu1 xs1 v2 xs2 v3 xs3 a4 W w0 wk1 i1 w1 i2 w2 i3 w3 w4).mono fun e W' ⟨he, hg⟩ => ⟨_, he, ?_⟩
  exact law_post (by kernel_rfl) (by kernel_rfl) rfl Try.underlying4 rfl rfl hW' hg

/-- the statement -/
theorem proved : Rows.TapeSameSaid :=
  OpenClaim.holds_of_wide 6 Try.f6 rfl rfl rfl rfl rfl rfl rfl ⟨rfl, rfl, rfl, rfl, rfl⟩ rfl rfl rfl rfl rfl (by kernel_rfl) Try.func6 (by kernel_rfl)
    (of_decide_eq_true (by kernel_rfl)) (by unfold Func.isWrapper; first | (rw [if_pos (by decide +kernel)]; kernel_rfl) | (rw [if_neg (by decide +kernel)]; exact ⟨rfl, rfl⟩))
    (fun os started H enc _ => lifted os started H enc)
end Go.Proofs.Ytcganfmlfoebpaa.tapeSame
