/- FrameRight: whatever the frame and the bytes, the law answers true, and nothing that was there has turned. No condition. -/
import Derived.Test.YticabjdcegimcaaFrameReads
import Derived.Test.YticabjdcegimcaaFr4
namespace Go.Proofs.Yticabjdcegimcaa.frameRight
open Go.ChangeShapes Go.WideShapes Go.ChangeAt Go.RowKit Go.Maps

theorem calls_ret {P : Program} {f : FuncId} {args : Array Value} {v : Value} {w : World} (h : Calls P f args w fun e w' => e = .returned v ∧ w = w') : Calls P f args w (Ret v w) :=
  h.mono fun _ _ ⟨he, hw⟩ => ⟨he, hw ▸ Ext.refl _⟩
set_option maxRecDepth 100000 in
set_option maxHeartbeats 2000000 in
theorem walk_skip (f : Frm) (fu v : Value) (xs : List Int) (w : World) (hf : Ints .u64 w fu f.body) (hv : Ints .u8 w v xs) (hl : 300 < f.body.length ∨ 3000 < xs.length) :
    Calls Try.prog 3 #[frmV f fu, v] w (Ret (.bool true) w) := by
  obtain ⟨k, r, m, l⟩ := f
  obtain ⟨a, cap, rfl, h1, h2⟩ := hf.shape
  obtain ⟨a', cap', rfl, h1', h2'⟩ := hv.shape
  clear hf hv
  have hl : 300 < l.length ∨ 3000 < xs.length := hl
  have hB := hid (Blk.new w 25 #[.int .i64 k, .int .i64 r, .int .u32 m, .slice a l.length cap])
  show Calls _ _ #[.agg #[.int .i64 k, .int .i64 r, .int .u32 m, .slice a l.length cap], .slice a' xs.length cap'] w _
  by_cases g1 : 300 < l.length
  · clear hl
    go_enter Try.func3, Try.ntmps3
    go_wp2_with (go_at_call 7; refine (awake11 _).mono ?_; rintro _ w1 ⟨rfl, x1⟩; obtain ⟨-, -, -, f3⟩ := (hB.out.ext x1).at4)
    go_ret
    exact ⟨rfl, ((Ext.refl w).alloc _).trans x1⟩
  · have g2 : 3000 < xs.length := by omega
    clear hl
    go_enter Try.func3, Try.ntmps3
    go_wp2_with (go_at_call 7; refine (awake11 _).mono ?_; rintro _ w1 ⟨rfl, x1⟩; obtain ⟨-, -, -, f3⟩ := (hB.out.ext x1).at4)
    go_ret
    exact ⟨rfl, ((Ext.refl w).alloc _).trans x1⟩
theorem nx_le {xs : List Int} (hx : Byt xs) (h : nextE xs = 0) : nxN xs ≤ xs.length := by
  obtain ⟨h1, h2, h3, -⟩ := nextE_ok h
  rw [(nx_yes h).2]
  have := hx.get 7; have := hx.get 8
  have : 0 ≤ cntF xs := by unfold cntF; omega
  omega
set_option maxRecDepth 100000 in
set_option maxHeartbeats 4000000 in
theorem walk_all (f : Frm) (fu v : Value) (xs : List Int) (w : World) (okf : f.Ok) (hf : Ints .u64 w fu f.body) (hv : Ints .u8 w v xs) (hx : Byt xs) (hl : ¬ 300 < f.body.length) (hl' : ¬ 3000 < xs.length) :
    Calls Try.prog 3 #[frmV f fu, v] w (Ret (.bool true) w) := by
  have CF := hid fun (W : World) (hW : Ext w W) => frPut f fu W okf (hf.ext hW)
  have CF2 := hid fun (W : World) (hW : Ext w W) => r11Put f fu W okf (hf.ext hW)
  have CM := hid fun (W : World) (hW : Ext w W) => frMay f fu W (hf.ext hW)
  have CM2 := hid fun (W : World) (hW : Ext w W) => r11May f fu W (hf.ext hW)
  have CN := hid fun (W : World) (hW : Ext w W) => frNext v xs W (hv.ext hW) hx (by omega)
  have CN2 := hid fun (W : World) (hW : Ext w W) => r11Next v xs W (hv.ext hW) hx (by omega)
  have CR := hid fun (W : World) (hW : Ext w W) => frRead v xs W (hv.ext hW) hx (by omega)
  have CS := hid fun (W : World) (hW : Ext w W) => frSum v xs W (hv.ext hW) hx
  have CS2 := hid fun (W : World) (hW : Ext w W) => r11Sum v xs W (hv.ext hW) hx
  have hle := nx_le hx
  unfold RetPut at CF CF2
  unfold RetNx at CN CN2
  unfold RetRd at CR
  have hr1 : nextE xs ≠ 0 → rdE xs = nextE xs ∧ rdF xs = Frm.zero := fun h => by
    unfold rdE rdF
    rw [if_neg (fun q => h q.1), if_neg (fun q => h q.1)]
    exact ⟨rfl, (nx_no rfl h).1⟩
  have hr2 : nextE xs = 0 → nxN xs ≠ xs.length → rdE xs = 2 ∧ rdF xs = Frm.zero := fun h hn => by
    have := hle h
    unfold rdE rdF
    rw [if_pos ⟨h, by omega⟩, if_pos ⟨h, by omega⟩]
    exact ⟨rfl, rfl⟩
  have hr3 : nextE xs = 0 → nxN xs = xs.length → rdE xs = 0 ∧ rdF xs = nxF xs := fun h hn => by
    unfold rdE rdF
    rw [if_neg (by omega), if_neg (by omega)]
    exact ⟨h, rfl⟩
  have SF := hid fun (W : World) (v u : Value) (hv : Ints .u64 W v (nxF xs).body) (hu : Ints .u64 W u (nxF xs).body) => r11Same (nxF xs) (nxF xs) v u W hv hu
  rw [decide_eq_true (rfl : nxF xs = nxF xs)] at SF
  have CZ := hid fun (W : World) (u : Value) (hu : Ints .u64 W u []) => r11Same Frm.zero Frm.zero u (.slice none 0 0) W hu Ints.nil
  rw [decide_eq_true (rfl : Frm.zero = Frm.zero)] at CZ
  obtain ⟨a, cap, rfl, h1, h2⟩ := hf.shape
  obtain ⟨a', cap', rfl, h1', h2'⟩ := hv.shape
  have hnn := nextE_range xs
  obtain ⟨PZ, ePZ⟩ : ∃ x, putZ f = x := ⟨_, rfl⟩
  obtain ⟨PE, ePE⟩ : ∃ x, putE f = x := ⟨_, rfl⟩
  obtain ⟨MF, eMF⟩ : ∃ x, mayF f = x := ⟨_, rfl⟩
  obtain ⟨SM, eSM⟩ : ∃ x, sumZ xs = x := ⟨_, rfl⟩
  obtain ⟨E, eE⟩ : ∃ x, nextE xs = x := ⟨_, rfl⟩
  obtain ⟨n, en⟩ : ∃ x, nxN xs = x := ⟨_, rfl⟩
  obtain ⟨F, eF⟩ : ∃ x, nxF xs = x := ⟨_, rfl⟩
  obtain ⟨RE, eRE⟩ : ∃ x, rdE xs = x := ⟨_, rfl⟩
  obtain ⟨RF, eRF⟩ : ∃ x, rdF xs = x := ⟨_, rfl⟩
  rw [ePZ, ePE] at CF CF2
  rw [eMF] at CM CM2
  rw [eSM] at CS CS2
  rw [eE, en, eF] at CN CN2
  rw [eRE, eRF] at CR
  rw [eF] at SF
  rw [eE, eRE, eRF] at hr1
  rw [eE, en, eRE, eRF] at hr2
  rw [eE, en, eRE, eRF, eF] at hr3
  have HR1 := hid hr1; have HR2 := hid hr2; have HR3 := hid hr3
  clear okf hf hv hx hle ePZ ePE eMF eSM eE en eF eRE eRF hnn hr1 hr2 hr3
  obtain ⟨fk, fr, fm, fl⟩ := f
  obtain ⟨k, r, m, l⟩ := F
  obtain ⟨rk, rr, rm, rl⟩ := RF
  replace hl : ¬ 300 < fl.length := hl
  replace h1 : fl.length ≤ cap := h1
  have hB := hid (Blk.new w 25 #[.int .i64 fk, .int .i64 fr, .int .u32 fm, .slice a fl.length cap])
  show Calls _ _ #[.agg #[.int .i64 fk, .int .i64 fr, .int .u32 fm, .slice a fl.length cap], .slice a' xs.length cap'] w _
  replace CF : Hid (∀ W, Ext w W → Calls Try.prog 8 #[.agg #[.int .i64 fk, .int .i64 fr, .int .u32 fm, .slice a fl.length cap]] W fun e w' => ∃ v, e = .returned (.tuple #[v, .int .i64 PE]) ∧ w'.ownsRow W.heap.size 5 1 v PZ.length (PZ.map (Value.int .u8)) ∧ Ext W w') := CF
  replace CF2 : Hid (∀ W, Ext w W → Calls Try.prog 9 #[.agg #[.int .i64 fk, .int .i64 fr, .int .u32 fm, .slice a fl.length cap]] W fun e w' => ∃ v, e = .returned (.tuple #[v, .int .i64 PE]) ∧ w'.ownsRow W.heap.size 5 1 v PZ.length (PZ.map (Value.int .u8)) ∧ Ext W w') := CF2
  replace CM : Hid (∀ W, Ext w W → Calls Try.prog 13 #[.agg #[.int .i64 fk, .int .i64 fr, .int .u32 fm, .slice a fl.length cap]] W (Ret (.bool MF) W)) := CM
  replace CM2 : Hid (∀ W, Ext w W → Calls Try.prog 14 #[.agg #[.int .i64 fk, .int .i64 fr, .int .u32 fm, .slice a fl.length cap]] W (Ret (.bool MF) W)) := CM2
  replace CN : Hid (∀ W, Ext w W → Calls Try.prog 10 #[.slice a' xs.length cap'] W fun e w' => ∃ u, e = .returned (.tuple #[.agg #[.int .i64 k, .int .i64 r, .int .u32 m, u], .int .i64 n, .int .i64 E]) ∧ w'.ownsRow W.heap.size 48 1 u l.length (l.map (Value.int .u64)) ∧ Ext W w') := CN
  replace CN2 : Hid (∀ W, Ext w W → Calls Try.prog 11 #[.slice a' xs.length cap'] W fun e w' => ∃ u, e = .returned (.tuple #[.agg #[.int .i64 k, .int .i64 r, .int .u32 m, u], .int .i64 n, .int .i64 E]) ∧ w'.ownsRow W.heap.size 48 1 u l.length (l.map (Value.int .u64)) ∧ Ext W w') := CN2
  replace CR : Hid (∀ W, Ext w W → Calls Try.prog 12 #[.slice a' xs.length cap'] W fun e w' => ∃ u, e = .returned (.tuple #[.agg #[.int .i64 rk, .int .i64 rr, .int .u32 rm, u], .int .i64 RE]) ∧ w'.ownsRow W.heap.size 48 1 u rl.length (rl.map (Value.int .u64)) ∧ Ext W w') := CR
  replace SF : Hid (∀ W v u, Ints .u64 W v l → Ints .u64 W u l → Calls Try.prog 17 #[.agg #[.int .i64 k, .int .i64 r, .int .u32 m, v], .agg #[.int .i64 k, .int .i64 r, .int .u32 m, u]] W (Ret (.bool true) W)) := SF
  replace CZ : Hid (∀ W u, Ints .u64 W u [] → Calls Try.prog 17 #[.agg #[.int .i64 0, .int .i64 0, .int .u32 0, u], .agg #[.int .i64 0, .int .i64 0, .int .u32 0, .slice none 0 0]] W (Ret (.bool true) W)) := CZ
  go_enter Try.func3, Try.ntmps3
  go_wp2_with (go_at_call 7; refine (awake11 _).mono ?_; rintro _ w1 ⟨rfl, x1⟩; obtain ⟨f0, f1, f2, f3⟩ := (hB.out.ext x1).at4)
  clear f0 f1 f2 f3
  have z1 : Ext w w1 := ((Ext.refl w).alloc _).trans x1
  refine (CF.out _ z1).mono ?_
  rintro _ w2 ⟨v2, rfl, o2, x2⟩
  obtain ⟨a2, c2, e2, -, -⟩ := own_nums o2
  subst e2
  obtain ⟨f0, f1, f2, f3⟩ := (hB.out.ext (x1.trans x2)).at4
  have O2 := hid o2
  clear o2
  go_wp2_with fail
  clear f0 f1 f2 f3
  refine (CF2.out _ (z1.trans x2)).mono ?_
  rintro _ w3 ⟨v3, rfl, o3, x3⟩
  obtain ⟨a3, c3, e3, -, -⟩ := own_nums o3
  subst e3
  have O3 := hid o3
  have z3 := (z1.trans x2).trans x3
  clear o3
  go_wp2_with fail
  refine (CN.out _ z3).mono ?_
  rintro _ w4 ⟨v4, rfl, o4, x4⟩
  obtain ⟨ag, cg, e4, -, -⟩ := own_nums o4
  subst e4
  obtain ⟨w5, hw5⟩ : ∃ w5, w4.alloc (.cells #[.int .i64 k, .int .i64 r, .int .u32 m, .slice ag l.length cg] 25) = w5 := ⟨_, rfl⟩
  have x5 : Ext w4 w5 := hw5 ▸ (Ext.refl w4).alloc _
  have HG5 := hid (show Blk w5 w4.heap.size 25 #[.int .i64 k, .int .i64 r, .int .u32 m, .slice ag l.length cg] from hw5 ▸ Blk.new w4 _ _)
  have IG5 := hid (own_read (ownsRow_ext o4 x5))
  have x35 := x4.trans x5
  clear o4
  go_wp2_with fail
  clear hw5
  refine (CN2.out _ (z3.trans x35)).mono ?_
  rintro _ w6 ⟨v6, rfl, o6, x6⟩
  obtain ⟨ak, ck, e6, -, -⟩ := own_nums o6
  subst e6
  obtain ⟨w7, hw7⟩ : ∃ w7, w6.alloc (.cells #[.int .i64 k, .int .i64 r, .int .u32 m, .slice ak l.length ck] 25) = w7 := ⟨_, rfl⟩
  have x7 : Ext w6 w7 := hw7 ▸ (Ext.refl w6).alloc _
  have HK7 := hid (show Blk w7 w6.heap.size 25 #[.int .i64 k, .int .i64 r, .int .u32 m, .slice ak l.length ck] from hw7 ▸ Blk.new w6 _ _)
  have IK7 := hid (own_read (ownsRow_ext o6 x7))
  have x57 := x6.trans x7
  clear o6
  go_wp2_with fail
  clear hw7
  refine (CR.out _ (z3.trans (x35.trans x57))).mono ?_
  rintro _ w8 ⟨v8, rfl, o8, x8⟩
  obtain ⟨ar, cr, e8, -, -⟩ := own_nums o8
  subst e8
  obtain ⟨W, hW⟩ : ∃ W, w8.alloc (.cells #[.int .i64 rk, .int .i64 rr, .int .u32 rm, .slice ar rl.length cr] 25) = W := ⟨_, rfl⟩
  have x9 : Ext w8 W := hW ▸ (Ext.refl w8).alloc _
  have HRW := hid (show Blk W w8.heap.size 25 #[.int .i64 rk, .int .i64 rr, .int .u32 rm, .slice ar rl.length cr] from hW ▸ Blk.new w8 _ _)
  have IRW := hid (own_read (ownsRow_ext o8 x9))
  have x7W := x8.trans x9
  have x3W := x35.trans (x57.trans x7W)
  clear o8
  go_wp2_with fail
  clear hW
  have HFW := hid (hB.out.ext (x1.trans (x2.trans (x3.trans x3W))))
  have HGW := hid (HG5.out.ext (x57.trans x7W))
  have HKW := hid (HK7.out.ext x7W)
  have IGW := hid (IG5.out.ext (x57.trans x7W))
  have IKW := hid (IK7.out.ext x7W)
  have zW := z3.trans x3W
  have hS1 := hid fun (w' : World) (h : Ext W w') => str_bytes ((own_read O2.out).ext ((x3.trans x3W).trans h))
  have hS2 := hid fun (w' : World) (h : Ext W w') => str_bytes ((own_read O3.out).ext (x3W.trans h))
  go_cut [94] from 55 to 93 (fun c w' => c = .bool false ∧ Ext W w')
  case first =>
    refine region_ext W (by kernel_rfl) (by kernel_rfl) (Ext.refl _) ?_
    iterate 1
      refine wpQuiet_step (fun K hK => ?_)
      go_simp
      refine ⟨_, fun _ _ => rfl, hK _ ?_⟩
      clear hK K
    refine wpQuiet_step (fun K hK => ?_)
    go_simp
    refine ⟨(.string (strOfNums PZ)), fun w' h => ?_, hK _ ?_⟩
    · have t0 := hS1.out w' h
      simp [t0, Result.andThen]
    clear hK K
    iterate 1
      refine wpQuiet_step (fun K hK => ?_)
      go_simp
      refine ⟨_, fun _ _ => rfl, hK _ ?_⟩
      clear hK K
    refine wpQuiet_step (fun K hK => ?_)
    go_simp
    refine ⟨(.string (strOfNums PZ)), fun w' h => ?_, hK _ ?_⟩
    · have t0 := hS2.out w' h
      simp [t0, Result.andThen]
    clear hK K
    iterate 7
      refine wpQuiet_step (fun K hK => ?_)
      go_simp
      refine ⟨_, fun _ _ => rfl, hK _ ?_⟩
      clear hK K
    refine wpQuiet_step (fun K hK => ?_)
    go_simp
    refine ⟨(.agg #[.int .i64 fk, .int .i64 fr, .int .u32 fm, .slice a fl.length cap]), fun w' h => ?_, hK _ ?_⟩
    · obtain ⟨t0, t1, t2, t3⟩ := (HFW.out.ext h).at4
      simp [t0, t1, t2, t3, Result.andThen]
    clear hK K
    refine wpQuiet_step (fun K hK => ?_)
    go_simp
    refine ⟨(.bool MF), fun w' h => ?_, hK _ ?_⟩
    · exact quiet_e h (CM.out _ (zW.trans h))
    clear hK K
    refine wpQuiet_step (fun K hK => ?_)
    go_simp
    refine ⟨(.agg #[.int .i64 fk, .int .i64 fr, .int .u32 fm, .slice a fl.length cap]), fun w' h => ?_, hK _ ?_⟩
    · obtain ⟨t0, t1, t2, t3⟩ := (HFW.out.ext h).at4
      simp [t0, t1, t2, t3, Result.andThen]
    clear hK K
    refine wpQuiet_step (fun K hK => ?_)
    go_simp
    refine ⟨(.bool MF), fun w' h => ?_, hK _ ?_⟩
    · exact quiet_e h (CM2.out _ (zW.trans h))
    clear hK K
    iterate 4
      refine wpQuiet_step (fun K hK => ?_)
      go_simp
      refine ⟨_, fun _ _ => rfl, hK _ ?_⟩
      clear hK K
    refine wpQuiet_step (fun K hK => ?_)
    go_simp
    refine ⟨(.int .i64 SM), fun w' h => ?_, hK _ ?_⟩
    · exact quiet_e h (calls_ret (CS.out _ (zW.trans h)))
    clear hK K
    iterate 1
      refine wpQuiet_step (fun K hK => ?_)
      go_simp
      refine ⟨_, fun _ _ => rfl, hK _ ?_⟩
      clear hK K
    refine wpQuiet_step (fun K hK => ?_)
    go_simp
    refine ⟨(.int .i64 SM), fun w' h => ?_, hK _ ?_⟩
    · exact quiet_e h (calls_ret (CS2.out _ (zW.trans h)))
    clear hK K
    iterate 3
      refine wpQuiet_step (fun K hK => ?_)
      go_simp
      refine ⟨_, fun _ _ => rfl, hK _ ?_⟩
      clear hK K
    refine wpQuiet_step (fun K hK => ?_)
    go_simp
    refine ⟨(.agg #[.int .i64 k, .int .i64 r, .int .u32 m, .slice ag l.length cg]), fun w' h => ?_, hK _ ?_⟩
    · obtain ⟨t0, t1, t2, t3⟩ := (HGW.out.ext h).at4
      simp [t0, t1, t2, t3, Result.andThen]
    clear hK K
    refine wpQuiet_step (fun K hK => ?_)
    go_simp
    refine ⟨(.agg #[.int .i64 k, .int .i64 r, .int .u32 m, .slice ak l.length ck]), fun w' h => ?_, hK _ ?_⟩
    · obtain ⟨t0, t1, t2, t3⟩ := (HKW.out.ext h).at4
      simp [t0, t1, t2, t3, Result.andThen]
    clear hK K
    refine wpQuiet_step (fun K hK => ?_)
    go_simp
    refine ⟨(.bool true), fun w' h => ?_, hK _ ?_⟩
    · exact quiet_e h (SF.out _ _ _ (IGW.out.ext h) (IKW.out.ext h))
    clear hK K
    iterate 12
      refine wpQuiet_step (fun K hK => ?_)
      go_simp
      refine ⟨_, fun _ _ => rfl, hK _ ?_⟩
      clear hK K
    refine wpQuiet_nil ?_
    intro w' hw'
    go_wp2_with fail
    go_meet
    exact ⟨by simp, hw'⟩
  case rest =>
    obtain ⟨rfl, xc⟩ := hcut
    rename World => Wc
    have zc := zW.trans xc
    obtain ⟨q0, q1, q2, q3⟩ := (HRW.out.ext xc).at4
    have IRc := hid (IRW.out.ext xc)
    clear hS1 hS2 CF CF2 CM CM2 CN CN2 CR CS CS2
    by_cases hE : E = 0
    · by_cases hn : n = xs.length
      · obtain ⟨e1, e2⟩ := HR3.out hE hn
        injection e2 with e3 e4 e5 e6
        subst e1; subst e3; subst e4; subst e5; subst e6
        have hb1 : (E != 0) = false := by simp [hE]
        have hb2 : (n != (xs.length : Int)) = false := by simp [hn]
        obtain ⟨p0, p1, p2, p3⟩ := (HGW.out.ext xc).at4
        have IGc := hid (IGW.out.ext xc)
        clear hE hn HR1 HR2 HR3
        go_wp2_with fail
        refine (SF.out _ _ _ IRc.out IGc.out).mono ?_
        rintro _ w10 ⟨rfl, x10⟩
        go_wp2_with fail
        go_ret
        exact ⟨rfl, zc.trans x10⟩
      · obtain ⟨e1, e2⟩ := HR2.out hE hn
        injection e2 with e3 e4 e5 e6
        subst e1; subst e3; subst e4; subst e5; subst e6
        have hb1 : (E != 0) = false := by simp [hE]
        have hb2 : (n != (xs.length : Int)) = true := by simp [hn]
        clear hE hn HR1 HR2 HR3
        go_wp2_with fail
        refine (CZ.out _ _ IRc.out).mono ?_
        rintro _ w10 ⟨rfl, x10⟩
        go_wp2_with fail
        go_ret
        exact ⟨rfl, zc.trans x10⟩
    · obtain ⟨e1, e2⟩ := HR1.out hE
      injection e2 with e3 e4 e5 e6
      subst e1; subst e3; subst e4; subst e5; subst e6
      have hb1 : (RE != 0) = true := by simp [hE]
      clear hE HR1 HR2 HR3
      go_wp2_with fail
      refine (CZ.out _ _ IRc.out).mono ?_
      rintro _ w10 ⟨rfl, x10⟩
      go_wp2_with fail
      go_ret
      exact ⟨rfl, zc.trans x10⟩
theorem walk (f : Frm) (fu v : Value) (xs : List Int) (w : World) (okf : f.Ok) (hf : Ints .u64 w fu f.body) (hv : Ints .u8 w v xs) (hx : ∀ x ∈ xs, (Lit.int .u8 x).wf = true) :
    Calls Try.prog 3 #[frmV f fu, v] w (Ret (.bool true) w) := by
  by_cases h1 : 300 < f.body.length
  · exact walk_skip f fu v xs w hf hv (.inl h1)
  by_cases h2 : 3000 < xs.length
  · exact walk_skip f fu v xs w hf hv (.inr h2)
  exact walk_all f fu v xs w okf hf hv (byt_of hx) h1 h2
theorem own : ownKnob Try.prog.godebug = none := by kernel_rfl
set_option maxRecDepth 100000 in
theorem lifted (os : Os) (started : os.Started) (H : Type) (enc : TypeId × Value → H) :
    ReturnsInHanded {} Try.checked os 3 .any (Rows.frameRightSpec.pre6 enc Try.prog Try.f3 Rows.frameRightRow.domain false) (Rows.frameRightSpec.post enc Try.prog Try.f3 false true false false) := by
  refine returnsInHanded_of_change (C := Try.checked) own started (by kernel_rfl) Try.func3
    (ChangeSpec.witness6 (enc := enc) (C := Try.checked) false ⟨#[], #[.agg #[.int .i64 0, .int .i64 0, .int .u32 0, .slice none 0 0], .slice none 0 0], []⟩ 8 (by kernel_rfl) (by kernel_rfl) (by kernel_rfl) (by kernel_rfl)) ?_
  intro W base args ds gs before hval0 hW _ _
  have hval : ∀ (j : Nat) t v, Try.f3.params[j]? = some t → args[j]? = some v → Value.okWide Try.prog W .any base t v := hval0
  have hW' := hW
  obtain ⟨p, q, hA0, hV, rfl, _, _⟩ := hW
  have hA : DataW.TrodAll enc Try.prog W 0 (fun _ => true) true Try.f3.params.toList args.toList ds p := hA0
  rw [Try.params3] at hA hval
  obtain ⟨v0, vs0, d0, ds0, p0, q0, hargs, rfl, rfl, h0, r0⟩ := trodAll_cons hA
  obtain ⟨v1, vs1, d1, ds1, p1, q1, rfl, rfl, rfl, h1, r1⟩ := trodAll_cons r0
  obtain ⟨rfl, rfl, rfl⟩ := trodAll_nil r1
  obtain rfl : args = #[v0, v1] := by cases args; simp_all
  obtain ⟨rfl, rfl⟩ := trodVars_none hV
  obtain ⟨f0, fu0, rfl, ok0, i0⟩ := open_Frame (hval 0 25 v0 rfl rfl) h0
  obtain ⟨xs1, i1, w1⟩ := open_Ints Try.underlying26 Try.underlying5 (by kernel_rfl) (hval 1 26 v1 rfl rfl) h1
  refine (walk f0 fu0 v1 xs1 W ok0 i0 i1 w1).mono fun e W' ⟨he, hg⟩ => ⟨_, he, ?_⟩
  exact law_post (by kernel_rfl) (by kernel_rfl) rfl Try.underlying4 rfl rfl hW' hg

/-- the statement -/
theorem proved : Rows.FrameRightSaid :=
  OpenClaim.holds_of_wide 3 Try.f3 rfl rfl rfl rfl rfl rfl rfl ⟨rfl, rfl, rfl, rfl, rfl⟩ rfl rfl rfl rfl rfl (by kernel_rfl) Try.func3 (by kernel_rfl)
    (of_decide_eq_true (by kernel_rfl)) (by unfold Func.isWrapper; first | (rw [if_pos (by decide +kernel)]; kernel_rfl) | (rw [if_neg (by decide +kernel)]; exact ⟨rfl, rfl⟩))
    (fun os started H enc _ => lifted os started H enc)
end Go.Proofs.Yticabjdcegimcaa.frameRight
