/- Package matrix, thin matrices: SparseLeft. -/
import Derived.Test.YtlociefncogjeaaMxC
namespace Go.Proofs.Ytlociefncogjeaa
open Go.RowKit Go.Maps

set_option maxHeartbeats 1000000 in
theorem mxSparseLeft_no (p r c : Int) (vb vc vv u : Value) (bs cs vs ys : List Int) (w : World) (h0 : 0 ≤ p) (h1 : p ≤ 18446744073709551615) (hb : Ints .i64 w vb bs) (hc : Ints .i64 w vc cs) (hv : Ints .u64 w vv vs) (hx : U64s vs) (hu : Ints .u64 w u ys) (hy : U64s ys) (h : ¬ (SpIs p r c bs cs vs ∧ vecB p r ys = true)) :
    Calls Try.prog 29 #[.int .u64 p, u, spV r c vb vc vv] w (Ret (.tuple #[.slice none 0 0, .int .i64 1]) w) := by
  have C1 := hid fun (W : World) (hW : Ext w W) => mxSparse p r c vb vc vv bs cs vs W h0 h1 (hb.ext hW) (hc.ext hW) (hv.ext hW) hx
  have C2 := hid fun (W : World) (hW : Ext w W) => mxVector p r u ys W h0 h1 (hu.ext hW) hy
  unfold spV at C1
  unfold spV
  obtain ⟨a1, c1, rfl, k1, k2, k3⟩ := hb
  obtain ⟨a2, c2, rfl, l1, l2, l3⟩ := hc
  obtain ⟨a3, c3, rfl, m1, m2, m3⟩ := hv
  have hbox := hid (box5 w 28 (.int .i64 r) (.int .i64 c) (.slice a1 bs.length c1) (.slice a2 cs.length c2) (.slice a3 vs.length c3))
  clear k3 l3 m3 hx hu hy
  by_cases g : SpIs p r c bs cs vs
  · have C1' := hid fun W hW => (C1.out W hW).mono fun _ _ k => k.yes g
    have e : vecB p r ys = false := Bool.eq_false_iff.2 fun e => h ⟨g, e⟩
    rw [e] at C2
    clear C1 g h e
    go_enter Try.func29, Try.ntmps29
    go_wp2_with (first
      | (go_at_call 18; refine (C1'.out _ (by repeat (first | exact Ext.refl _ | assumption | refine Ext.drew ?_ | refine Ext.drewN ?_ _ | refine Ext.alloc ?_ _ | refine Ext.trans ?_ (by assumption)))).mono ?_; rintro _ w1 ⟨rfl, x1⟩; obtain ⟨b0, b1, b2, b3, b4⟩ := hbox.out w1 x1)
      | (go_at_call 36; refine (C2.out _ (Ext.trans (by repeat (first | exact Ext.refl _ | assumption | refine Ext.drew ?_ | refine Ext.drewN ?_ _ | refine Ext.alloc ?_ _ | refine Ext.trans ?_ (by assumption))) x1)).mono ?_; rintro _ _ ⟨rfl, rfl⟩))
    go_ret2
    exact ⟨rfl, Ext.trans (by repeat (first | exact Ext.refl _ | assumption | refine Ext.drew ?_ | refine Ext.drewN ?_ _ | refine Ext.alloc ?_ _ | refine Ext.trans ?_ (by assumption))) x1⟩
  · have C1' := hid fun W hW => (C1.out W hW).mono fun _ _ k => k.no g
    clear C1 g h
    go_enter Try.func29, Try.ntmps29
    go_wp2_with (go_at_call 18; refine (C1'.out _ (by repeat (first | exact Ext.refl _ | assumption | refine Ext.drew ?_ | refine Ext.drewN ?_ _ | refine Ext.alloc ?_ _ | refine Ext.trans ?_ (by assumption)))).mono ?_; rintro _ w1 ⟨rfl, x1⟩)
    go_ret2
    exact ⟨rfl, Ext.trans (by repeat (first | exact Ext.refl _ | assumption | refine Ext.drew ?_ | refine Ext.drewN ?_ _ | refine Ext.alloc ?_ _ | refine Ext.trans ?_ (by assumption))) x1⟩

set_option maxRecDepth 100000 in
set_option maxHeartbeats 2000000 in
theorem mxSparseLeft_yes (p : Int) (m n : Nat) (vb vc vv u : Value) (bs cs vs ys : List Int) (w : World) (ok : SpOk p m n bs cs vs) (hb : Ints .i64 w vb bs) (hc : Ints .i64 w vc cs) (hv : Ints .u64 w vv vs) (hx : Rng p vs) (hu : Ints .u64 w u ys) (hy : Rng p ys) (hyl : ys.length = m) :
    Calls Try.prog 29 #[.int .u64 p, u, spV m n vb vc vv] w (RetV (leftL p m n (wholeL m n bs cs vs) ys) w) := by
  have hp := (hasB_true ok.hv).1
  have hp2 := rightB_true hp
  have C1 := hid fun (W : World) (hW : Ext w W) => mxSparse_yes p m n vb vc vv bs cs vs W ok (hb.ext hW) (hc.ext hW) (hv.ext hW) (hx.u64 hp2.2)
  have C2 := hid fun (W : World) (hW : Ext w W) => mxVector p m u ys W (by omega) (by omega) (hu.ext hW) (hy.u64 hp2.2)
  rw [vecB_yes hp hy hyl] at C2
  have CL := hid fun (W : World) (hW : Ext w W) (i lo hi : Nat) => mxLine m n vb vc vv bs cs vs i lo hi w W hW hb hc hv
  have Ok := hid ok; have Hx := hid hx; have Hy := hid hy; have Hyl := hid hyl; have Hp := hid hp
  have hm := ok.m1; have hn := ok.n1
  obtain ⟨a1, c1, rfl, k1, k2, k3⟩ := hb
  obtain ⟨a2, c2, rfl, l1, l2, l3⟩ := hc
  obtain ⟨a3, c3, rfl, m1, m2, m3⟩ := hv
  obtain ⟨au, cu, rfl, n1, n2, n3⟩ := hu
  obtain ⟨bu, ou, rfl, hbu, KU⟩ := n3 (by omega)
  have KU := hid KU
  clear k3 l3 m3 n3 hx hy ok hp
  rw [hyl] at n1 C2 ⊢
  clear hyl
  obtain ⟨F, hF⟩ : ∃ F : Nat → Nat → Int, (fun i c => sm i fun a => whAt bs cs vs a c * ys.getD a 0) = F := ⟨_, rfl⟩
  have HF := hid (fun i c => (congrFun (congrFun hF i) c : (sm i fun a => whAt bs cs vs a c * ys.getD a 0) = F i c))
  have hres := hid (show leftL p m n (wholeL m n bs cs vs) ys = tab n fun c => F m c % p from tab_congr fun c hc => by
    rw [← hF]
    show dv p m _ _ = (sm m fun a => whAt bs cs vs a c * ys.getD a 0) % p
    unfold dv
    rw [sm_congr fun i hi => by show (wholeL m n bs cs vs).getD (i * n + c) 0 * ys.getD i 0 = whAt bs cs vs i c * ys.getD i 0; rw [wholeL, grid_get _ hi hc]])
  rw [hres.out]
  clear hF hres
  have hmk := make_ints (P := Try.prog) 23 22 .u64 8 (by omega) (by kernel_rfl) (by kernel_rfl) n n (Nat.le_refl _) (by omega)
  have hbox := hid (box5 w 28 (.int .i64 (m : Int)) (.int .i64 (n : Int)) (.slice a1 bs.length c1) (.slice a2 cs.length c2) (.slice a3 vs.length c3))
  have hx0 : Ext w (w.alloc (.cells #[.int .i64 (m : Int), .int .i64 (n : Int), .slice a1 bs.length c1, .slice a2 cs.length c2, .slice a3 vs.length c3] 28)) := (Ext.refl w).alloc _
  have hrl := hid (List.length_replicate (n := n) (a := (0 : Int)))
  unfold spV at C1 CL
  unfold spV
  go_enter Try.func29, Try.ntmps29
  go_wp2_with (first
    | (go_at_call 18; refine (C1.out _ (by repeat (first | exact Ext.refl _ | assumption | refine Ext.drew ?_ | refine Ext.drewN ?_ _ | refine Ext.alloc ?_ _ | refine Ext.trans ?_ (by assumption)))).mono ?_; rintro _ w1 ⟨rfl, x1⟩; obtain ⟨b0, b1, b2, b3, b4⟩ := hbox.out w1 x1)
    | (go_at_call 36; refine (C2.out _ (hx0.trans x1)).mono ?_; rintro _ _ ⟨rfl, rfl⟩))
  have hrow := hid (WRow.made (w := w1) (t := 22) (n := n) rfl)
  obtain ⟨g, hg⟩ : ∃ g, w1.heap.size = g := ⟨_, rfl⟩
  have hgw : w1.heap.size ≤ g := by omega
  obtain ⟨w2, hw2⟩ : ∃ w2, w1.alloc (.cells (madeCells #[Value.int .u64 0] n) 22) = w2 := ⟨_, rfl⟩
  have hx2 : Ext w1 w2 := hw2 ▸ (Ext.refl w1).alloc _
  rw [hg, hw2] at hrow
  rw [hg, hw2]
  clear hg hw2 hmk b0 b1 b2 b3 b4
  go_loopw [34] (fun i wr => ∃ (k : Nat) (l : List Int), i = .int .i64 k ∧ k ≤ m ∧ Hid (l.length = n) ∧ Hid (∀ c, c < n → l.getD c 0 = F k c % p) ∧ Hid (WRow wr g 0 l) ∧ Ext w1 wr) (fun i _ => m - (intOf i).toNat)
  case atStart => exact ⟨0, _, rfl, Nat.zero_le _, hrl, hid (fun c _ => by rw [replicate_get, ← HF.out]; simp [sm]), hrow, hx2⟩
  case round =>
    obtain ⟨i, l, rfl, hi, hln, hl2, Hrw, hxw⟩ := hrel
    clear hx2 hrow
    obtain ⟨b0, b1, b2, b3, b4⟩ := hbox.out wr (x1.trans hxw)
    by_cases hlt : i < m
    · obtain ⟨e1, d1⟩ := Ok.out.bg (show i ≤ m by omega)
      obtain ⟨e2, d2⟩ := Ok.out.bg (show i + 1 ≤ m by omega)
      have hble := Ok.out.ble hlt
      have CL' := hid (fun W hW => CL.out W hW i (beg bs i) (beg bs (i + 1)) (by rw [Ok.out.lb]; omega) e1 e2 hble d2 (by rw [← Ok.out.lc]; exact d2) (by omega))
      have hfew := Ok.out.few hlt
      have Hcol := hid fun (t : Nat) => Ok.out.col hlt (t := t)
      have Hst := hid fun (t : Nat) => wh_step Ok.out hlt (t := t)
      have Hfr := hid fun (t : Nat) (h : beg bs i + t < beg bs (i + 1)) (c : Nat) => wh_fresh Ok.out hlt h (c := c)
      have Hs0 := hid fun (c : Nat) => wh_start Ok.out hlt c
      have Hse := hid fun (c : Nat) => wh_end Ok.out hlt c
      have hlc := Ok.out.lc
      obtain ⟨B, hB⟩ : ∃ B, beg bs i = B := ⟨_, rfl⟩
      obtain ⟨E, hE⟩ : ∃ E, beg bs (i + 1) = E := ⟨_, rfl⟩
      rw [hB, hE] at CL' hble hfew
      rw [hE] at d2
      simp only [hB, hE] at Hcol Hst Hfr Hs0 Hse
      have HF1 := hid fun c => (show F (i + 1) c = F i c + whAt bs cs vs i c * ys.getD i 0 by rw [← HF.out, ← HF.out]; rfl)
      have gu := ((hx0.trans (x1.trans hxw)).cells _ _ hbu).trans (KU.out i (by rw [Hyl.out]; exact hlt))
      have ry := Hy.out.getD hp2.1 i
      obtain ⟨y, ey⟩ : ∃ y, ys.getD i 0 = y := ⟨_, rfl⟩
      rw [ey] at gu ry
      simp only [ey] at HF1
      have Hble := hid hble
      have hlv := seg_len (xs := vs) (lo := B) (hi := E) (by rw [← hlc]; exact d2)
      have hls := seg_len (lo := B) (hi := E) d2
      clear e1 d1 e2 hB hE hlc ey d2 hble
      go_wp2_with fail
      refine (CL'.out _ (hx0.trans (x1.trans hxw))).mono ?_
      rintro _ w6 ⟨vc, vv, rfl, hI, hJ, x6⟩
      obtain ⟨A2, C2', rfl, j1, j2, j3⟩ := hI
      obtain ⟨A3, C3', rfl, j4, j5, j6⟩ := hJ
      obtain ⟨L, hL⟩ : ∃ L, E - B = L := ⟨_, rfl⟩
      rw [hls, hL] at j1 j3 ⊢
      rw [hlv, hL] at j4 j6 ⊢
      have J3 := hid j3; have J6 := hid j6; have HL := hid hL
      rw [hL] at hfew
      clear j3 j6 hls hlv hL b0 b1 b2 b3 b4 CL' gu
      go_wp2_with fail
      go_loopw [47] (fun kv wv => ∃ (k : Nat) (l : List Int), kv = .int .i64 k ∧ k ≤ L ∧ Hid (l.length = n) ∧ Hid (∀ c, c < n → l.getD c 0 = (F i c + whF bs cs vs i c (B + k) * y) % p) ∧ Hid (WRow wv g 0 l) ∧ Ext w1 wv) (fun kv _ => L - (intOf kv).toNat)
      case atStart => exact ⟨0, l, rfl, Nat.zero_le _, hln, hid fun c hc => by rw [hl2.out c hc, Nat.add_zero, Hs0.out, Int.zero_mul, Int.add_zero], hid (Hrw.out.ext x6), hxw.trans x6⟩
      case round =>
        clear hln hl2 Hrw
        obtain ⟨k, l, rfl, hk, hln, hl2, Hrw, hxv⟩ := hrel
        rename World => wv
        have hxa : Ext w wv := hx0.trans (x1.trans hxv)
        by_cases hlk : k < L
        · have hkE : B + k < E := by have := HL.out; omega
          obtain ⟨e, he, hen⟩ := Hcol.out k hkE
          obtain ⟨b', off', rfl, hb', hcell'⟩ := J3.out (by omega)
          obtain ⟨b'', off'', rfl, hb'', hcell''⟩ := J6.out (by omega)
          have gc := (hxa.cells _ _ hb').trans (hcell' k hlk)
          have gv := (hxa.cells _ _ hb'').trans (hcell'' k hlk)
          rw [seg_get _ _ _ _ (by rw [HL.out]; exact hlk), he] at gc
          rw [seg_get _ _ _ _ (by rw [HL.out]; exact hlk)] at gv
          have hst := hid (Hst.out k hkE)
          have hfr := Hfr.out k hkE e he
          have rx := Hx.out.getD hp2.1 (B + k)
          obtain ⟨x, ex⟩ : ∃ x, vs.getD (B + k) 0 = x := ⟨_, rfl⟩
          rw [ex] at gv rx
          have hle := hl2.out e hen
          rw [hfr, Int.zero_mul, Int.add_zero] at hle
          have gm := (Hrw.out.2 e (by rw [hln.out]; exact hen)).1
          have fm := (Hrw.out.2 e (by rw [hln.out]; exact hen)).2
          rw [Nat.zero_add] at gm fm
          obtain ⟨o, ho⟩ : ∃ o, l.getD e 0 = o := ⟨_, rfl⟩
          rw [ho] at gm hle
          have ro : 0 ≤ o ∧ o < p := by rw [hle]; exact mod_range _ hp2.1
          obtain ⟨q, eq, q0, q1⟩ := name_mod (p := p) (y * x) hp2.1
          obtain ⟨t, et, t0, t1⟩ := name_mod (p := p) (o + q) hp2.1
          have hval : t = (F i e + x * y) % p := by
            rw [← et, ← eq, hle, Int.mul_comm y x]
            simp only [Int.add_emod, Int.emod_emod]
          have Hval := hid hval; have Eq := hid eq; have Et := hid et; have Ex := hid ex; have He := hid he; have Hfr' := hid hfr
          clear hcell' hcell'' ex he hfr hle ho eq et hval
          go_wp2_with fail
          refine (mul_as p y x q _ Hp.out ry.1 ry.2 rx.1 rx.2 Eq.out).mono ?_
          rintro _ w8 ⟨rfl, x8⟩
          have gm8 := (x8.cells _ _ (Hrw.out.1)).trans gm
          go_wp2_with fail
          refine (add_as p o q t _ Hp.out ro.1 ro.2 q0 q1 Et.out).mono ?_
          rintro _ w9 ⟨rfl, x9⟩
          have gm9 := (x9.cells _ _ ((Hrw.out.ext x8).1)).trans gm8
          have fm9 := ((Hrw.out.ext (x8.trans x9)).2 e (by rw [hln.out]; exact hen)).2
          rw [Nat.zero_add] at fm9
          go_wp2_with fail
          go_roundw
          case rel =>
            have hs := (Hrw.out.ext (x8.trans x9)).set_ (i := e) (by rw [hln.out]; exact hen) t
            rw [Nat.zero_add] at hs
            refine ⟨k + 1, l.set e t, by go_num, by omega, hid (by rw [List.length_set]; exact hln.out), hid fun c hc => ?_, hid hs, (hxv.trans (x8.trans x9)).setCell (p := ⟨g, e, none⟩) hgw _⟩
            rw [set_get l e c t (by rw [hln.out]; exact hen), ← Nat.add_assoc, hst.out c, He.out, Ex.out]
            by_cases e2 : e = c
            · subst e2
              rw [if_pos rfl, if_pos rfl, Hval.out]
            · rw [if_neg e2, if_neg (by omega)]; exact hl2.out c hc
          case measure => simp [intOf]; omega
        · obtain rfl : L = k := by omega
          go_wp2_with fail
          go_roundw
          case rel => exact ⟨i + 1, l, by go_num, by omega, hln, hid fun c hc => by rw [hl2.out c hc, HF1.out c, ← Hse.out c, show B + L = E by have := HL.out; have := Hble.out; omega], Hrw, hxv⟩
          case measure => simp [intOf]; omega
    · obtain rfl : m = i := by omega
      clear b0 b1 b2 b3 b4
      go_wp2_with fail
      go_ret2
      have e : l = tab n fun c => F m c % p := tab_of hln.out fun j hj => hl2.out j hj
      exact ⟨_, rfl, e ▸ Hrw.out.ints' hln.out (Nat.le_refl _) (by omega), hx0.trans (x1.trans hxw)⟩
end Go.Proofs.Ytlociefncogjeaa
