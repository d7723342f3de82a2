/- Package matrix, thin matrices: SparseTimes. -/
import Derived.Test.YtlociefncogjeaaMxB
namespace Go.Proofs.Ytlociefncogjeaa
open Go.RowKit Go.Maps

set_option maxHeartbeats 1000000 in
theorem mxSparseTimes_no (p r c : Int) (vb vc vv u : Value) (bs cs vs ys : List Int) (w : World) (h0 : 0 ≤ p) (h1 : p ≤ 18446744073709551615) (hb : Ints .i64 w vb bs) (hc : Ints .i64 w vc cs) (hv : Ints .u64 w vv vs) (hx : U64s vs) (hu : Ints .u64 w u ys) (hy : U64s ys) (h : ¬ (SpIs p r c bs cs vs ∧ vecB p c ys = true)) :
    Calls Try.prog 28 #[.int .u64 p, spV r c vb vc vv, u] w (Ret (.tuple #[.slice none 0 0, .int .i64 1]) w) := by
  have C1 := hid fun (W : World) (hW : Ext w W) => mxSparse p r c vb vc vv bs cs vs W h0 h1 (hb.ext hW) (hc.ext hW) (hv.ext hW) hx
  have C2 := hid fun (W : World) (hW : Ext w W) => mxVector p c u ys W h0 h1 (hu.ext hW) hy
  unfold spV at C1
  unfold spV
  obtain ⟨a1, c1, rfl, k1, k2, k3⟩ := hb
  obtain ⟨a2, c2, rfl, l1, l2, l3⟩ := hc
  obtain ⟨a3, c3, rfl, m1, m2, m3⟩ := hv
  have hbox := hid (box5 w 28 (.int .i64 r) (.int .i64 c) (.slice a1 bs.length c1) (.slice a2 cs.length c2) (.slice a3 vs.length c3))
  clear k3 l3 m3 hx hu hy
  by_cases g : SpIs p r c bs cs vs
  · have C1' := hid fun W hW => (C1.out W hW).mono fun _ _ k => k.yes g
    have e : vecB p c ys = false := Bool.eq_false_iff.2 fun e => h ⟨g, e⟩
    rw [e] at C2
    clear C1 g h e
    go_enter Try.func28, Try.ntmps28
    go_wp2_with (first
      | (go_at_call 18; refine (C1'.out _ (by repeat (first | exact Ext.refl _ | assumption | refine Ext.drew ?_ | refine Ext.drewN ?_ _ | refine Ext.alloc ?_ _ | refine Ext.trans ?_ (by assumption)))).mono ?_; rintro _ w1 ⟨rfl, x1⟩; obtain ⟨b0, b1, b2, b3, b4⟩ := hbox.out w1 x1)
      | (go_at_call 36; refine (C2.out _ (Ext.trans (by repeat (first | exact Ext.refl _ | assumption | refine Ext.drew ?_ | refine Ext.drewN ?_ _ | refine Ext.alloc ?_ _ | refine Ext.trans ?_ (by assumption))) x1)).mono ?_; rintro _ _ ⟨rfl, rfl⟩))
    go_ret2
    exact ⟨rfl, Ext.trans (by repeat (first | exact Ext.refl _ | assumption | refine Ext.drew ?_ | refine Ext.drewN ?_ _ | refine Ext.alloc ?_ _ | refine Ext.trans ?_ (by assumption))) x1⟩
  · have C1' := hid fun W hW => (C1.out W hW).mono fun _ _ k => k.no g
    clear C1 g h
    go_enter Try.func28, Try.ntmps28
    go_wp2_with (go_at_call 18; refine (C1'.out _ (by repeat (first | exact Ext.refl _ | assumption | refine Ext.drew ?_ | refine Ext.drewN ?_ _ | refine Ext.alloc ?_ _ | refine Ext.trans ?_ (by assumption)))).mono ?_; rintro _ w1 ⟨rfl, x1⟩)
    go_ret2
    exact ⟨rfl, Ext.trans (by repeat (first | exact Ext.refl _ | assumption | refine Ext.drew ?_ | refine Ext.drewN ?_ _ | refine Ext.alloc ?_ _ | refine Ext.trans ?_ (by assumption))) x1⟩

theorem Rise.ge {n : Int} {l : List Int} (h : Rise n l) : ∀ k : Nat, k < l.length → (k : Int) ≤ l.getD k 0
  | 0, hk => (h 0 hk).1
  | k + 1, hk => by
    have h1 := Rise.ge h k (by omega)
    have h2 := (h (k + 1) hk).2.2 (by omega)
    rw [Nat.add_sub_cancel] at h2
    omega
theorem Rise.len {n : Nat} {l : List Int} (h : Rise n l) : l.length ≤ n := by
  rcases Nat.eq_zero_or_pos l.length with h0 | h0
  · omega
  · have h1 := h.ge (l.length - 1) (by omega)
    have h2 := (h (l.length - 1) (by omega)).2.1
    omega
theorem SpOk.few {p : Int} {m n : Nat} {bs cs vs : List Int} (ok : SpOk p m n bs cs vs) {i : Nat} (hi : i < m) : beg bs (i + 1) - beg bs i ≤ n := by
  have := (ok.rises hi).len
  rwa [seg_len (ok.bg (show i + 1 ≤ m by omega)).2] at this

set_option maxRecDepth 100000 in
set_option maxHeartbeats 2000000 in
theorem mxSparseTimes_yes (p : Int) (m n : Nat) (vb vc vv u : Value) (bs cs vs ys : List Int) (w : World) (ok : SpOk p m n bs cs vs) (hb : Ints .i64 w vb bs) (hc : Ints .i64 w vc cs) (hv : Ints .u64 w vv vs) (hx : Rng p vs) (hu : Ints .u64 w u ys) (hy : Rng p ys) (hyl : ys.length = n) :
    Calls Try.prog 28 #[.int .u64 p, spV m n vb vc vv, u] w (RetV (timesL p m n (wholeL m n bs cs vs) ys) w) := by
  have hp := (hasB_true ok.hv).1
  have hp2 := rightB_true hp
  have C1 := hid fun (W : World) (hW : Ext w W) => mxSparse_yes p m n vb vc vv bs cs vs W ok (hb.ext hW) (hc.ext hW) (hv.ext hW) (hx.u64 hp2.2)
  have C2 := hid fun (W : World) (hW : Ext w W) => mxVector p n u ys W (by omega) (by omega) (hu.ext hW) (hy.u64 hp2.2)
  rw [vecB_yes hp hy hyl] at C2
  have CL := hid fun (W : World) (hW : Ext w W) (i lo hi : Nat) => mxLine m n vb vc vv bs cs vs i lo hi w W hW hb hc hv
  have Ok := hid ok; have Hx := hid hx; have Hy := hid hy; have Hyl := hid hyl; have Hp := hid hp
  have hm := ok.m1; have hn := ok.n1
  obtain ⟨a1, c1, rfl, k1, k2, k3⟩ := hb
  obtain ⟨a2, c2, rfl, l1, l2, l3⟩ := hc
  obtain ⟨a3, c3, rfl, m1, m2, m3⟩ := hv
  obtain ⟨au, cu, rfl, n1, n2, n3⟩ := hu
  obtain ⟨bu, ou, rfl, hbu, KU⟩ := n3 (by omega)
  have KU := hid KU
  clear k3 l3 m3 n3 hx hy ok hp
  rw [hyl] at n1 C2 ⊢
  clear hyl
  obtain ⟨F, hF⟩ : ∃ F : Nat → Int, (fun i => dv p n (fun k => (wholeL m n bs cs vs).getD (i * n + k) 0) fun k => ys.getD k 0) = F := ⟨_, rfl⟩
  have HF := hid (fun i => (congrFun hF i : dv p n (fun k => (wholeL m n bs cs vs).getD (i * n + k) 0) (fun k => ys.getD k 0) = F i))
  unfold timesL
  rw [hF]
  clear hF
  have hmk := make_ints (P := Try.prog) 23 22 .u64 8 (by omega) (by kernel_rfl) (by kernel_rfl) m m (Nat.le_refl _) (by omega)
  have hbox := hid (box5 w 28 (.int .i64 (m : Int)) (.int .i64 (n : Int)) (.slice a1 bs.length c1) (.slice a2 cs.length c2) (.slice a3 vs.length c3))
  have hx0 : Ext w (w.alloc (.cells #[.int .i64 (m : Int), .int .i64 (n : Int), .slice a1 bs.length c1, .slice a2 cs.length c2, .slice a3 vs.length c3] 28)) := (Ext.refl w).alloc _
  have hrl := hid (List.length_replicate (n := m) (a := (0 : Int)))
  unfold spV at C1 CL
  unfold spV
  go_enter Try.func28, Try.ntmps28
  go_wp2_with (first
    | (go_at_call 18; refine (C1.out _ (by repeat (first | exact Ext.refl _ | assumption | refine Ext.drew ?_ | refine Ext.drewN ?_ _ | refine Ext.alloc ?_ _ | refine Ext.trans ?_ (by assumption)))).mono ?_; rintro _ w1 ⟨rfl, x1⟩; obtain ⟨b0, b1, b2, b3, b4⟩ := hbox.out w1 x1)
    | (go_at_call 36; refine (C2.out _ (hx0.trans x1)).mono ?_; rintro _ _ ⟨rfl, rfl⟩))
  have hrow := hid (WRow.made (w := w1) (t := 22) (n := m) rfl)
  obtain ⟨g, hg⟩ : ∃ g, w1.heap.size = g := ⟨_, rfl⟩
  have hgw : w1.heap.size ≤ g := by omega
  obtain ⟨w2, hw2⟩ : ∃ w2, w1.alloc (.cells (madeCells #[Value.int .u64 0] m) 22) = w2 := ⟨_, rfl⟩
  have hx2 : Ext w1 w2 := hw2 ▸ (Ext.refl w1).alloc _
  rw [hg, hw2] at hrow
  rw [hg, hw2]
  clear hg hw2 hmk b0 b1 b2 b3 b4
  go_loopw [32] (fun i wr => ∃ (k : Nat) (l : List Int), i = .int .i64 k ∧ k ≤ m ∧ Hid (l.length = m) ∧ Hid (∀ j, l.getD j 0 = if j < k then F j else 0) ∧ Hid (WRow wr g 0 l) ∧ Ext w1 wr) (fun i _ => m - (intOf i).toNat)
  case atStart => exact ⟨0, _, rfl, Nat.zero_le _, hrl, hid (fun j => by rw [replicate_get]; simp), hrow, hx2⟩
  case round =>
    obtain ⟨i, l, rfl, hi, hln, hl2, Hrw, hxw⟩ := hrel
    clear hx2 hrow
    obtain ⟨b0, b1, b2, b3, b4⟩ := hbox.out wr (x1.trans hxw)
    by_cases hlt : i < m
    · obtain ⟨e1, d1⟩ := Ok.out.bg (show i ≤ m by omega)
      obtain ⟨e2, d2⟩ := Ok.out.bg (show i + 1 ≤ m by omega)
      have hble := Ok.out.ble hlt
      have CL' := hid (fun W hW => CL.out W hW i (beg bs i) (beg bs (i + 1)) (by rw [Ok.out.lb]; omega) e1 e2 hble d2 (by rw [← Ok.out.lc]; exact d2) (by omega))
      have hfew := Ok.out.few hlt
      have HdR := hid fun (met : List Int) => dot_row (p := p) (ys := ys) (met := met) Ok.out hlt
      have Hcol := hid fun (t : Nat) => Ok.out.col hlt (t := t)
      have Hlv := hid (Ok.out.lc)
      obtain ⟨B, hB⟩ : ∃ B, beg bs i = B := ⟨_, rfl⟩
      obtain ⟨E, hE⟩ : ∃ E, beg bs (i + 1) = E := ⟨_, rfl⟩
      rw [hB, hE] at CL' hble hfew
      simp only [hB, hE] at HdR
      rw [hE] at d2
      simp only [hB, hE] at Hcol
      clear e1 d1 e2 hB hE
      go_wp2_with fail
      refine (CL'.out _ (hx0.trans (x1.trans hxw))).mono ?_
      rintro _ w6 ⟨vc, vv, rfl, hI, hJ, x6⟩
      have hls := seg_len (lo := B) (hi := E) d2
      have hlv := seg_len (xs := vs) (lo := B) (hi := E) (by rw [← Hlv.out]; exact d2)
      have HJ := hid hJ
      obtain ⟨A2, C2', rfl, j1, j2, j3⟩ := hI
      obtain ⟨A3, C3', rfl, j4, j5, j6⟩ := hJ
      obtain ⟨L, hL⟩ : ∃ L, E - B = L := ⟨_, rfl⟩
      rw [hls, hL] at j1 j3 ⊢
      rw [hlv, hL] at j4 HJ ⊢
      have J3 := hid j3; have HL := hid hL
      rw [hL] at hfew
      clear j3 j6 hls hL b0 b1 b2 b3 b4 CL' d2
      have hmk := make_ints (P := Try.prog) 23 22 .u64 8 (by omega) (by kernel_rfl) (by kernel_rfl) L L (Nat.le_refl _) (by omega)
      go_wp2_with fail
      have hrow2 := hid (WRow.made (w := w6) (t := 22) (n := L) rfl)
      obtain ⟨g2, hg2⟩ : ∃ g, w6.heap.size = g := ⟨_, rfl⟩
      have hgw2 : w6.heap.size ≤ g2 := by omega
      obtain ⟨w7, hw7⟩ : ∃ w2, w6.alloc (.cells (madeCells #[Value.int .u64 0] L) 22) = w2 := ⟨_, rfl⟩
      have hx7 : Ext w6 w7 := hw7 ▸ (Ext.refl w6).alloc _
      rw [hg2, hw7] at hrow2
      rw [hg2, hw7]
      clear hg2 hw7 hmk
      have hgu : bu < g2 := by have := hx0.size; have := x1.size; have := hxw.size; have := x6.size; omega
      go_loopw [46] (fun kv wv => ∃ (k : Nat) (met : List Int), kv = .int .i64 k ∧ k ≤ L ∧ Hid (met.length = L) ∧ Hid (∀ j, j < k → met.getD j 0 = ys.getD (cs.getD (B + j) 0).toNat 0) ∧ Hid (WRow wv g2 0 met) ∧ Ext w6 wv) (fun kv _ => L - (intOf kv).toNat)
      case atStart => exact ⟨0, _, rfl, Nat.zero_le _, hid List.length_replicate, hid (by omega), hrow2, hx7⟩
      case round =>
        clear hx7 hrow2
        obtain ⟨k, met, rfl, hk, hml, hmet, Hmr, hxv⟩ := hrel
        rename World => wv
        have hxa : Ext w wv := hx0.trans (x1.trans (hxw.trans (x6.trans hxv)))
        by_cases hlk : k < L
        · obtain ⟨e, he, hen⟩ := Hcol.out k (by have := HL.out; omega)
          obtain ⟨b', off', rfl, hb', hcell'⟩ := J3.out (by omega)
          have gc := (hxa.cells _ _ hb').trans (hcell' k hlk)
          rw [seg_get _ _ _ _ (by rw [HL.out]; exact hlk), he] at gc
          have gu := (hxa.cells _ _ hbu).trans (KU.out e (by rw [Hyl.out]; exact hen))
          obtain ⟨y, ey⟩ : ∃ y, ys.getD e 0 = y := ⟨_, rfl⟩
          rw [ey] at gu
          have Ey := hid ey; have He := hid he
          have gm := (Hmr.out.2 k (by rw [hml.out]; exact hlk)).1
          have fm := (Hmr.out.2 k (by rw [hml.out]; exact hlk)).2
          rw [Nat.zero_add] at gm fm
          clear hcell' ey he
          go_wp2_with fail
          go_roundw
          case rel =>
            have hs := Hmr.out.set_ (i := k) (by rw [hml.out]; exact hlk) y
            rw [Nat.zero_add] at hs
            refine ⟨k + 1, met.set k y, by go_num, by omega, hid (by rw [List.length_set]; exact hml.out), hid fun j hj => ?_, hid hs, hxv.setCell (p := ⟨g2, k, none⟩) hgw2 _⟩
            rw [set_get met k j y (by rw [hml.out]; exact hlk)]
            by_cases e2 : k = j
            · subst e2
              rw [if_pos rfl, He.out, Int.toNat_natCast, Ey.out]
            · rw [if_neg e2]; exact hmet.out j (by omega)
          case measure => simp [intOf]; omega
        · obtain rfl : L = k := by omega
          have hdot := HdR.out met (by rw [hml.out, HL.out]) (fun j hj => hmet.out j (by rw [hml.out] at hj; exact hj))
          have hfi := HF.out i
          rw [hfi] at hdot
          obtain ⟨z, hz⟩ : ∃ z, F i = z := ⟨_, rfl⟩
          rw [hz] at hdot
          have Hdot := hid hdot; have Hz := hid hz
          clear hdot hz hfi
          have hmr : Rng p met := Rng.of_get fun j hj => by
            rw [hmet.out j (by rw [hml.out] at hj; exact hj)]
            exact Hy.out.getD hp2.1 _
          have Hmg := hid hmr
          have hsr : Rng p (seg vs B E) := fun x hx => Hx.out x (List.mem_of_mem_drop (List.mem_of_mem_take hx))
          have Hsr := hid hsr
          clear hmr hsr
          go_wp2_with fail
          refine (dot_as p z _ _ (seg vs B E) met _ (HJ.out.ext hxa) (Hmr.out.ints' hml.out (Nat.le_refl _) (by omega)) (Hsr.out.u64 hp2.2) (Hmg.out.u64 hp2.2) (by rw [hlv, hml.out]; exact HL.out) (Hsr.out.has Hp.out) (Hmg.out.has Hp.out) Hdot.out).mono ?_
          rintro _ w9 ⟨rfl, x9⟩
          have y9 : Ext wr w9 := x6.trans (hxv.trans x9)
          have gt := ((Hrw.out.ext y9).2 i (by rw [hln.out]; omega)).1
          have ft := ((Hrw.out.ext y9).2 i (by rw [hln.out]; omega)).2
          rw [Nat.zero_add] at gt ft
          go_wp2_with fail
          go_roundw
          case rel =>
            have hs := (Hrw.out.ext y9).set_ (i := i) (by rw [hln.out]; omega) z
            rw [Nat.zero_add] at hs
            refine ⟨i + 1, l.set i z, by go_num, by omega, hid (by rw [List.length_set]; exact hln.out), hid (fun j => ?_), hid hs, (hxw.trans y9).setCell (p := ⟨g, i, none⟩) hgw _⟩
            rw [set_get l i j z (by rw [hln.out]; omega), hl2.out]
            by_cases e : i = j
            · subst e
              rw [if_pos rfl, if_pos (by omega), Hz.out]
            · rw [if_neg e]
              by_cases e2 : j < i
              · rw [if_pos e2, if_pos (by omega)]
              · rw [if_neg e2, if_neg (by omega)]
          case measure => simp [intOf]; omega
    · obtain rfl : m = i := by omega
      go_wp2_with fail
      go_ret2
      have e : l = tab m F := tab_of hln.out fun j hj => by rw [hl2.out, if_pos hj]
      exact ⟨_, rfl, e ▸ Hrw.out.ints' hln.out (Nat.le_refl _) (by omega), hx0.trans (x1.trans hxw)⟩
end Go.Proofs.Ytlociefncogjeaa
