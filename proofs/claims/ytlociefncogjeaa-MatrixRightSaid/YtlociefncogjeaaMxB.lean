/- Package matrix, thin matrices: Whole. -/
import Derived.Test.YtlociefncogjeaaMxA
import Derived.Test.YtlociefncogjeaaMxM
import Derived.Test.YtlociefncogjeaaMx3
namespace Go.Proofs.Ytlociefncogjeaa
open Go.RowKit Go.Maps

set_option maxHeartbeats 1000000 in
theorem mxWhole_no (p r c : Int) (vb vc vv : Value) (bs cs vs : List Int) (w : World) (h0 : 0 ≤ p) (h1 : p ≤ 18446744073709551615) (hb : Ints .i64 w vb bs) (hc : Ints .i64 w vc cs) (hv : Ints .u64 w vv vs) (hx : U64s vs) (h : ¬ SpIs p r c bs cs vs) :
    Calls Try.prog 27 #[.int .u64 p, spV r c vb vc vv] w (Ret noMat w) := by
  have C1 := hid fun (W : World) (hW : Ext w W) => (mxSparse p r c vb vc vv bs cs vs W h0 h1 (hb.ext hW) (hc.ext hW) (hv.ext hW) hx).mono fun _ _ k => k.no h
  unfold spV at C1
  unfold spV noMat
  obtain ⟨a1, c1, rfl, k1, k2, k3⟩ := hb
  obtain ⟨a2, c2, rfl, l1, l2, l3⟩ := hc
  obtain ⟨a3, c3, rfl, m1, m2, m3⟩ := hv
  have hb2 := hid (boxes2 w 28 25 #[.int .i64 r, .int .i64 c, .slice a1 bs.length c1, .slice a2 cs.length c2, .slice a3 vs.length c3] #[.int .i64 0, .int .i64 0, .slice none 0 0])
  clear k3 l3 m3 hx h
  go_enter Try.func27, Try.ntmps27
  go_wp2_with (go_at_call 18; refine (C1.out _ (by repeat (first | exact Ext.refl _ | assumption | refine Ext.drew ?_ | refine Ext.drewN ?_ _ | refine Ext.alloc ?_ _ | refine Ext.trans ?_ (by assumption)))).mono ?_; rintro _ w1 ⟨rfl, x1⟩; have HR := hid (hb2.out.2.1.ext x1); have HE := hid (hb2.out.2.2.trans x1); obtain ⟨b0, b1, b2⟩ := HR.out.at3; have f0 := HR.out.frozen 0; have f1 := HR.out.frozen 1; have f2 := HR.out.frozen 2)
  have F := fin0 HR.out HE.out (by omega) (.int .i64 0) (.int .i64 0) (.slice none 0 0)
  refine bodyPost_ret (results_cell_row_tmp rfl _ _ (w.heap.size + 1) 25 _ (0, 0) _ rfl F.1 Try.underlying25 rfl (by kernel_rfl)) rfl ?_
  exact ⟨rfl, F.2⟩

set_option maxRecDepth 100000 in
set_option maxHeartbeats 2000000 in
theorem mxWhole_yes (p : Int) (m n : Nat) (vb vc vv : Value) (bs cs vs : List Int) (w : World) (ok : SpOk p m n bs cs vs) (hb : Ints .i64 w vb bs) (hc : Ints .i64 w vc cs) (hv : Ints .u64 w vv vs) (hx : U64s vs) :
    Calls Try.prog 27 #[.int .u64 p, spV m n vb vc vv] w (RetN m n (wholeL m n bs cs vs) w) := by
  have C1 := hid fun (W : World) (hW : Ext w W) => mxSparse_yes p m n vb vc vv bs cs vs W ok (hb.ext hW) (hc.ext hW) (hv.ext hW) hx
  have CL := hid fun (W : World) (hW : Ext w W) (i lo hi : Nat) => mxLine m n vb vc vv bs cs vs i lo hi w W hW hb hc hv
  have Ok := hid ok
  have hm := ok.m1; have hn := ok.n1
  obtain ⟨a1, c1, rfl, k1, k2, k3⟩ := hb
  obtain ⟨a2, c2, rfl, l1, l2, l3⟩ := hc
  obtain ⟨a3, c3, rfl, m1, m2, m3⟩ := hv
  clear k3 l3 m3 hx ok
  obtain ⟨Q, hQ⟩ : ∃ Q, m * n = Q := ⟨_, rfl⟩
  have hQb : Q ≤ 4096 := by rw [← hQ]; exact Nat.mul_le_mul hm.2 hn.2
  have HN := hid fun W : World => mxNoughts m n W hm.2 hn.2
  rw [hQ] at HN
  have HQ := hid hQ
  clear hQ
  have hb2 := hid (boxes2 w 28 25 #[.int .i64 (m : Int), .int .i64 (n : Int), .slice a1 bs.length c1, .slice a2 cs.length c2, .slice a3 vs.length c3] #[.int .i64 0, .int .i64 0, .slice none 0 0])
  unfold spV at C1 CL
  unfold spV
  go_enter Try.func27, Try.ntmps27
  go_wp2_with (first | (go_at_call 18; refine (C1.out _ (by repeat (first | exact Ext.refl _ | assumption | refine Ext.drew ?_ | refine Ext.drewN ?_ _ | refine Ext.alloc ?_ _ | refine Ext.trans ?_ (by assumption)))).mono ?_; rintro _ w1 ⟨rfl, x1⟩; have HA := hid (hb2.out.1.ext x1); have HR := hid (hb2.out.2.1.ext x1); have HE := hid (hb2.out.2.2.trans x1); obtain ⟨b0, b1, b2, b3, b4⟩ := HA.out.at5) | fail)
  have hR1 := HR.out.lt
  refine (HN.out _).mono ?_
  rintro _ w2 ⟨g, rfl, hg, hrow, x2⟩
  have HU := hid (Und.start (Q := Q) (r := (m : Int)) (c := (n : Int)) hg hrow List.length_replicate x2)
  unfold matV
  have b5 := (HA.out.ext (x2.alloc (.cells #[.int .i64 (m : Int), .int .i64 (n : Int), .slice (some ⟨g, 0, none⟩) Q Q] 25))).at5
  clear b0 b1 b2 b3 b4
  obtain ⟨b0, b1, b2, b3, b4⟩ := b5
  go_wp2_with fail
  obtain ⟨h, hh⟩ : ∃ h, w2.heap.size = h := ⟨_, rfl⟩
  obtain ⟨w3, hw3⟩ : ∃ w3, w2.alloc (.cells #[.int .i64 (m : Int), .int .i64 (n : Int), .slice (some ⟨g, 0, none⟩) Q Q] 25) = w3 := ⟨_, rfl⟩
  rw [hw3, hh] at HU
  rw [hw3, hh]
  clear hh hw3 b0 b1 b2 b3 b4 hrow x2 hg
  obtain ⟨gR, hgR⟩ : ∃ gR, w.heap.size + 1 = gR := ⟨_, rfl⟩
  have hgw : w.heap.size ≤ gR := by omega
  rw [hgR] at HR hR1
  rw [hgR]
  obtain ⟨gA, hgA⟩ : ∃ gA, w.heap.size = gA := ⟨_, rfl⟩
  rw [hgA] at HA
  rw [hgA]
  clear hgR hgA hb2
  go_loopw [25] (fun iv wr => ∃ (i : Nat) (l : List Int), iv = .int .i64 i ∧ i ≤ m ∧ Hid (Und w1 wr h g Q m n l) ∧ Hid (∀ a b, b < n → l.getD (a * n + b) 0 = if a < i then whAt bs cs vs a b else 0)) (fun iv _ => m - (intOf iv).toNat)
  case atStart => exact ⟨0, _, rfl, Nat.zero_le _, HU, hid fun a b _ => by rw [replicate_get, if_neg (by omega)]⟩
  case round =>
    clear HU
    obtain ⟨i, l, rfl, hi, HU, hl⟩ := hrel
    obtain ⟨o0, o1, o2⟩ := HU.out.box.at3
    obtain ⟨b0, b1, b2, b3, b4⟩ := (HA.out.ext HU.out.ext).at5
    by_cases hlt : i < m
    · go_wp2_with fail
      refine (mxRow (m : Int) (n : Int) n i g 0 Q Q wr rfl hn (by omega) (by rw [← HQ.out, ← Nat.succ_mul]; exact Nat.mul_le_mul_right _ hlt) (by omega)).mono ?_
      rintro _ w5 ⟨rfl, x5⟩
      rw [Nat.zero_add]
      have hoQ : i * n + n ≤ Q := by rw [← HQ.out, ← Nat.succ_mul]; exact Nat.mul_le_mul_right _ hlt
      obtain ⟨o, ho⟩ : ∃ o, i * n = o := ⟨_, rfl⟩
      obtain ⟨cp, hcp⟩ : ∃ cp, Q - o = cp := ⟨_, rfl⟩
      rw [ho] at hoQ
      rw [ho, hcp]
      have hcpn : n ≤ cp := by omega
      have hcpb : cp ≤ 9223372036854775807 := by omega
      have Ho := hid ho
      clear ho hcp o0 o1 o2 b0 b1 b2 b3 b4
      obtain ⟨b0, b1, b2, b3, b4⟩ := (HA.out.ext (HU.out.ext.trans x5)).at5
      obtain ⟨e1, d1⟩ := Ok.out.bg (show i ≤ m by omega)
      obtain ⟨e2, d2⟩ := Ok.out.bg (show i + 1 ≤ m by omega)
      have hble := Ok.out.ble hlt
      have CL' := hid (fun W hW => CL.out W hW i (beg bs i) (beg bs (i + 1)) (by rw [Ok.out.lb]; omega) e1 e2 hble d2 (by rw [← Ok.out.lc]; exact d2) (by omega))
      obtain ⟨B, hB⟩ : ∃ B, beg bs i = B := ⟨_, rfl⟩
      obtain ⟨E, hE⟩ : ∃ E, beg bs (i + 1) = E := ⟨_, rfl⟩
      rw [hB, hE] at CL' hble
      rw [hE] at d2
      have HB := hid hB; have HEe := hid hE
      clear e1 d1 e2 hB hE
      go_wp2_with fail
      refine (CL'.out _ (HE.out.trans (HU.out.ext.trans x5))).mono ?_
      rintro _ w6 ⟨vc, vv, rfl, hI, hJ, x6⟩
      obtain ⟨A2, C2, rfl, j1, j2, j3⟩ := hI
      obtain ⟨A3, C3, rfl, j4, j5, j6⟩ := hJ
      have hls := seg_len (lo := B) (hi := E) d2
      have hlv := seg_len (xs := vs) (lo := B) (hi := E) (by rw [← Ok.out.lc]; exact d2)
      obtain ⟨L, hL⟩ : ∃ L, E - B = L := ⟨_, rfl⟩
      rw [hls, hL] at j1 j3 ⊢
      rw [hlv, hL] at j4 j6 ⊢
      have J3 := hid j3; have J6 := hid j6; have HL := hid hL
      have hLb : L ≤ 9223372036854775807 := by omega
      clear j3 j6 hls hlv hL b0 b1 b2 b3 b4 CL' d2 hble
      go_wp2_with fail
      go_loopw [39] (fun kv wr => ∃ (k : Nat) (l : List Int), kv = .int .i64 k ∧ k ≤ L ∧ Hid (Und w1 wr h g Q m n l) ∧ Hid (∀ a b, b < n → l.getD (a * n + b) 0 = if a < i then whAt bs cs vs a b else if a = i then whF bs cs vs i b (B + k) else 0)) (fun kv _ => L - (intOf kv).toNat)
      case atStart => exact ⟨0, l, rfl, Nat.zero_le _, hid (HU.out.ext' (x5.trans x6)), hid fun a b hb => by
        rw [hl.out a b hb, Nat.add_zero, ← HB.out, wh_start Ok.out hlt]
        by_cases e : a < i
        · rw [if_pos e, if_pos e]
        · rw [if_neg e, if_neg e]; split <;> rfl⟩
      case round =>
        clear HU hl
        obtain ⟨k, l, rfl, hk, HU, hl⟩ := hrel
        rename World => wi
        by_cases hlk : k < L
        · have htt : beg bs i + k < beg bs (i + 1) := by have := HL.out; rw [HB.out, HEe.out]; omega
          obtain ⟨e, he, hen⟩ := Ok.out.col hlt htt
          have hst := hid (wh_step Ok.out hlt htt)
          obtain ⟨b', off', rfl, hb', hcell'⟩ := J3.out (by omega)
          obtain ⟨b'', off'', rfl, hb'', hcell''⟩ := J6.out (by omega)
          have gc := ((HE.out.trans HU.out.ext).cells _ _ hb').trans (hcell' k hlk)
          have gv := ((HE.out.trans HU.out.ext).cells _ _ hb'').trans (hcell'' k hlk)
          rw [seg_get _ _ _ _ (by rw [HL.out]; exact hlk), ← HB.out, he] at gc
          rw [seg_get _ _ _ _ (by rw [HL.out]; exact hlk), ← HB.out] at gv
          obtain ⟨x, ex⟩ : ∃ x, vs.getD (beg bs i + k) 0 = x := ⟨_, rfl⟩
          rw [ex] at gv
          have Ex := hid ex; have He := hid he
          obtain ⟨t, ht⟩ : ∃ t, o + e = t := ⟨_, rfl⟩
          have htQ : t < Q := by omega
          have Ht := hid (show i * n + e = t by rw [Ho.out]; exact ht)
          obtain ⟨gt, ft⟩ := HU.out.at_ htQ
          clear hcell' hcell'' ex he htt
          go_wp2_with fail
          go_roundw
          case rel =>
            refine ⟨k + 1, l.set t x, by go_num, by omega, hid (HU.out.put htQ x), hid fun a b hb => ?_⟩
            · rw [← Ht.out, put_at x hen hb (by rw [Ht.out, HU.out.len]; exact htQ), hl.out a b hb]
              have hst' := hst.out b
              rw [He.out, Ex.out, HB.out] at hst'
              by_cases ea : a = i
              · subst ea
                rw [if_neg (Nat.lt_irrefl _), if_pos rfl, if_neg (Nat.lt_irrefl _), if_pos rfl, ← Nat.add_assoc, hst']
                by_cases eb : b = e
                · rw [if_pos ⟨rfl, eb⟩, if_pos (by omega)]
                · rw [if_neg (fun h => eb h.2), if_neg (by omega)]
              · rw [if_neg (fun h => ea h.1), if_neg ea, if_neg ea]
          case measure => simp [intOf]; omega
        · obtain rfl : L = k := by omega
          go_wp2_with fail
          go_roundw
          case rel => exact ⟨i + 1, l, by go_num, by omega, HU, hid fun a b hb => by
            rw [hl.out a b hb]
            by_cases e : a < i
            · rw [if_pos e, if_pos (by omega)]
            · rw [if_neg e]
              by_cases e2 : a = i
              · subst e2
                rw [if_pos rfl, if_pos (by omega), ← wh_end Ok.out hlt, HEe.out]
                have := HL.out
                have hb' := Ok.out.ble hlt
                rw [HB.out, HEe.out] at hb'
                congr 1
                omega
              · rw [if_neg e2, if_neg (by omega)]⟩
          case measure => simp [intOf]; omega
    · obtain rfl : m = i := by omega
      have hRr := HR.out.ext HU.out.ext
      obtain ⟨r0, r1, r2⟩ := hRr.at3
      have f0 := hRr.frozen 0
      have f1 := hRr.frozen 1
      have f2 := hRr.frozen 2
      have FF := hid (HU.out.fin hRr hR1 (HE.out.trans HU.out.ext) hgw (by omega))
      clear hRr b0 b1 b2 b3 b4
      go_wp2_with fail
      refine bodyPost_ret (results_cell_row_tmp rfl _ _ gR 25 _ (0, 0) _ rfl FF.out.1 Try.underlying25 rfl (by kernel_rfl)) rfl ?_
      have e : l = wholeL m n bs cs vs := grid_of (by rw [HU.out.len, HQ.out]) fun a b ha hb => by rw [hl.out a b hb, if_pos ha]
      exact ⟨_, rfl, e ▸ FF.out.2.1, FF.out.2.2⟩
end Go.Proofs.Ytlociefncogjeaa
