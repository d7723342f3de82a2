/- Package matrix: Pick. -/
import Derived.Test.YtlociefncogjeaaMx6
import Derived.Test.YtlociefncogjeaaMx4
namespace Go.Proofs.Ytlociefncogjeaa
open Go.RowKit Go.Maps

/-- places, as they are counted -/
def nats (l : List Int) : List Nat := l.map Int.toNat
theorem nats_len (l : List Int) : (nats l).length = l.length := by simp [nats]
theorem nats_get {l : List Int} {many : Nat} (h : picksB many l = true) {i : Nat} (hi : i < l.length) : l.getD i 0 = ((nats l).getD i 0 : Nat) ∧ (nats l).getD i 0 < many := by
  unfold picksB at h
  rw [Bool.and_eq_true, List.all_eq_true] at h
  have h1 := h.2 (l.getD i 0) (getD_mem 0 hi)
  rw [decide_eq_true_eq] at h1
  have e : (nats l).getD i 0 = (l.getD i 0).toNat := by
    unfold nats
    simp [List.getD, List.getElem?_eq_getElem hi]
  rw [e]
  omega
theorem picksB_len {many : Int} {l : List Int} (h : picksB many l = true) : 1 ≤ l.length ∧ l.length ≤ 64 := by
  unfold picksB at h
  rw [Bool.and_eq_true, decide_eq_true_eq] at h
  exact h.1

set_option maxRecDepth 100000 in
set_option maxHeartbeats 1000000 in
theorem mxPick_no (p r c : Int) (v vr vc : Value) (xs rs cs : List Int) (w : World) (h0 : 0 ≤ p) (h1 : p ≤ 18446744073709551615) (hv : Ints .u64 w v xs) (hx : U64s xs) (hr : Ints .i64 w vr rs) (hc : Ints .i64 w vc cs)
    (h : (matB p r c xs && picksB r rs && picksB c cs) = false) :
    Calls Try.prog 31 #[.int .u64 p, matV r c v, vr, vc] w (Ret noMat w) := by
  have hb2 := hid (boxes2 w 25 25 #[.int .i64 r, .int .i64 c, v] #[.int .i64 0, .int .i64 0, .slice none 0 0])
  have C1 := hid fun (W : World) (hW : Ext w W) => mxRight p r c v xs W h0 h1 (hv.ext hW) hx
  have CR := hid fun (W : World) (hW : Ext w W) => mxPicks r vr rs W (hr.ext hW)
  have CC := hid fun (W : World) (hW : Ext w W) => mxPicks c vc cs W (hc.ext hW)
  obtain ⟨a, cap, rfl, k1, k2, k3⟩ := hv
  obtain ⟨ar, capr, rfl, l1, l2, l3⟩ := hr
  obtain ⟨ac, capc, rfl, m1, m2, m3⟩ := hc
  clear k3 l3 m3 hx
  unfold matV at C1
  unfold matV noMat
  cases g1 : matB p r c xs
  · rw [g1] at C1
    clear h g1
    go_enter Try.func31, Try.ntmps31
    go_wp2_with (go_at_call 17; refine (C1.out _ (by repeat (first | exact Ext.refl _ | assumption | refine Ext.drew ?_ | refine Ext.drewN ?_ _ | refine Ext.alloc ?_ _ | refine Ext.trans ?_ (by assumption)))).mono ?_; rintro _ w1 ⟨rfl, x1⟩; have HR := hid (hb2.out.2.1.ext x1); have HE := hid (hb2.out.2.2.trans x1); obtain ⟨b0, b1, b2⟩ := HR.out.at3; have f0 := HR.out.frozen 0; have f1 := HR.out.frozen 1; have f2 := HR.out.frozen 2)
    have F := fin0 HR.out HE.out (by omega) (.int .i64 0) (.int .i64 0) (.slice none 0 0)
    refine bodyPost_ret (results_cell_row_tmp rfl _ _ (w.heap.size + 1) 25 _ (0, 0) _ rfl F.1 Try.underlying25 rfl (by kernel_rfl)) rfl ?_
    exact ⟨rfl, F.2⟩
  rw [g1, Bool.true_and] at h
  rw [g1] at C1
  cases g2 : picksB r rs
  · rw [g2] at CR
    clear h g1 g2
    go_enter Try.func31, Try.ntmps31
    go_wp2_with (first
      | (go_at_call 17; refine (C1.out _ (by repeat (first | exact Ext.refl _ | assumption | refine Ext.drew ?_ | refine Ext.drewN ?_ _ | refine Ext.alloc ?_ _ | refine Ext.trans ?_ (by assumption)))).mono ?_; rintro _ w1 ⟨rfl, x1⟩; have HR := hid (hb2.out.2.1.ext x1); have HE := hid (hb2.out.2.2.trans x1); obtain ⟨a0, a1, a2⟩ := (hb2.out.1.ext x1).at3; obtain ⟨b0, b1, b2⟩ := HR.out.at3; have f0 := HR.out.frozen 0; have f1 := HR.out.frozen 1; have f2 := HR.out.frozen 2)
      | (go_at_call 49; refine (CR.out _ HE.out).mono ?_; rintro _ _ ⟨rfl, rfl⟩))
    have F := fin0 HR.out HE.out (by omega) (.int .i64 0) (.int .i64 0) (.slice none 0 0)
    refine bodyPost_ret (results_cell_row_tmp rfl _ _ (w.heap.size + 1) 25 _ (0, 0) _ rfl F.1 Try.underlying25 rfl (by kernel_rfl)) rfl ?_
    exact ⟨rfl, F.2⟩
  rw [g2, Bool.true_and] at h
  rw [g2] at CR
  rw [h] at CC
  clear h g1 g2
  go_enter Try.func31, Try.ntmps31
  go_wp2_with (first
    | (go_at_call 17; refine (C1.out _ (by repeat (first | exact Ext.refl _ | assumption | refine Ext.drew ?_ | refine Ext.drewN ?_ _ | refine Ext.alloc ?_ _ | refine Ext.trans ?_ (by assumption)))).mono ?_; rintro _ w1 ⟨rfl, x1⟩; have HR := hid (hb2.out.2.1.ext x1); have HE := hid (hb2.out.2.2.trans x1); obtain ⟨a0, a1, a2⟩ := (hb2.out.1.ext x1).at3; obtain ⟨b0, b1, b2⟩ := HR.out.at3; have f0 := HR.out.frozen 0; have f1 := HR.out.frozen 1; have f2 := HR.out.frozen 2)
    | (go_at_call_of 49 ar; refine (CR.out _ HE.out).mono ?_; rintro _ _ ⟨rfl, rfl⟩)
    | (go_at_call_of 49 ac; refine (CC.out _ HE.out).mono ?_; rintro _ _ ⟨rfl, rfl⟩))
  have F := fin0 HR.out HE.out (by omega) (.int .i64 0) (.int .i64 0) (.slice none 0 0)
  refine bodyPost_ret (results_cell_row_tmp rfl _ _ (w.heap.size + 1) 25 _ (0, 0) _ rfl F.1 Try.underlying25 rfl (by kernel_rfl)) rfl ?_
  exact ⟨rfl, F.2⟩

set_option maxRecDepth 100000 in
set_option maxHeartbeats 2000000 in
theorem mxPick_yes (p : Int) (m n : Nat) (v vr vc : Value) (xs rs cs : List Int) (w : World) (ok : MatOk p m n xs) (hv : Ints .u64 w v xs) (hr : Ints .i64 w vr rs) (hc : Ints .i64 w vc cs) (gr : picksB m rs = true) (gc : picksB n cs = true) :
    Calls Try.prog 31 #[.int .u64 p, matV m n v, vr, vc] w (RetN rs.length cs.length (pickL n xs (nats rs) (nats cs)) w) := by
  have hp2 := rightB_true ok.hp
  have hb2 := hid (boxes2 w 25 25 #[.int .i64 (m : Int), .int .i64 (n : Int), v] #[.int .i64 0, .int .i64 0, .slice none 0 0])
  have C1 := hid fun (W : World) (hW : Ext w W) => mxRight p m n v xs W (by omega) (by omega) (hv.ext hW) ok.u64
  rw [ok.b] at C1
  have CR := hid fun (W : World) (hW : Ext w W) => mxPicks m vr rs W (hr.ext hW)
  have CC := hid fun (W : World) (hW : Ext w W) => mxPicks n vc cs W (hc.ext hW)
  rw [gr] at CR
  rw [gc] at CC
  have hrl := picksB_len gr
  have hcl := picksB_len gc
  have GR := hid gr; have GC := hid gc; have Ok := hid ok
  have hm := ok.hm; have hn := ok.hn
  obtain ⟨a, cap, rfl, k1, k2, k3⟩ := hv
  obtain ⟨b, off, rfl, hb, k4⟩ := k3 ok.pos
  have K := hid k4
  have hcap := hid fun (i : Nat) (h : i < m) => Nat.le_trans (ok.at_ h) k1
  obtain ⟨ar, capr, rfl, l1, l2, l3⟩ := hr
  obtain ⟨br, offr, rfl, hbr, l4⟩ := l3 hrl.1
  have KR := hid l4
  obtain ⟨ac, capc, rfl, m1, m2, m3⟩ := hc
  obtain ⟨bc, offc, rfl, hbc, m4⟩ := m3 hcl.1
  have KC := hid m4
  clear k3 k4 l3 l4 m3 m4 gr gc ok
  obtain ⟨R, hR⟩ : ∃ R, rs.length = R := ⟨_, rfl⟩
  obtain ⟨C, hC⟩ : ∃ C, cs.length = C := ⟨_, rfl⟩
  obtain ⟨Q, hQ⟩ : ∃ Q, R * C = Q := ⟨_, rfl⟩
  have HRl := hid hR; have HCl := hid hC; have HQ := hid hQ
  rw [hR] at hrl l1 ⊢
  rw [hC] at hcl m1 ⊢
  have hQb : Q ≤ 4096 := by rw [← hQ]; exact Nat.mul_le_mul hrl.2 hcl.2
  have HN := hid fun W : World => mxNoughts R C W hrl.2 hcl.2
  rw [hR] at CR
  rw [hC] at CC
  rw [hQ] at HN
  clear hR hC hQ
  unfold matV at C1
  unfold matV
  go_enter Try.func31, Try.ntmps31
  go_wp2_with (first
    | (go_at_call 17; refine (C1.out _ (by repeat (first | exact Ext.refl _ | assumption | refine Ext.drew ?_ | refine Ext.drewN ?_ _ | refine Ext.alloc ?_ _ | refine Ext.trans ?_ (by assumption)))).mono ?_; rintro _ w1 ⟨rfl, x1⟩; have HA := hid (hb2.out.1.ext x1); have HR := hid (hb2.out.2.1.ext x1); have HE := hid (hb2.out.2.2.trans x1); obtain ⟨b0, b1, b2⟩ := HA.out.at3)
    | (go_at_call_of 49 br; refine (CR.out _ HE.out).mono ?_; rintro _ _ ⟨rfl, rfl⟩)
    | (go_at_call_of 49 bc; refine (CC.out _ HE.out).mono ?_; rintro _ _ ⟨rfl, rfl⟩)
    | fail)
  have hR1 := HR.out.lt
  refine (HN.out _).mono ?_
  rintro _ w2 ⟨g, rfl, hg, hrow, x2⟩
  have HU := hid (Und.start (Q := Q) (r := (R : Int)) (c := (C : Int)) hg hrow List.length_replicate x2)
  unfold matV
  clear b0 b1 b2
  go_wp2_with fail
  obtain ⟨h, hh⟩ : ∃ h, w2.heap.size = h := ⟨_, rfl⟩
  obtain ⟨w3, hw3⟩ : ∃ w3, w2.alloc (.cells #[.int .i64 (R : Int), .int .i64 (C : Int), .slice (some ⟨g, 0, none⟩) Q Q] 25) = w3 := ⟨_, rfl⟩
  rw [hw3, hh] at HU
  rw [hw3, hh]
  clear hh hw3 hrow x2 hg
  obtain ⟨gR, hgR⟩ : ∃ gR, w.heap.size + 1 = gR := ⟨_, rfl⟩
  have hgw : w.heap.size ≤ gR := by omega
  rw [hgR] at HR hR1
  rw [hgR]
  obtain ⟨gA, hgA⟩ : ∃ gA, w.heap.size = gA := ⟨_, rfl⟩
  rw [hgA] at HA
  rw [hgA]
  clear hgR hgA hb2
  go_loopw [42] (fun iv wr => ∃ (i : Nat) (l : List Int), iv = .int .i64 i ∧ i ≤ R ∧ Hid (Und w1 wr h g Q R C l) ∧ Hid (∀ a b, b < C → a < i → l.getD (a * C + b) 0 = xs.getD ((nats rs).getD a 0 * n + (nats cs).getD b 0) 0)) (fun iv _ => R - (intOf iv).toNat)
  case atStart => exact ⟨0, _, rfl, Nat.zero_le _, HU, hid (by omega)⟩
  case round =>
    clear HU
    obtain ⟨i, l, rfl, hi, HU, hl⟩ := hrel
    obtain ⟨o0, o1, o2⟩ := HU.out.box.at3
    by_cases hlt : i < R
    · have gi := ((HE.out.trans HU.out.ext).cells _ _ hbr).trans (KR.out i (by rw [HRl.out]; exact hlt))
      obtain ⟨f, hf⟩ : ∃ f, (nats rs).getD i 0 = f := ⟨_, rfl⟩
      have hfg := nats_get GR.out (i := i) (by rw [HRl.out]; exact hlt)
      rw [hf] at hfg
      rw [hfg.1] at gi
      have hfm := hfg.2
      have Hf := hid hf
      clear hf hfg
      go_wp2_with fail
      refine (mxRow (R : Int) (C : Int) C i g 0 Q Q wr rfl hcl (by omega) (by rw [← HQ.out, ← Nat.succ_mul]; exact Nat.mul_le_mul_right _ hlt) (by omega)).mono ?_
      rintro _ w5 ⟨rfl, x5⟩
      rw [Nat.zero_add]
      have hoQ : i * C + C ≤ Q := by rw [← HQ.out, ← Nat.succ_mul]; exact Nat.mul_le_mul_right _ hlt
      obtain ⟨o, ho⟩ : ∃ o, i * C = o := ⟨_, rfl⟩
      obtain ⟨cp, hcp⟩ : ∃ cp, Q - o = cp := ⟨_, rfl⟩
      rw [ho] at hoQ
      rw [ho, hcp]
      have hcpn : C ≤ cp := by omega
      have hcpb : cp ≤ 9223372036854775807 := by omega
      have Ho := hid ho
      clear ho hcp o0 o1 o2 gi
      have hck := hcap.out f hfm
      have hcells := fun (j : Nat) (hj : j < n) => K.out (f * n + j) (by have := Ok.out.at_ hfm; omega)
      simp only [← Nat.add_assoc] at hcells
      have hfn : f * n + n ≤ cap := hck
      go_wp2_with fail
      go_loopw [52] (fun jv wr => ∃ (j : Nat) (l : List Int), jv = .int .i64 j ∧ j ≤ C ∧ Hid (Und w1 wr h g Q R C l) ∧ Hid (∀ a b, b < C → (a < i ∨ a = i ∧ b < j) → l.getD (a * C + b) 0 = xs.getD ((nats rs).getD a 0 * n + (nats cs).getD b 0) 0)) (fun jv _ => C - (intOf jv).toNat)
      case atStart => exact ⟨0, l, rfl, Nat.zero_le _, hid (HU.out.ext' x5), hid fun a b hb ha => hl.out a b hb (by omega)⟩
      case round =>
        clear HU hl
        obtain ⟨j, l, rfl, hj, HU, hl⟩ := hrel
        rename World => wi
        by_cases hlj : j < C
        · have gj := ((HE.out.trans HU.out.ext).cells _ _ hbc).trans (KC.out j (by rw [HCl.out]; exact hlj))
          obtain ⟨e, he⟩ : ∃ e, (nats cs).getD j 0 = e := ⟨_, rfl⟩
          have heg := nats_get GC.out (i := j) (by rw [HCl.out]; exact hlj)
          rw [he] at heg
          rw [heg.1] at gj
          have hen := heg.2
          have He := hid he
          clear he heg
          have gx := hcells e hen
          obtain ⟨x, ex⟩ : ∃ x, xs.getD (f * n + e) 0 = x := ⟨_, rfl⟩
          rw [ex] at gx
          have Ex := hid ex
          have HC := hid hcells
          clear ex hcells
          obtain ⟨b0, b1, b2⟩ := (HA.out.ext HU.out.ext).at3
          go_wp2_with fail
          refine (mxRow (m : Int) (n : Int) n f b off xs.length cap wi rfl hn (by omega) hck k2).mono ?_
          rintro _ w6 ⟨rfl, x6⟩
          have gx6 := ((HE.out.trans (HU.out.ext.trans x6)).cells _ _ hb).trans gx
          obtain ⟨s, hs⟩ : ∃ s, off + f * n = s := ⟨_, rfl⟩
          obtain ⟨cq, hcq⟩ : ∃ cq, cap - f * n = cq := ⟨_, rfl⟩
          rw [hs] at gx6
          rw [hs, hcq]
          have hcqn : n ≤ cq := by omega
          obtain ⟨t, ht⟩ : ∃ t, o + j = t := ⟨_, rfl⟩
          have htQ : t < Q := by omega
          have Ht := hid (show i * C + j = t by rw [Ho.out]; exact ht)
          obtain ⟨gt, ft⟩ := (HU.out.ext' x6).at_ htQ
          clear hs hcq gx hfn hck b0 b1 b2
          go_wp2_with fail
          go_roundw
          case rel =>
            refine ⟨j + 1, l.set t x, by go_num, by omega, hid ((HU.out.ext' x6).put htQ x), hid fun a b hb ha => ?_⟩
            rw [← Ht.out, put_at x hlj hb (by rw [Ht.out, HU.out.len]; exact htQ)]
            by_cases e : a = i ∧ b = j
            · rw [if_pos e, e.1, e.2, Hf.out, He.out]; exact Ex.out.symm
            · rw [if_neg e]; exact hl.out a b hb (by omega)
          case measure => simp [intOf]; omega
        · obtain rfl : C = j := by omega
          go_wp2_with fail
          go_roundw
          case rel => exact ⟨i + 1, l, by go_num, by omega, HU, hid fun a b hb ha => hl.out a b hb (by omega)⟩
          case measure => simp [intOf]; omega
    · obtain rfl : R = i := by omega
      have hRr := HR.out.ext HU.out.ext
      obtain ⟨r0, r1, r2⟩ := hRr.at3
      have f0 := hRr.frozen 0
      have f1 := hRr.frozen 1
      have f2 := hRr.frozen 2
      have FF := hid (HU.out.fin hRr hR1 (HE.out.trans HU.out.ext) hgw (by omega))
      clear hRr
      go_wp2_with fail
      refine bodyPost_ret (results_cell_row_tmp rfl _ _ gR 25 _ (0, 0) _ rfl FF.out.1 Try.underlying25 rfl (by kernel_rfl)) rfl ?_
      have e : l = pickL n xs (nats rs) (nats cs) := by
        unfold pickL
        rw [nats_len, nats_len, HRl.out, HCl.out]
        exact grid_of (by rw [HU.out.len, HQ.out]) fun a b ha hb => hl.out a b hb ha
      exact ⟨_, rfl, e ▸ FF.out.2.1, FF.out.2.2⟩
end Go.Proofs.Ytlociefncogjeaa
