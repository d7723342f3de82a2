/- Package cup: Rank, Profile, Det. -/
import Derived.Test.YtjdbkbbhjiemdaaCm5
import Derived.Test.YtjdbkbbhjiemdaaCupB2
import Derived.Test.YtjdbkbbhjiemdaaCupB6
namespace Go.Proofs.Ytjdbkbbhjiemdaa
open Go.RowKit Go.Maps

set_option maxHeartbeats 1000000 in
theorem cmRank (p : Int) (m n : Nat) (v : Value) (xs : List Int) (w : World) (ok : MatOk p m n xs) (hf : Fld p) (hv : Ints .u64 w v xs) : Calls Try.prog 28 #[.int .u64 p, matV m n v] w (Ret (.tuple #[.int .i64 (takeL p m n xs).U.length, .int .i64 0]) w) := by
  have C := hid fun (W : World) (hW : Ext w W) => cmTake p m n v xs W ok hf (hv.ext hW)
  have hl := profZ_len ok hf
  obtain ⟨st, est⟩ : ∃ st, takeL p m n xs = st := ⟨_, rfl⟩
  obtain ⟨pr, epr⟩ : ∃ pr, profZ p m n xs = pr := ⟨_, rfl⟩
  rw [est, epr] at C hl
  rw [est]
  have hst := takeL_ok (m := m) (n := n) (rightB_true ok.hp).1 hf ok.hx
  have hU : st.U.length ≤ 64 := by rw [← est]; have := hst.le; have := ok.hm; omega
  have Hl := hid hl
  unfold matV at C ⊢
  clear hv ok est epr hst hl
  go_enter Try.func28, Try.ntmps28
  go_wp2_with (go_at_call 64; refine (C.out _ (by repeat (first | exact Ext.refl _ | assumption | refine Ext.drew ?_ | refine Ext.drewN ?_ _ | refine Ext.alloc ?_ _ | refine Ext.trans ?_ (by assumption)))).mono ?_; rintro _ w1 ⟨rv, cv, Cv, Uv, rfl, h1, h2, h3, h4, x1⟩
               obtain ⟨ar, cr, rfl, -, -, -⟩ := h1
               rw [Hl.out]
               obtain ⟨ac, cc, rfl, -, -, -⟩ := h2
               obtain ⟨aC, cC, rfl, -, -, -⟩ := h3
               obtain ⟨aU, cU, rfl, -, -, -⟩ := h4)
  go_ret2
  exact ⟨rfl, (by repeat (first | exact Ext.refl _ | assumption | refine Ext.drew ?_ | refine Ext.drewN ?_ _ | refine Ext.alloc ?_ _ | refine Ext.trans ?_ (by assumption)))⟩

set_option maxHeartbeats 1000000 in
theorem cmProfile (p : Int) (m n : Nat) (v : Value) (xs : List Int) (w : World) (ok : MatOk p m n xs) (hf : Fld p) (hv : Ints .u64 w v xs) : Calls Try.prog 29 #[.int .u64 p, matV m n v] w (RetVI (profZ p m n xs) w) := by
  have C := hid fun (W : World) (hW : Ext w W) => cmTake p m n v xs W ok hf (hv.ext hW)
  obtain ⟨st, est⟩ : ∃ st, takeL p m n xs = st := ⟨_, rfl⟩
  obtain ⟨pr, epr⟩ : ∃ pr, profZ p m n xs = pr := ⟨_, rfl⟩
  rw [est, epr] at C
  rw [epr]
  unfold matV at C ⊢
  clear hv ok est epr
  go_enter Try.func29, Try.ntmps29
  go_wp2_with (go_at_call 64; refine (C.out _ (by repeat (first | exact Ext.refl _ | assumption | refine Ext.drew ?_ | refine Ext.drewN ?_ _ | refine Ext.alloc ?_ _ | refine Ext.trans ?_ (by assumption)))).mono ?_; rintro _ w1 ⟨rv, cv, Cv, Uv, rfl, h1, h2, h3, h4, x1⟩
               have H1 := hid h1
               obtain ⟨ar, cr, rfl, -, -, -⟩ := h1
               obtain ⟨ac, cc, rfl, -, -, -⟩ := h2
               obtain ⟨aC, cC, rfl, -, -, -⟩ := h3
               obtain ⟨aU, cU, rfl, -, -, -⟩ := h4)
  go_ret2
  exact ⟨_, rfl, H1.out.ext (by repeat (first | exact Ext.refl _ | assumption | refine Ext.drew ?_ | refine Ext.drewN ?_ _ | refine Ext.alloc ?_ _ | refine Ext.trans ?_ (by assumption))), (by repeat (first | exact Ext.refl _ | assumption | refine Ext.drew ?_ | refine Ext.drewN ?_ _ | refine Ext.alloc ?_ _ | refine Ext.trans ?_ (by assumption)))⟩
/-- what Take answers where the matrix isn't right -/
def noCup : Value := .tuple #[.agg #[.slice none 0 0, .slice none 0 0, .slice none 0 0, .slice none 0 0], .int .i64 1]
set_option maxHeartbeats 1000000 in
theorem cmTake_no (p r c : Int) (v : Value) (xs : List Int) (w : World) (h0 : 0 ≤ p) (h1 : p ≤ 18446744073709551615) (hv : Ints .u64 w v xs) (hx : U64s xs) (h : matB p r c xs = false) : Calls Try.prog 64 #[.int .u64 p, matV r c v] w (Ret noCup w) := by
  have C1 := hid fun (W : World) (hW : Ext w W) => mxRight p r c v xs W h0 h1 (hv.ext hW) hx
  rw [h] at C1
  unfold matV at C1
  unfold matV noCup
  obtain ⟨a, cap, rfl, k1, k2, k3⟩ := hv
  have hb2 := hid (boxes2 w 25 63 #[.int .i64 r, .int .i64 c, .slice a xs.length cap] #[.slice none 0 0, .slice none 0 0, .slice none 0 0, .slice none 0 0])
  have hE := hid (Blk.new ((w.alloc (.cells #[.int .i64 r, .int .i64 c, .slice a xs.length cap] 25)).alloc (.cells #[.slice none 0 0, .slice none 0 0, .slice none 0 0, .slice none 0 0] 63)) 28 #[.int .i64 0])
  rw [alloc_size, alloc_size] at hE
  clear k3 hx h
  go_enter Try.func64, Try.ntmps64
  go_wp2_with (go_at_call 23; refine (C1.out _ (by repeat (first | exact Ext.refl _ | assumption | refine Ext.drew ?_ | refine Ext.drewN ?_ _ | refine Ext.alloc ?_ _ | refine Ext.trans ?_ (by assumption)))).mono ?_; rintro _ w1 ⟨rfl, x1⟩
               have HR := hid ((hb2.out.2.1.ext ((Ext.refl _).alloc (.cells #[.int .i64 0] 28))).ext x1); have HE := hid (hE.out.ext x1); have HX := hid ((hb2.out.2.2.alloc (.cells #[.int .i64 0] 28)).trans x1)
               obtain ⟨b0, b1, b2, b3⟩ := HR.out.at4; have f0 := HR.out.frozen 0; have f1 := HR.out.frozen 1; have f2 := HR.out.frozen 2; have f3 := HR.out.frozen 3
               have e0 := HE.out.cell 0; have g0 := HE.out.frozen 0)
  have g1 := (((HR.out.set_ 0 (.slice none 0 0)).set_ 1 (.slice none 0 0)).set_ 2 (.slice none 0 0)).set_ 3 (.slice none 0 0)
  have g2 := g1.grown (setCell_grown _ ⟨w.heap.size + 1 + 1, 0, none⟩ (.int .i64 1)) (by simp)
  have g3 := ((((HE.out.grown (setCell_grown _ ⟨w.heap.size + 1, 0, none⟩ (.slice none 0 0)) (by simp)).grown (setCell_grown _ ⟨w.heap.size + 1, 1, none⟩ (.slice none 0 0)) (by simp)).grown (setCell_grown _ ⟨w.heap.size + 1, 2, none⟩ (.slice none 0 0)) (by simp)).grown (setCell_grown _ ⟨w.heap.size + 1, 3, none⟩ (.slice none 0 0)) (by simp)).set_ 0 (.int .i64 1)
  have l1 : w.heap.size ≤ w.heap.size + 1 := by omega
  have l2 : w.heap.size ≤ w.heap.size + 1 + 1 := by omega
  have hE9 := ((((HX.out.setCell (p := ⟨w.heap.size + 1, 0, none⟩) l1 (.slice none 0 0)).setCell (p := ⟨w.heap.size + 1, 1, none⟩) l1 (.slice none 0 0)).setCell (p := ⟨w.heap.size + 1, 2, none⟩) l1 (.slice none 0 0)).setCell (p := ⟨w.heap.size + 1, 3, none⟩) l1 (.slice none 0 0)).setCell (p := ⟨w.heap.size + 1 + 1, 0, none⟩) l2 (.int .i64 1)
  refine bodyPost_ret (results_cell_row_cell rfl _ _ (w.heap.size + 1) 63 _ (0, 0) _ rfl g2 Try.underlying63 rfl (by kernel_rfl) (.int .i64 1) (w.heap.size + 1 + 1) rfl (load_errno g3)) rfl ?_
  exact ⟨rfl, hE9⟩

set_option maxHeartbeats 400000 in
theorem cmDet_ne (p r c : Int) (v : Value) (xs : List Int) (w : World) (hv : Ints .u64 w v xs) (h : r ≠ c) : Calls Try.prog 31 #[.int .u64 p, matV r c v] w (Ret (.tuple #[.int .u64 0, .int .i64 1]) w) := by
  unfold matV
  obtain ⟨a, cap, rfl, k1, k2, k3⟩ := hv
  clear k3
  go_enter Try.func31, Try.ntmps31
  go_wp2_with fail
  go_ret2
  exact ⟨rfl, (by repeat (first | exact Ext.refl _ | assumption | refine Ext.drew ?_ | refine Ext.drewN ?_ _ | refine Ext.alloc ?_ _ | refine Ext.trans ?_ (by assumption)))⟩
set_option maxHeartbeats 1000000 in
theorem cmDet_no (p r c : Int) (v : Value) (xs : List Int) (w : World) (h0 : 0 ≤ p) (h1 : p ≤ 18446744073709551615) (hv : Ints .u64 w v xs) (hx : U64s xs) (h : matB p r c xs = false) (hrc : r = c) : Calls Try.prog 31 #[.int .u64 p, matV r c v] w (Ret (.tuple #[.int .u64 0, .int .i64 1]) w) := by
  subst hrc
  have C := hid fun (W : World) (hW : Ext w W) => cmTake_no p r r v xs W h0 h1 (hv.ext hW) hx h
  unfold matV noCup at C
  unfold matV
  obtain ⟨a, cap, rfl, k1, k2, k3⟩ := hv
  clear k3 hx h
  go_enter Try.func31, Try.ntmps31
  go_wp2_with (go_at_call 64; refine (C.out _ (by repeat (first | exact Ext.refl _ | assumption | refine Ext.drew ?_ | refine Ext.drewN ?_ _ | refine Ext.alloc ?_ _ | refine Ext.trans ?_ (by assumption)))).mono ?_; rintro _ w1 ⟨rfl, x1⟩)
  go_ret2
  exact ⟨rfl, (by repeat (first | exact Ext.refl _ | assumption | refine Ext.drew ?_ | refine Ext.drewN ?_ _ | refine Ext.alloc ?_ _ | refine Ext.trans ?_ (by assumption)))⟩

/-- a determinant, or that something isn't right -/
noncomputable def detV (p r c : Int) (xs : List Int) : Int := if (matB p r c xs && decide (r = c)) = true then detF r.toNat (atF r.toNat xs) % p else 0
def detErr (p r c : Int) (xs : List Int) : Int := if (matB p r c xs && decide (r = c)) = true then 0 else 1
theorem neg_mod (p x : Int) : (0 - x % p) % p = (x * -1) % p := by
  rw [ms_r]
  congr 1
  omega

set_option maxRecDepth 100000 in
set_option maxHeartbeats 1000000 in
theorem cmDet_yes (p : Int) (n : Nat) (v : Value) (xs : List Int) (w : World) (ok : MatOk p n n xs) (hf : Fld p) (hv : Ints .u64 w v xs) : Calls Try.prog 31 #[.int .u64 p, matV n n v] w (Ret (.tuple #[.int .u64 (detF n (atF n xs) % p), .int .i64 0]) w) := by
  have hp2 := rightB_true ok.hp
  have C := hid fun (W : World) (hW : Ext w W) => cmTake p n n v xs W ok hf (hv.ext hW)
  have hlc := colsZ_len ok hf
  have hlr := profZ_len ok hf
  have hst := takeL_ok (m := n) (n := n) hp2.1 hf ok.hx
  have hd := hst.det (hf.has hp2.1)
  rw [rowsF_det] at hd
  have hn := ok.hm
  obtain ⟨D, eD⟩ : ∃ D, detF n (atF n xs) % p = D := ⟨_, rfl⟩
  rw [eD] at hd
  rw [eD]
  obtain ⟨st, est⟩ : ∃ st, takeL p n n xs = st := ⟨_, rfl⟩
  obtain ⟨pr, epr⟩ : ∃ pr, profZ p n n xs = pr := ⟨_, rfl⟩
  rw [est] at C hlc hlr hst hd
  rw [epr] at C hlr
  obtain ⟨CP, eCP⟩ : ∃ CP, st.C.map (padL st.U.length) = CP := ⟨_, rfl⟩
  rw [eCP] at C
  have HP := hid ok.hp; have Hst := hid hst
  obtain ⟨r, er⟩ : ∃ r, st.U.length = r := ⟨_, rfl⟩
  rw [er] at hlc hlr
  have hrn : r ≤ n := by rw [← er]; exact hst.le
  have Hlc := hid hlc; have Hlr := hid hlr; have Er := hid er
  obtain ⟨a, cap, rfl, k1, k2, k3⟩ := hv
  unfold detE at hd
  rw [er] at hd
  unfold matV at C ⊢
  by_cases hlt : r < n
  · rw [if_pos hlt, Int.zero_emod] at hd
    subst hd
    clear k3 ok est epr hst hlc hlr er eD eCP
    go_enter Try.func31, Try.ntmps31
    go_wp2_with (go_at_call 64; refine (C.out _ (by repeat (first | exact Ext.refl _ | assumption | refine Ext.drew ?_ | refine Ext.drewN ?_ _ | refine Ext.alloc ?_ _ | refine Ext.trans ?_ (by assumption)))).mono ?_; rintro _ w1 ⟨rv, cv, Cv, Uv, rfl, h1, h2, h3, h4, x1⟩
                 obtain ⟨ar, cr, rfl, -, -, -⟩ := h1
                 rw [Hlr.out]
                 obtain ⟨ac, cc, rfl, -, -, -⟩ := h2
                 rw [Hlc.out]
                 obtain ⟨aC, cC, rfl, -, -, -⟩ := h3
                 obtain ⟨aU, cU, rfl, -, -, -⟩ := h4
                 rw [Er.out]
                 obtain ⟨b0, b1, b2⟩ := ((Blk.new w 25 #[.int .i64 (n : Int), .int .i64 (n : Int), .slice a xs.length cap]).ext x1).at3
                 obtain ⟨d0, d1, d2⟩ := ((Blk.new w 25 #[.int .i64 (n : Int), .int .i64 (n : Int), .slice a xs.length cap]).ext (x1.alloc (.cells #[.slice ar r cr, .slice ac r cc, .slice aC CP.length cC, .slice aU r cU] 63))).at3)
    go_ret2
    exact ⟨rfl, (by repeat (first | exact Ext.refl _ | assumption | refine Ext.drew ?_ | refine Ext.drewN ?_ _ | refine Ext.alloc ?_ _ | refine Ext.trans ?_ (by assumption)))⟩
  · obtain rfl : r = n := by omega
    rw [if_neg hlt] at hd
    have hsgn := hid (qmSign)
    have hord := hst.cols_ord er
    have hob := hord.b (by omega) hn.2
    have S := hid fun (W : World) (u : Value) (hu : Ints .i64 W u (colsZ st)) => qmSign u (colsZ st) W hu
    simp only [hob, if_true] at S
    obtain ⟨sg, esg⟩ : ∃ sg, sgnL (colsZ st) = sg := ⟨_, rfl⟩
    have hsg : sg = 1 ∨ sg = -1 := esg ▸ sgn_or _
    rw [esg] at S hd
    obtain ⟨d, ed⟩ : ∃ d : Nat → Int, (fun k => (st.U.getD k []).getD (st.cols.getD k 0) 0) = d := ⟨_, rfl⟩
    rw [ed] at hd
    have hD := hid hd
    have hdr := hid fun (k : Nat) (hk : k < r) => (show d k = (st.U.getD k []).getD (st.cols.getD k 0) 0 ∧ 0 ≤ d k ∧ d k < p ∧ st.cols.getD k 0 < r ∧ (st.U.getD k []).length = r from by
      have h := hst.row k (by rw [er]; exact hk)
      refine ⟨(congrFun ed k).symm, ?_, ?_, h.2.2.1, h.1⟩
      · rw [← ed]; exact (h.2.1.getD hp2.1 _).1
      · rw [← ed]; exact (h.2.1.getD hp2.1 _).2)
    have hDr := mod_range (detF r (atF r xs)) hp2.1
    rw [eD] at hDr
    obtain ⟨KZ, eKZ⟩ : ∃ KZ, colsZ st = KZ := ⟨_, rfl⟩
    have hKZ := hid fun (k : Nat) (hk : k < r) => (show KZ.getD k 0 = (st.cols.getD k 0 : Int) from by
      have := hst.lk
      rw [← eKZ]; unfold colsZ
      rw [List.getD, List.getElem?_map, List.getElem?_eq_getElem (show k < st.cols.length by omega)]
      simp [List.getD, show k < st.cols.length by omega])
    rw [eKZ] at C S Hlc
    obtain ⟨UU, eUU⟩ : ∃ UU, st.U = UU := ⟨_, rfl⟩
    rw [eUU] at C hdr Er
    obtain ⟨cl, ecl⟩ : ∃ cl : Nat → Nat, (fun k => st.cols.getD k 0) = cl := ⟨_, rfl⟩
    have hcl := hid fun k => (congrFun ecl k : st.cols.getD k 0 = cl k)
    have h1p : (1 : Int) % p = 1 := Int.emod_eq_of_lt (by omega) (by omega)
    have H1p := hid h1p
    clear k3 ok est epr hst hlc hlr er eD eCP hord hob esg ed hd eKZ eUU ecl hlt Hst h1p hsgn
    go_enter Try.func31, Try.ntmps31
    go_wp2_with (go_at_call 64; refine (C.out _ (by repeat (first | exact Ext.refl _ | assumption | refine Ext.drew ?_ | refine Ext.drewN ?_ _ | refine Ext.alloc ?_ _ | refine Ext.trans ?_ (by assumption)))).mono ?_; rintro _ w1 ⟨rv, cv, Cv, Uv, rfl, h1, h2, h3, h4, x1⟩
                 have I2 := hid h2; have I4 := hid h4
                 obtain ⟨ar, cr, rfl, -, -, -⟩ := h1
                 rw [Hlr.out]
                 obtain ⟨ac, cc, rfl, -, -, K2⟩ := h2
                 rw [Hlc.out] at K2 I2 ⊢
                 obtain ⟨aC, cC, rfl, -, -, -⟩ := h3
                 obtain ⟨aU, cU, rfl, -, -, K4⟩ := h4
                 rw [Er.out] at K4 I4 ⊢
                 have K2 := hid K2; have K4 := hid K4
                 have hB := hid (Blk.new w1 63 #[.slice ar r cr, .slice ac r cc, .slice aC CP.length cC, .slice aU r cU])
                 obtain ⟨b0, b1, b2⟩ := ((Blk.new w 25 #[.int .i64 (r : Int), .int .i64 (r : Int), .slice a xs.length cap]).ext x1).at3
                 have x2 := x1.alloc (.cells #[.slice ar r cr, .slice ac r cc, .slice aC CP.length cC, .slice aU r cU] 63)
                 obtain ⟨d0, d1, d2⟩ := ((Blk.new w 25 #[.int .i64 (r : Int), .int .i64 (r : Int), .slice a xs.length cap]).ext x2).at3)
    obtain ⟨w2, hw2⟩ : ∃ w2, w1.alloc (.cells #[.slice ar r cr, .slice ac r cc, .slice aC CP.length cC, .slice aU r cU] 63) = w2 := ⟨_, rfl⟩
    have y2 : Ext w1 w2 := hw2 ▸ (Ext.refl w1).alloc _
    rw [hw2] at hB x2 ⊢
    clear hw2 b0 b1 b2 d0 d1 d2
    obtain ⟨G, eG⟩ : ∃ G, w1.heap.size = G := ⟨_, rfl⟩
    rw [eG] at hB ⊢
    clear eG
    go_loopw [38, 8] (fun kv pv wr => ∃ (k : Nat) (q : Int), kv = .int .i64 k ∧ pv = .int .u64 q ∧ k ≤ r ∧ Hid (q = prN k d % p) ∧ Ext w2 wr) (fun kv _ _ => r - (intOf kv).toNat)
    case atStart => exact ⟨0, 1, rfl, rfl, Nat.zero_le _, hid H1p.out.symm, Ext.refl _⟩
    case round =>
      obtain ⟨k, q, rfl, rfl, hk, hq, hxr⟩ := hrel
      obtain ⟨b0, b1, b2, b3⟩ := (hB.out.ext hxr).at4
      by_cases hlk : k < r
      · obtain ⟨bk, fk, rfl, hbk, q2⟩ := K2.out (by omega)
        replace q2 := ((y2.trans hxr).cells _ _ hbk).trans (q2 k hlk)
        rw [hKZ.out k hlk, hcl.out] at q2
        obtain ⟨bu, fu, rfl, hbu, q4⟩ := K4.out (by omega)
        replace q4 := q4 k hlk
        obtain ⟨u, q4, iu⟩ := q4
        replace q4 := ((y2.trans hxr).cells _ _ hbu).trans q4
        replace iu := iu.ext (y2.trans hxr)
        obtain ⟨e1, e2, e3, e4, e5⟩ := hdr.out k hlk
        rw [hcl.out] at e1 e4
        obtain ⟨au, cu, rfl, -, -, k5⟩ := iu
        rw [e5] at q4 k5
        obtain ⟨br, fr, rfl, hbr, q6⟩ := k5 (by omega)
        replace q6 := q6 (cl k) e4
        rw [← e1] at q6
        have hqr := mod_range (prN k d) hp2.1
        rw [← hq.out] at hqr
        have hnx : q * d k % p = prN (k + 1) d % p := by rw [hq.out, Int.mul_emod, Int.emod_emod, ← Int.mul_emod]; rfl
        obtain ⟨z, ez⟩ : ∃ z, d k = z := ⟨_, rfl⟩
        rw [ez] at q6 e2 e3 hnx
        obtain ⟨t, et⟩ : ∃ t, prN (k + 1) d % p = t := ⟨_, rfl⟩
        rw [et] at hnx
        obtain ⟨y, ey⟩ : ∃ y, cl k = y := ⟨_, rfl⟩
        rw [ey] at q2 q6 e4
        have Hnx := hid hnx; have Et := hid et
        clear hnx et ez ey e1 e5 k5 hbr hbu hbk
        go_wp2_with (go_at_call 66; refine (mul_as p q z t _ HP.out hqr.1 hqr.2 e2 e3 Hnx.out).mono ?_; rintro _ w5 ⟨rfl, x5⟩)
        go_roundw
        case rel => exact ⟨k + 1, t, by go_num, rfl, by omega, hid Et.out.symm, hxr.trans x5⟩
        case measure => simp [intOf]; omega
      · obtain rfl : r = k := by omega
        have hqr := mod_range (prN r d) hp2.1
        rw [← hq.out] at hqr
        rcases hsg with rfl | rfl
        · have hq2 := hid (show q = D by rw [hD.out, hq.out, Int.mul_one])
          go_wp2_with (go_at_call 67; refine (S.out _ _ (I2.out.ext (y2.trans hxr))).mono ?_; rintro _ w3 ⟨rfl, x3⟩)
          go_ret2
          exact ⟨ret_int2 hq2.out rfl, (by repeat (first | exact Ext.refl _ | assumption | refine Ext.drew ?_ | refine Ext.drewN ?_ _ | refine Ext.alloc ?_ _ | refine Ext.trans ?_ (by assumption)))⟩
        · have hq2 := hid (show (0 - q) % p = D by rw [hD.out, hq.out, neg_mod])
          go_wp2_with (first
            | (go_at_call 67; refine (S.out _ _ (I2.out.ext (y2.trans hxr))).mono ?_; rintro _ w3 ⟨rfl, x3⟩)
            | (go_at_call 68; refine (sub_as p 0 q D _ HP.out (by omega) (by omega) hqr.1 hqr.2 hq2.out).mono ?_; rintro _ w4 ⟨rfl, x4⟩))
          go_ret2
          exact ⟨rfl, (by repeat (first | exact Ext.refl _ | assumption | refine Ext.drew ?_ | refine Ext.drewN ?_ _ | refine Ext.alloc ?_ _ | refine Ext.trans ?_ (by assumption)))⟩

theorem cmDet (p r c : Int) (v : Value) (xs : List Int) (w : World) (h0 : 0 ≤ p) (h1 : p ≤ 18446744073709551615) (hv : Ints .u64 w v xs) (hx : U64s xs) (hf : rightB p = true → Fld p) : Calls Try.prog 31 #[.int .u64 p, matV r c v] w (Ret (.tuple #[.int .u64 (detV p r c xs), .int .i64 (detErr p r c xs)]) w) := by
  by_cases hrc : r = c
  · cases hm : matB p r c xs with
    | true =>
      obtain ⟨h2, h3, m, n, rfl, rfl, h4, h5, h6, h7, h8⟩ := (matB_iff hx).1 hm
      have hmn : m = n := by omega
      subst hmn
      have e : (matB p m m xs && decide ((m : Int) = (m : Int))) = true := by rw [hm]; simp
      unfold detV detErr
      rw [if_pos e, if_pos e, Int.toNat_natCast]
      exact cmDet_yes p m v xs w ⟨h2, h3, ⟨h4, h5⟩, ⟨h4, h5⟩, h8⟩ (hf h2) hv
    | false =>
      have e : ¬ (matB p r c xs && decide (r = c)) = true := by rw [hm]; simp
      unfold detV detErr
      rw [if_neg e, if_neg e]
      exact cmDet_no p r c v xs w h0 h1 hv hx hm hrc
  · have e : ¬ (matB p r c xs && decide (r = c)) = true := by simp [hrc]
    unfold detV detErr
    rw [if_neg e, if_neg e]
    exact cmDet_ne p r c v xs w hv hrc
end Go.Proofs.Ytjdbkbbhjiemdaa
