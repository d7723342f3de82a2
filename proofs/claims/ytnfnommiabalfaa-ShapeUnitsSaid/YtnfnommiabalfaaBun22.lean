/- What the texts Sh8, ShC, Awake13 show, in one text. -/
import Derived.Test.YtnfnommiabalfaaBun21
import Derived.Test.YtnfnommiabalfaaBun19
import Derived.Test.YtnfnommiabalfaaShpO
import Derived.Test.YtnfnommiabalfaaBun16
import Derived.Test.YtnfnommiabalfaaShD
import Derived.Test.YtnfnommiabalfaaBun13
import Derived.Test.YtnfnommiabalfaaBun05
/- Package shape: Det, Cost. -/
namespace Go.Proofs.Ytnfnommiabalfaa
open Go.RowKit Go.Maps

set_option maxRecDepth 100000 in
set_option maxHeartbeats 1000000 in
theorem shDet (p : Int) (R K : List Int) (C U : List (List Int)) (rv kv cv uv : Value) (w : World) (n : Nat) (hf : Fld p) (hs : ShpZ p n n R K C U) (hc : ClmR w rv kv cv uv R K C U) :
    Calls Try.prog 16 #[.int .u64 p, .agg #[rv, kv, cv, uv], .int .i64 n] w (Ret (.tuple #[.int .u64 (detF n (atF n (makeL p C U n n)) % p), .int .i64 0]) w) := by
  obtain ⟨m', n', e1, e2, co, lr, lk⟩ := hs.ok
  have e1' : n = m' := by omega
  have e2' : n = n' := by omega
  subst e1'
  subst e2'
  have ok := co.made
  have hp2 := rightB_true ok.hp
  obtain ⟨-, tK, -, tU⟩ := hs.taken hf
  have CH := hid fun (W : World) (hW : Ext w W) => shHas p R K C U rv kv cv uv W n n (by omega) (by omega) (hc.ext hW) (fun l hl => (co.c l hl).2.u64 hp2.2) (fun l hl => (co.u l hl).2.u64 hp2.2)
  rw [shpB_iff.2 hs] at CH
  obtain ⟨xs, exs⟩ : ∃ xs, makeL p C U n n = xs := ⟨_, rfl⟩
  rw [exs] at ok tK tU ⊢
  have hst := takeL_ok (m := n) (n := n) hp2.1 hf ok.hx
  have hd := hst.det (hf.has hp2.1)
  rw [rowsF_det] at hd
  have hn := ok.hm
  obtain ⟨D, eD⟩ : ∃ D, detF n (atF n xs) % p = D := ⟨_, rfl⟩
  rw [eD] at hd
  rw [eD]
  obtain ⟨st, est⟩ : ∃ st, takeL p n n xs = st := ⟨_, rfl⟩
  rw [est] at hst hd tK tU
  have HP := hid ok.hp
  obtain ⟨r, er⟩ : ∃ r, st.U.length = r := ⟨_, rfl⟩
  have erU : U.length = r := by rw [← tU]; exact er
  have hrn : r ≤ n := by rw [← er]; exact hst.le
  have Hlc := hid (show K.length = r by rw [lk, erU]); have Hlr := hid (show R.length = r by rw [lr, erU]); have Er := hid erU
  unfold detE at hd
  rw [er] at hd
  have K2 := hid hc.k
  have K4 := hid hc.u
  obtain ⟨q1, q2, q3, q4⟩ := hc
  obtain ⟨a1, c1, rfl, -, -, -⟩ := q1
  obtain ⟨a2, c2, rfl, -, -, -⟩ := q2
  obtain ⟨a3, c3, rfl, -, -, -⟩ := q3
  obtain ⟨a4, c4, rfl, -, -, -⟩ := q4
  rw [Hlc.out, Hlr.out, Er.out] at CH ⊢
  rw [Hlc.out] at K2
  rw [Er.out] at K4
  have hB := hid (show Blk (w.alloc (.cells #[.slice a1 r c1, .slice a2 r c2, .slice a3 C.length c3, .slice a4 r c4] 29)) w.heap.size 29 #[.slice a1 r c1, .slice a2 r c2, .slice a3 C.length c3, .slice a4 r c4] from Blk.new w _ _)
  have hX := hid (show Ext w (w.alloc (.cells #[.slice a1 r c1, .slice a2 r c2, .slice a3 C.length c3, .slice a4 r c4] 29)) from (Ext.refl w).alloc _)
  by_cases hlt : r < n
  · rw [if_pos hlt, Int.zero_emod] at hd
    subst hd
    clear ok est hst er eD co lr lk hs
    go_enter Try.func16, Try.ntmps16
    obtain ⟨b0, b1, b2, b3⟩ := hB.out.at4
    go_wp2_with fail
    refine (CH.out _ hX.out).mono ?_
    rintro _ w1 ⟨rfl, x1⟩
    clear b0 b1 b2 b3
    obtain ⟨b0, b1, b2, b3⟩ := (hB.out.ext x1).at4
    go_wp2_with fail
    go_ret2
    exact ⟨rfl, hX.out.trans x1⟩
  · obtain rfl : r = n := by omega
    rw [if_neg hlt] at hd
    have hord := hst.cols_ord er
    have hob := hord.b (by omega) hn.2
    rw [tK] at hob hd
    have S := hid fun (W : World) (u : Value) (hu : Ints .i64 W u K) => qmSign u K W hu
    simp only [hob, if_true] at S
    obtain ⟨sg, esg⟩ : ∃ sg, sgnL K = sg := ⟨_, rfl⟩
    have hsg : sg = 1 ∨ sg = -1 := esg ▸ sgn_or _
    rw [esg] at S hd
    obtain ⟨d, ed⟩ : ∃ d : Nat → Int, (fun k => (st.U.getD k []).getD (st.cols.getD k 0) 0) = d := ⟨_, rfl⟩
    rw [ed] at hd
    have hD := hid hd
    have hdr := hid fun (k : Nat) (hk : k < r) => (show d k = (U.getD k []).getD (st.cols.getD k 0) 0 ∧ 0 ≤ d k ∧ d k < p ∧ st.cols.getD k 0 < r ∧ (U.getD k []).length = r from by
      have h := hst.row k (by rw [er]; exact hk)
      rw [← tU]
      refine ⟨(congrFun ed k).symm, ?_, ?_, h.2.2.1, h.1⟩
      · rw [← ed]; exact (h.2.1.getD hp2.1 _).1
      · rw [← ed]; exact (h.2.1.getD hp2.1 _).2)
    have hDr := mod_range (detF r (atF r xs)) hp2.1
    rw [eD] at hDr
    have hKZ := hid fun (k : Nat) (hk : k < r) => (show K.getD k 0 = (st.cols.getD k 0 : Int) from by
      have := hst.lk
      rw [← tK]; unfold colsZ
      rw [List.getD, List.getElem?_map, List.getElem?_eq_getElem (show k < st.cols.length by omega)]
      simp [List.getD, show k < st.cols.length by omega])
    obtain ⟨cl, ecl⟩ : ∃ cl : Nat → Nat, (fun k => st.cols.getD k 0) = cl := ⟨_, rfl⟩
    have hcl := hid fun k => (congrFun ecl k : st.cols.getD k 0 = cl k)
    have h1p : (1 : Int) % p = 1 := Int.emod_eq_of_lt (by omega) (by omega)
    have H1p := hid h1p
    have I2 := hid (show Ints .i64 w (.slice a2 r c2) K from K2.out)
    obtain ⟨ak, ck, ek, -, -, k2⟩ := K2.out
    rw [Hlc.out] at ek k2
    injection ek with ek1 ek2 ek3
    subst ek1
    subst ek3
    clear ek2
    obtain ⟨au, cu, eu, -, -, k4⟩ := K4.out
    rw [Er.out] at eu k4
    injection eu with eu1 eu2 eu3
    subst eu1
    subst eu3
    clear eu2
    have K2' := hid k2; have K4' := hid k4
    clear ok est hst er eD hord hob esg ed hd ecl hlt h1p co lr lk hs k2 k4 tK tU exs erU
    go_enter Try.func16, Try.ntmps16
    obtain ⟨b0, b1, b2, b3⟩ := hB.out.at4
    go_wp2_with fail
    refine (CH.out _ hX.out).mono ?_
    rintro _ w1 ⟨rfl, x1⟩
    clear b0 b1 b2 b3
    have hx2 := hid (hX.out.trans x1)
    have hB2 := hid (hB.out.ext x1)
    obtain ⟨b0, b1, b2, b3⟩ := hB2.out.at4
    go_wp2_with fail
    clear b0 b1 b2 b3
    go_loopw [27, 8] (fun kv pv wr => ∃ (k : Nat) (q : Int), kv = .int .i64 k ∧ pv = .int .u64 q ∧ k ≤ r ∧ Hid (q = prN k d % p) ∧ Ext w1 wr) (fun kv _ _ => r - (intOf kv).toNat)
    case atStart => exact ⟨0, 1, rfl, rfl, Nat.zero_le _, hid H1p.out.symm, Ext.refl _⟩
    case round =>
      obtain ⟨k, q, rfl, rfl, hk, hq, hxr⟩ := hrel
      obtain ⟨b0, b1, b2, b3⟩ := (hB2.out.ext hxr).at4
      by_cases hlk : k < r
      · obtain ⟨bk, fk, rfl, hbk, q2⟩ := K2'.out (by omega)
        replace q2 := ((hx2.out.trans hxr).cells _ _ hbk).trans (q2 k hlk)
        rw [hKZ.out k hlk, hcl.out] at q2
        obtain ⟨bu, fu, rfl, hbu, q4⟩ := K4'.out (by omega)
        replace q4 := q4 k hlk
        obtain ⟨u, q4, iu⟩ := q4
        replace q4 := ((hx2.out.trans hxr).cells _ _ hbu).trans q4
        replace iu := iu.ext (hx2.out.trans hxr)
        obtain ⟨e1, e2, e3, e4, e5⟩ := hdr.out k hlk
        rw [hcl.out] at e1 e4
        obtain ⟨au, cu, rfl, -, -, k5⟩ := iu
        rw [e5] at q4 k5
        obtain ⟨br, fr, rfl, hbr, q6⟩ := k5 (by omega)
        replace q6 := q6 (cl k) e4
        rw [← e1] at q6
        have hqr := mod_range (prN k d) hp2.1
        rw [← hq.out] at hqr
        have hnx : q * d k % p = prN (k + 1) d % p := by rw [hq.out, Int.mul_emod, Int.emod_emod, ← Int.mul_emod]; rfl
        obtain ⟨z, ez⟩ : ∃ z, d k = z := ⟨_, rfl⟩
        rw [ez] at q6 e2 e3 hnx
        obtain ⟨t, et⟩ : ∃ t, prN (k + 1) d % p = t := ⟨_, rfl⟩
        rw [et] at hnx
        obtain ⟨y, ey⟩ : ∃ y, cl k = y := ⟨_, rfl⟩
        rw [ey] at q2 q6 e4
        have Hnx := hid hnx; have Et := hid et
        clear hnx et ez ey e1 e5 k5 hbr hbu hbk
        go_wp2_with (go_at_call 46; refine (mul_as p q z t _ HP.out hqr.1 hqr.2 e2 e3 Hnx.out).mono ?_; rintro _ w5 ⟨rfl, x5⟩)
        go_roundw
        case rel => exact ⟨k + 1, t, by go_num, rfl, by omega, hid Et.out.symm, hxr.trans x5⟩
        case measure => simp [intOf]; omega
      · obtain rfl : r = k := by omega
        have hqr := mod_range (prN r d) hp2.1
        rw [← hq.out] at hqr
        rcases hsg with rfl | rfl
        · have hq2 := hid (show q = D by rw [hD.out, hq.out, Int.mul_one])
          go_wp2_with (go_at_call 47; refine (S.out _ _ (I2.out.ext (hx2.out.trans hxr))).mono ?_; rintro _ w3 ⟨rfl, x3⟩)
          go_ret2
          exact ⟨ret_int2 hq2.out rfl, hx2.out.trans (hxr.trans x3)⟩
        · have hq2 := hid (show (0 - q) % p = D by rw [hD.out, hq.out, neg_mod])
          go_wp2_with (first
            | (go_at_call 47; refine (S.out _ _ (I2.out.ext (hx2.out.trans hxr))).mono ?_; rintro _ w3 ⟨rfl, x3⟩)
            | (go_at_call 48; refine (sub_as p 0 q D _ HP.out (by omega) (by omega) hqr.1 hqr.2 hq2.out).mono ?_; rintro _ w4 ⟨rfl, x4⟩))
          go_ret2
          exact ⟨rfl, (hx2.out.trans (hxr.trans x3)).trans x4⟩

set_option maxHeartbeats 1000000 in
theorem shCost (p : Int) (R K : List Int) (C U : List (List Int)) (rv kv cv uv : Value) (w : World) (m n : Nat) (hs : ShpZ p m n R K C U) (hc : ClmR w rv kv cv uv R K C U) :
    Calls Try.prog 24 #[.agg #[rv, kv, cv, uv], .int .i64 m, .int .i64 n] w (Ret (.int .i64 ((m * n + U.length * (m + n) : Nat) : Int)) w) := by
  obtain ⟨m', n', e1, e2, co, lr, lk⟩ := hs.ok
  have e1' : m = m' := by omega
  have e2' : n = n' := by omega
  subst e1'
  subst e2'
  have hm := co.hm; have hn := co.hn; have hu := co.hu
  have s1 : sideB (m : Int) = true := decide_eq_true (by omega)
  have s2 : sideB (n : Int) = true := decide_eq_true (by omega)
  have C1 := hid fun W => shSide (m : Int) W
  have C2 := hid fun W => shSide (n : Int) W
  rw [s1] at C1; rw [s2] at C2
  have CF := hid fun (W : World) (hW : Ext w W) => shFits m n R K C U rv kv cv uv W (hc.ext hW)
  rw [fits_iff.2 ⟨by rw [co.lc], fun l hl => by rw [(co.c l hl).1, lr], lr.symm, fun l hl => by rw [(co.u l hl).1]⟩] at CF
  obtain ⟨r, er⟩ : ∃ r, U.length = r := ⟨_, rfl⟩
  rw [er] at lr hu ⊢
  obtain ⟨q1, f1⟩ : ∃ q, m * n = q := ⟨_, rfl⟩
  obtain ⟨q2, f2⟩ : ∃ q, r * (m + n) = q := ⟨_, rfl⟩
  have b1 : q1 ≤ 4096 := by rw [← f1]; exact Nat.mul_le_mul hm.2 hn.2
  have b2 : q2 ≤ 64 * 128 := by rw [← f2]; exact Nat.mul_le_mul hu (by omega)
  have i1 : (m : Int) * (n : Int) = (q1 : Int) := by rw [← f1]; push_cast; rfl
  have i2 : (r : Int) * ((m : Int) + (n : Int)) = (q2 : Int) := by rw [← f2]; push_cast; rfl
  rw [f1, f2]
  clear f1 f2 s1 s2 co e1 e2 hs lk
  obtain ⟨h1, h2, h3, h4⟩ := hc
  obtain ⟨a1, c1, rfl, -, -, -⟩ := h1
  obtain ⟨a2, c2, rfl, -, -, -⟩ := h2
  obtain ⟨a3, c3, rfl, -, -, -⟩ := h3
  obtain ⟨a4, c4, rfl, -, -, -⟩ := h4
  rw [lr, er] at CF ⊢
  have hB := hid (show Blk (w.alloc (.cells #[.slice a1 r c1, .slice a2 K.length c2, .slice a3 C.length c3, .slice a4 r c4] 29)) w.heap.size 29 #[.slice a1 r c1, .slice a2 K.length c2, .slice a3 C.length c3, .slice a4 r c4] from Blk.new w _ _)
  have hX := hid (show Ext w (w.alloc (.cells #[.slice a1 r c1, .slice a2 K.length c2, .slice a3 C.length c3, .slice a4 r c4] 29)) from (Ext.refl w).alloc _)
  clear er lr
  go_enter Try.func24, Try.ntmps24
  go_wp2_with fail
  refine (C1.out _).mono ?_
  rintro _ _ ⟨rfl, rfl⟩
  go_wp2_with fail
  refine (C2.out _).mono ?_
  rintro _ _ ⟨rfl, rfl⟩
  obtain ⟨b0, b1', b2', b3⟩ := hB.out.at4
  go_wp2_with fail
  clear b0 b1' b2' b3
  refine (CF.out _ hX.out).mono ?_
  rintro _ w1 ⟨rfl, x1⟩
  obtain ⟨b0, b1', b2', b3⟩ := (hB.out.ext x1).at4
  go_wp2_with fail
  go_ret
  exact ⟨ret_int (by push_cast; omega), hX.out.trans x1⟩
end Go.Proofs.Ytnfnommiabalfaa
/- What package shape's functions answer: shHas shLooks_yes shLooks_no shDet shCost shNumbers shOf_yes shOf_no (RetClm, noClm: ShD). -/
namespace Go.Proofs.Ytnfnommiabalfaa
end Go.Proofs.Ytnfnommiabalfaa
/- The first look of layer 13's laws: it answers true. -/
namespace Go.Proofs.Ytnfnommiabalfaa
open Go.RowKit Go.Maps

theorem usl_one {w : World} {g b n : Nat} {l : List Int} (hB : Blk w g 23 #[.slice (some ⟨b, 0, none⟩) n n]) (hI : Ints .u64 w (.slice (some ⟨b, 0, none⟩) n n) l) : UsL w (.slice (some ⟨g, 0, none⟩) 1 1) [l] := by
  refine ⟨some ⟨g, 0, none⟩, 1, rfl, by simp, by omega, fun _ => ⟨g, 0, rfl, hB.lt, fun j hj => ?_⟩⟩
  obtain rfl : j = 0 := by simpa using hj
  exact ⟨_, hB.cell 0, hI⟩
/-- a claim of one row, written out -/
theorem clm_lit (w : World) (R K c u : List Int) (hR : R.length = 1) (hK : K.length = 1) (hc : c.length = 1) (hu : u.length ≤ 9) :
    ClmR ((((((w.alloc (.cells (R.map (Value.int .i64)).toArray 3)).alloc (.cells (K.map (Value.int .i64)).toArray 3)).alloc (.cells (c.map (Value.int .u64)).toArray 22)).alloc (.cells #[.slice (some ⟨w.heap.size + 1 + 1, 0, none⟩) c.length c.length] 23)).alloc (.cells (u.map (Value.int .u64)).toArray 22)).alloc (.cells #[.slice (some ⟨w.heap.size + 1 + 1 + 1 + 1, 0, none⟩) u.length u.length] 23))
      (.slice (some ⟨w.heap.size, 0, none⟩) R.length R.length) (.slice (some ⟨w.heap.size + 1, 0, none⟩) K.length K.length) (.slice (some ⟨w.heap.size + 1 + 1 + 1, 0, none⟩) 1 1) (.slice (some ⟨w.heap.size + 1 + 1 + 1 + 1 + 1, 0, none⟩) 1 1) R K [c] [u] := by
  have i1 := Ints.lit (k := .i64) (w := w) (t := 3) R (by omega) rfl
  have i2 := Ints.lit (k := .i64) (w := w.alloc (.cells (R.map (Value.int .i64)).toArray 3)) (t := 3) K (by omega) rfl
  have i3 := Ints.lit (k := .u64) (w := (w.alloc (.cells (R.map (Value.int .i64)).toArray 3)).alloc (.cells (K.map (Value.int .i64)).toArray 3)) (t := 22) c (by omega) rfl
  obtain ⟨w3, h3⟩ : ∃ W, ((w.alloc (.cells (R.map (Value.int .i64)).toArray 3)).alloc (.cells (K.map (Value.int .i64)).toArray 3)).alloc (.cells (c.map (Value.int .u64)).toArray 22) = W := ⟨_, rfl⟩
  have s3 : w3.heap.size = w.heap.size + 1 + 1 + 1 := by rw [← h3]; simp
  rw [alloc_size] at i2
  rw [alloc_size, alloc_size, h3] at i3
  have B4 := Blk.new w3 23 #[.slice (some ⟨w.heap.size + 1 + 1, 0, none⟩) c.length c.length]
  have i5 := Ints.lit (k := .u64) (w := w3.alloc (.cells #[.slice (some ⟨w.heap.size + 1 + 1, 0, none⟩) c.length c.length] 23)) (t := 22) u (by omega) rfl
  have B6 := Blk.new ((w3.alloc (.cells #[.slice (some ⟨w.heap.size + 1 + 1, 0, none⟩) c.length c.length] 23)).alloc (.cells (u.map (Value.int .u64)).toArray 22)) 23 #[.slice (some ⟨w.heap.size + 1 + 1 + 1 + 1, 0, none⟩) u.length u.length]
  rw [s3] at B4
  rw [alloc_size, s3] at i5
  rw [alloc_size, alloc_size, s3] at B6
  have x1 : Ext (w.alloc (.cells (R.map (Value.int .i64)).toArray 3)) w3 := h3 ▸ ((Ext.refl _).alloc _).alloc _
  have x2 : Ext ((w.alloc (.cells (R.map (Value.int .i64)).toArray 3)).alloc (.cells (K.map (Value.int .i64)).toArray 3)) w3 := h3 ▸ (Ext.refl _).alloc _
  rw [h3]
  have y : Ext w3 (((w3.alloc (.cells #[.slice (some ⟨w.heap.size + 1 + 1, 0, none⟩) c.length c.length] 23)).alloc (.cells (u.map (Value.int .u64)).toArray 22)).alloc (.cells #[.slice (some ⟨w.heap.size + 1 + 1 + 1 + 1, 0, none⟩) u.length u.length] 23)) := (((Ext.refl _).alloc _).alloc _).alloc _
  exact ⟨i1.ext (x1.trans y), i2.ext (x2.trans y), usl_one ((B4.ext ((Ext.refl _).alloc _)).ext ((Ext.refl _).alloc _)) (i3.ext y), usl_one B6 (i5.alloc _)⟩
theorem shp12 : ShpZ 7 1 2 [0] [1] [[1]] [[0, 2]] := by
  refine ⟨1, 2, [0], [1], rfl, rfl, by decide, by decide, by decide, rfl, rfl, by decide, by decide, ⟨rfl, rfl, rfl, rfl, fun j k hj hk => ?_, fun k hk => ?_, fun k hk => ?_, fun k j hj hk => ?_, fun i hi => ?_, fun k hk => ?_, fun k i hk hi => ?_⟩⟩
  · simp at hk; omega
  · obtain rfl : k = 0 := by simpa using hk
    decide
  · obtain rfl : k = 0 := by simpa using hk
    exact ⟨rfl, by unfold Rng; decide, by decide, by decide, by decide⟩
  · simp at hk; omega
  · obtain rfl : i = 0 := by omega
    exact ⟨rfl, by unfold Rng; decide⟩
  · obtain rfl : k = 0 := by simpa using hk
    rfl
  · obtain rfl : k = 0 := by simpa using hk
    exact absurd hi (Nat.not_lt_zero _)
theorem shp11 : ShpZ 7 1 1 [0] [0] [[1]] [[5]] := by
  refine ⟨1, 1, [0], [0], rfl, rfl, by decide, by decide, by decide, rfl, rfl, by decide, by decide, ⟨rfl, rfl, rfl, rfl, fun j k hj hk => ?_, fun k hk => ?_, fun k hk => ?_, fun k j hj hk => ?_, fun i hi => ?_, fun k hk => ?_, fun k i hk hi => ?_⟩⟩
  · simp at hk; omega
  · obtain rfl : k = 0 := by simpa using hk
    decide
  · obtain rfl : k = 0 := by simpa using hk
    exact ⟨rfl, by unfold Rng; decide, by decide, by decide, by decide⟩
  · simp at hk; omega
  · obtain rfl : i = 0 := by omega
    exact ⟨rfl, by unfold Rng; decide⟩
  · obtain rfl : k = 0 := by simpa using hk
    rfl
  · obtain rfl : k = 0 := by simpa using hk
    exact absurd hi (Nat.not_lt_zero _)
theorem isP7' : IsP 7 := ⟨by decide, fun d h2 hd => by
  have : d ≤ 2 := by
    apply Classical.byContradiction
    intro h
    have := Int.mul_le_mul (show 3 ≤ d by omega) (show 3 ≤ d by omega) (by omega) (by omega)
    omega
  obtain rfl : d = 2 := by omega
  decide⟩
theorem ok712 : MatOk 7 1 2 [0, 2] := ⟨by decide, by unfold Rng; decide, by decide, by decide, rfl⟩
theorem shl12 : shlB 7 1 2 [0, 2] [[1]] [[0, 2]] [3, 4] = true := by decide +kernel
theorem det11 : detF 1 (atF 1 (makeL 7 [[1]] [[5]] 1 1)) % 7 = 5 := by decide +kernel
theorem nums12 : numsL [0] [1] [[1]] [[0, 2]] = [1, 0, 1, 1, 0, 2] := by decide +kernel
theorem of12 : ofB (1 : Nat) (2 : Nat) [1, 0, 1, 1, 0, 2] = true ∧ ofR [1, 0, 1, 1, 0, 2] = [0] ∧ ofK [1, 0, 1, 1, 0, 2] = [1] ∧ ofC 1 [1, 0, 1, 1, 0, 2] = [[1]] ∧ ofU 1 2 [1, 0, 1, 1, 0, 2] = [[0, 2]] := by decide +kernel
set_option maxRecDepth 100000 in
set_option maxHeartbeats 4000000 in
theorem awake13 (w : World) : Calls Try.prog 7 #[] w (Ret (.bool true) w) := by
  have CL := hid fun (W : World) (v vx rv kv cv uv : Value) (hv : Ints .u64 W v [0, 2]) (hx : Ints .u64 W vx [3, 4]) (hc : ClmR W rv kv cv uv [0] [1] [[1]] [[0, 2]]) => (show Calls Try.prog 13 #[.int .u64 7, .agg #[.int .i64 1, .int .i64 2, v], .agg #[rv, kv, cv, uv], vx] W (Ret (.tuple #[.bool true, .int .i64 0]) W) from shl12 ▸ shLooks_yes 7 [0] [1] [[1]] [[0, 2]] rv kv cv uv W 1 2 v vx [0, 2] [3, 4] ok712 shp12 hc hv hx (by unfold Rng; decide) rfl)
  have CN := hid fun (W : World) (rv kv cv uv : Value) (hc : ClmR W rv kv cv uv [0] [1] [[1]] [[0, 2]]) => (show Calls Try.prog 22 #[.agg #[rv, kv, cv, uv]] W (fun e w' => ∃ v, e = .returned v ∧ Ints .u64 w' v [1, 0, 1, 1, 0, 2] ∧ Ext W w') from nums12 ▸ shNumbers [0] [1] [[1]] [[0, 2]] rv kv cv uv W (by decide) hc)
  have CO := hid fun (W : World) (v : Value) (hv : Ints .u64 W v [1, 0, 1, 1, 0, 2]) => (show Calls Try.prog 21 #[v, .int .i64 1, .int .i64 2] W (RetClm [0] [1] [[1]] [[0, 2]] W) from by
    have h := shOf_yes W 1 2 v [1, 0, 1, 1, 0, 2] hv (by unfold U64s; decide) of12.1
    rwa [of12.2.1, of12.2.2.1, of12.2.2.2.1, of12.2.2.2.2] at h)
  have CD := hid fun (W : World) (rv kv cv uv : Value) (hc : ClmR W rv kv cv uv [0] [0] [[1]] [[5]]) => (show Calls Try.prog 16 #[.int .u64 7, .agg #[rv, kv, cv, uv], .int .i64 1] W (Ret (.tuple #[.int .u64 5, .int .i64 0]) W) from det11 ▸ shDet 7 [0] [0] [[1]] [[5]] rv kv cv uv W 1 (fld_is isP7') shp11 hc)
  have CH := hid fun (W : World) (rv kv cv uv : Value) (hc : ClmR W rv kv cv uv [0] [1] [[1]] [[0, 2]]) => (show Calls Try.prog 12 #[.int .u64 7, .agg #[rv, kv, cv, uv], .int .i64 1, .int .i64 2] W (Ret (.bool true) W) from shpB_iff.2 shp12 ▸ shHas 7 [0] [1] [[1]] [[0, 2]] rv kv cv uv W 1 2 (by decide) (by decide) hc (by unfold U64s; decide) (by unfold U64s; decide))
  have CC := hid fun (W : World) (rv kv cv uv : Value) (hc : ClmR W rv kv cv uv [0] [1] [[1]] [[0, 2]]) => (show Calls Try.prog 24 #[.agg #[rv, kv, cv, uv], .int .i64 1, .int .i64 2] W (Ret (.int .i64 5) W) from shCost 7 [0] [1] [[1]] [[0, 2]] rv kv cv uv W 1 2 shp12 hc)
  have CS := hid fun (W : World) (v u : Value) (h0 : Ints .u64 W v [1, 0, 1, 1, 0, 2]) (h1 : Ints .u64 W u [1, 0, 1, 1, 0, 2]) => same_yes v u [1, 0, 1, 1, 0, 2] W h0 h1
  have CT := hid fun (W : World) (rv kv cv uv rv' kv' cv' uv' : Value) (hc : ClmR W rv kv cv uv [0] [1] [[1]] [[0, 2]]) (hc' : ClmR W rv' kv' cv' uv' [0] [1] [[1]] [[0, 2]]) => (show Calls Try.prog 15 #[.agg #[rv, kv, cv, uv], .agg #[rv', kv', cv', uv']] W (Ret (.bool true) W) from (by decide : sameC [0] [1] [[1]] [[0, 2]] [0] [1] [[1]] [[0, 2]] = true) ▸ r13Same rv kv cv uv rv' kv' cv' uv' _ _ _ _ _ _ _ _ W hc hc')
  have hS := hid fun (W : World) => Ints.lit (k := .u64) (w := W) (t := 22) [1, 0, 1, 1, 0, 2] (by decide) rfl
  have hX := hid fun (W : World) => Ints.lit (k := .u64) (w := W) (t := 22) [3, 4] (by decide) rfl
  have hL := hid fun (W : World) => clm_lit W [0] [0] [1] [5] rfl rfl rfl (by decide)
  obtain ⟨wa, hwa⟩ : ∃ W, ((w.alloc (.cells #[.int .u64 0, .int .u64 2] 22)).alloc (.cells #[.int .i64 1, .int .i64 2, .slice (some ⟨w.heap.size, 0, none⟩) 2 2] 25)) = W := ⟨_, rfl⟩
  have IM0 : Ints .u64 wa (.slice (some ⟨w.heap.size, 0, none⟩) 2 2) [0, 2] := hwa ▸ (Ints.lit (k := .u64) (w := w) (t := 22) [0, 2] (by decide) rfl).alloc (.cells #[.int .i64 1, .int .i64 2, .slice (some ⟨w.heap.size, 0, none⟩) 2 2] 25)
  have HM0 : Blk wa (w.heap.size + 1) 25 #[.int .i64 1, .int .i64 2, .slice (some ⟨w.heap.size, 0, none⟩) 2 2] := hwa ▸ Blk.at_ (w := w.alloc (.cells #[.int .u64 0, .int .u64 2] 22)) (by rw [alloc_size])
  have X0 : Ext w wa := hwa ▸ ((Ext.refl w).alloc _).alloc _
  obtain ⟨wb, hwb⟩ : ∃ W, ((((((wa.alloc (.cells #[.int .i64 0] 3)).alloc (.cells #[.int .i64 1] 3)).alloc (.cells #[.int .u64 1] 22)).alloc (.cells #[.slice (some ⟨wa.heap.size + 1 + 1, 0, none⟩) 1 1] 23)).alloc (.cells #[.int .u64 0, .int .u64 2] 22)).alloc (.cells #[.slice (some ⟨wa.heap.size + 1 + 1 + 1 + 1, 0, none⟩) 2 2] 23)) = W := ⟨_, rfl⟩
  have CR1 : ClmR wb (.slice (some ⟨wa.heap.size, 0, none⟩) 1 1) (.slice (some ⟨wa.heap.size + 1, 0, none⟩) 1 1) (.slice (some ⟨wa.heap.size + 1 + 1 + 1, 0, none⟩) 1 1) (.slice (some ⟨wa.heap.size + 1 + 1 + 1 + 1 + 1, 0, none⟩) 1 1) [0] [1] [[1]] [[0, 2]] := hwb ▸ clm_lit wa [0] [1] [1] [0, 2] rfl rfl rfl (by decide)
  have X1 : Ext wa wb := hwb ▸ ((((((Ext.refl wa).alloc _).alloc _).alloc _).alloc _).alloc _).alloc _
  have HC0 := Blk.new wb 29 #[.slice (some ⟨wa.heap.size, 0, none⟩) 1 1, .slice (some ⟨wa.heap.size + 1, 0, none⟩) 1 1, .slice (some ⟨wa.heap.size + 1 + 1 + 1, 0, none⟩) 1 1, .slice (some ⟨wa.heap.size + 1 + 1 + 1 + 1 + 1, 0, none⟩) 1 1]
  obtain ⟨wc, hwc⟩ : ∃ W, wb.alloc (.cells #[.slice (some ⟨wa.heap.size, 0, none⟩) 1 1, .slice (some ⟨wa.heap.size + 1, 0, none⟩) 1 1, .slice (some ⟨wa.heap.size + 1 + 1 + 1, 0, none⟩) 1 1, .slice (some ⟨wa.heap.size + 1 + 1 + 1 + 1 + 1, 0, none⟩) 1 1] 29) = W := ⟨_, rfl⟩
  rw [hwc] at HC0
  have X2 : Ext wb wc := hwc ▸ (Ext.refl wb).alloc _
  have IM := hid (IM0.ext (X1.trans X2))
  have HM := hid (HM0.ext (X1.trans X2))
  have CR := hid (CR1.ext X2)
  have HC := hid HC0
  have hW0 := hid (X0.trans (X1.trans X2))
  clear IM0 HM0 CR1 HC0 X0 X1 X2
  go_enter Try.func7, Try.ntmps7
  obtain ⟨hm_0, hm_1, hm_2⟩ := HM.out.at3
  obtain ⟨hc_0, hc_1, hc_2, hc_3⟩ := HC.out.at4
  have z2 := (Ext.refl wc).alloc (.cells #[.int .u64 3, .int .u64 4] 22)
  go_wp2_with fail
  refine (CL.out _ _ _ _ _ _ _ (IM.out.ext z2) (hX.out wc) (CR.out.ext z2)).mono ?_
  rintro _ w2 ⟨rfl, xw2⟩
  clear hm_0 hm_1 hm_2 hc_0 hc_1 hc_2 hc_3
  obtain ⟨hc_0, hc_1, hc_2, hc_3⟩ := (HC.out.ext (z2.trans xw2)).at4
  go_wp2_with fail
  refine (CN.out _ _ _ _ _ (CR.out.ext (z2.trans xw2))).mono ?_
  rintro _ w3 ⟨v3, rfl, i3, xw3⟩
  clear hc_0 hc_1 hc_2 hc_3
  have I3 := hid i3
  obtain ⟨a3, k3, rfl, _, _, kk⟩ := i3
  clear kk
  go_wp2_with fail
  refine (CO.out _ _ I3.out).mono ?_
  rintro _ w4 ⟨rv, kv, cv, uv, rfl, cl, xw4⟩
  have CL4 := hid cl
  obtain ⟨⟨b1, l1, rfl⟩, ⟨b2, l2, rfl⟩, ⟨b3, l3, rfl⟩, ⟨b4, l4, rfl⟩⟩ := cl.slices
  clear cl
  have HD0 := Blk.new w4 29 #[.slice b1 1 l1, .slice b2 1 l2, .slice b3 1 l3, .slice b4 1 l4]
  obtain ⟨wd, hwd⟩ : ∃ W, w4.alloc (.cells #[.slice b1 1 l1, .slice b2 1 l2, .slice b3 1 l3, .slice b4 1 l4] 29) = W := ⟨_, rfl⟩
  have xwd : Ext w4 wd := hwd ▸ (Ext.refl w4).alloc _
  rw [hwd] at HD0
  have HD := hid HD0
  clear HD0
  obtain ⟨we, hwe⟩ : ∃ W, ((((((wd.alloc (.cells #[.int .i64 0] 3)).alloc (.cells #[.int .i64 0] 3)).alloc (.cells #[.int .u64 1] 22)).alloc (.cells #[.slice (some ⟨wd.heap.size + 1 + 1, 0, none⟩) 1 1] 23)).alloc (.cells #[.int .u64 5] 22)).alloc (.cells #[.slice (some ⟨wd.heap.size + 1 + 1 + 1 + 1, 0, none⟩) 1 1] 23)) = W := ⟨_, rfl⟩
  have CR5 : ClmR we (.slice (some ⟨wd.heap.size, 0, none⟩) 1 1) (.slice (some ⟨wd.heap.size + 1, 0, none⟩) 1 1) (.slice (some ⟨wd.heap.size + 1 + 1 + 1, 0, none⟩) 1 1) (.slice (some ⟨wd.heap.size + 1 + 1 + 1 + 1 + 1, 0, none⟩) 1 1) [0] [0] [[1]] [[5]] := hwe ▸ clm_lit wd [0] [0] [1] [5] rfl rfl rfl (by decide)
  have xwe : Ext wd we := hwe ▸ ((((((Ext.refl wd).alloc _).alloc _).alloc _).alloc _).alloc _).alloc _
  go_wp2_with fail
  refine (CD.out _ _ _ _ _ CR5).mono ?_
  rintro _ w6 ⟨rfl, xw6⟩
  clear CR5
  obtain ⟨hc_0, hc_1, hc_2, hc_3⟩ := (HC.out.ext (z2.trans (xw2.trans (xw3.trans (xw4.trans (xwd.trans (xwe.trans xw6))))))).at4
  go_wp2_with fail
  refine (CH.out _ _ _ _ _ (CR.out.ext (z2.trans (xw2.trans (xw3.trans (xw4.trans (xwd.trans (xwe.trans xw6)))))))).mono ?_
  rintro _ w7 ⟨rfl, xw7⟩
  clear hc_0 hc_1 hc_2 hc_3
  go_wp2_with fail
  have z10 := (Ext.refl w7).alloc (.cells #[.int .u64 1, .int .u64 0, .int .u64 1, .int .u64 1, .int .u64 0, .int .u64 2] 22)
  refine (CS.out _ _ _ (I3.out.ext (xw4.trans (xwd.trans (xwe.trans (xw6.trans (xw7.trans z10)))))) (hS.out w7)).mono ?_
  rintro _ w8 ⟨rfl, xw8⟩
  obtain ⟨hc_0, hc_1, hc_2, hc_3⟩ := (HC.out.ext (z2.trans (xw2.trans (xw3.trans (xw4.trans (xwd.trans (xwe.trans (xw6.trans (xw7.trans (z10.trans xw8)))))))))).at4
  obtain ⟨hd_0, hd_1, hd_2, hd_3⟩ := (HD.out.ext (xwe.trans (xw6.trans (xw7.trans (z10.trans xw8))))).at4
  go_wp2_with fail
  refine (CT.out _ _ _ _ _ _ _ _ _ (CR.out.ext (z2.trans (xw2.trans (xw3.trans (xw4.trans (xwd.trans (xwe.trans (xw6.trans (xw7.trans (z10.trans xw8)))))))))) (CL4.out.ext (xwd.trans (xwe.trans (xw6.trans (xw7.trans (z10.trans xw8))))))).mono ?_
  rintro _ w9 ⟨rfl, xw9⟩
  clear hc_0 hc_1 hc_2 hc_3 hd_0 hd_1 hd_2 hd_3
  obtain ⟨hc_0, hc_1, hc_2, hc_3⟩ := (HC.out.ext (z2.trans (xw2.trans (xw3.trans (xw4.trans (xwd.trans (xwe.trans (xw6.trans (xw7.trans (z10.trans (xw8.trans xw9))))))))))).at4
  go_wp2_with fail
  refine (CC.out _ _ _ _ _ (CR.out.ext (z2.trans (xw2.trans (xw3.trans (xw4.trans (xwd.trans (xwe.trans (xw6.trans (xw7.trans (z10.trans (xw8.trans xw9)))))))))))).mono ?_
  rintro _ w10 ⟨rfl, xw10⟩
  clear hc_0 hc_1 hc_2 hc_3
  go_wp2_with fail
  go_ret
  exact ⟨rfl, (hW0.out.trans (z2.trans (xw2.trans (xw3.trans (xw4.trans (xwd.trans (xwe.trans (xw6.trans (xw7.trans (z10.trans (xw8.trans (xw9.trans xw10))))))))))))⟩
end Go.Proofs.Ytnfnommiabalfaa
