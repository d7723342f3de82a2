/- What the texts Prod, PolyOps, Mat2, Ref06b, Mat5, Mat6 show, in one text. -/
import Derived.Test.YtijpeepdedfhoaaGreatBun05
import Derived.Test.YtijpeepdedfhoaaGreatBun07
import Derived.Test.YtijpeepdedfhoaaGreatBun08
import Derived.Deep.RegionHeld3
import Derived.Deep.DrawnRows
import Derived.Test.YtijpeepdedfhoaaGreatBun06
import Derived.Test.YtijpeepdedfhoaaGreatBun11
import Derived.BigQuiet
/- Products of polynomials. -/
namespace Go.Proofs.YtijpeepdedfhoaaGreat
open Go.RowKit

attribute [local go_sem ↓] Go.wp_at_zero Go.wp_at_succ

/-- a product's number, by the pieces that meet there -/
theorem prod_at {p : Int} {xs ys : List Int} (hx : Rng p xs) (hy : Rng p ys) (k low m : Nat) (h1 : low + m ≤ xs.length) (h2 : k + 1 ≤ low + ys.length) (h3 : low + m ≤ k + 1) (h4 : low = 0 ∨ k + 1 = low + ys.length) (h5 : low + m = k + 1 ∨ low + m = xs.length) :
    dotZ ((xs.drop low).take m) ((ys.reverse.drop (ys.length + low - (k + 1))).take m) % p = (pol p xs * pol p ys).co k := by
  have l1 : ((xs.drop low).take m).length = m := by simp; omega
  have l3 : ys.reverse.length = ys.length := List.length_reverse
  have l2 : ((ys.reverse.drop (ys.length + low - (k + 1))).take m).length = m := by rw [List.length_take, List.length_drop, l3]; omega
  rw [Ser.mul_co, cv, sm_congr (g := fun i => xs.getD i 0 * ys.getD (k - i) 0) (fun i _ => by rw [hx.co, hy.co]), dotZ_sm _ _ (by rw [l1, l2]), l1]
  congr 1
  refine Eq.trans (sm_congr fun i hi => ?_) (sm_piece low m (by omega) (fun i hi => by
      rcases h4 with h | h
      · omega
      · rw [getD_over (xs := ys) (by omega), Int.mul_zero]) (fun i a b => by
      rcases h5 with h | h
      · omega
      · rw [getD_over (xs := xs) (by omega), Int.zero_mul])).symm
  rw [sub_get _ _ _ _ hi, sub_get _ _ _ _ hi, rev_get ys (by omega), show ys.length - 1 - (ys.length + low - (k + 1) + i) = k - (low + i) by omega]

set_option maxRecDepth 100000 in
set_option maxHeartbeats 2000000 in
theorem product_any (p : Int) (v u : Value) (xs ys : List Int) (w : World) (hp : rightB p = true) (hv : Ints .u64 w v xs) (hu : Ints .u64 w u ys) (hx : Rng p xs) (hy : Rng p ys) (hl : xs.length ≤ 1000000 ∧ ys.length ≤ 1000000) :
    Calls Tryz.prog 78 #[.int .u64 p, v, u] w (RetP p (pol p xs * pol p ys) w) := by
  have hp2 := rightB_true hp
  by_cases hx0 : xs.length = 0
  · obtain rfl : xs = [] := List.eq_nil_of_length_eq_zero hx0
    obtain ⟨a, cap, rfl, hc1, hc2, hc⟩ := hv
    clear hc
    obtain ⟨f, hf⟩ : ∃ f, pol p [] * pol p ys = f := ⟨_, rfl⟩
    have hz : pol p [] = f := by rw [← hf, pol_nil, Ser.zero_mul]
    have Hz := hid hz
    rw [hf]
    clear hz hf hu hx hy
    go_enter Tryz.func78, Tryz.ntmps78
    go_wp2_with fail
    go_ret
    exact ⟨_, [], rfl, Ints.nil, Pol.nil, Hz.out, (by repeat (first | exact Ext.refl _ | assumption | refine Ext.drew ?_ | refine Ext.drewN ?_ _ | refine Ext.alloc ?_ _ | refine Ext.trans ?_ (by assumption)))⟩
  by_cases hy0 : ys.length = 0
  · obtain rfl : ys = [] := List.eq_nil_of_length_eq_zero hy0
    obtain ⟨a, cap, rfl, hc1, hc2, hc⟩ := hv
    obtain ⟨a', cap', rfl, hd1, hd2, hd⟩ := hu
    clear hc hd
    have b1 : ((xs.length : Int) == 0) = false := by rw [beq_eq_false_iff_ne]; omega
    obtain ⟨f, hf⟩ : ∃ f, pol p xs * pol p [] = f := ⟨_, rfl⟩
    have hz : pol p [] = f := by rw [← hf, pol_nil, Ser.mul_zero]
    have Hz := hid hz
    rw [hf]
    clear hz hf hx hy hx0
    go_enter Tryz.func78, Tryz.ntmps78
    go_wp2_with fail
    go_ret
    exact ⟨_, [], rfl, Ints.nil, Pol.nil, Hz.out, (by repeat (first | exact Ext.refl _ | assumption | refine Ext.drew ?_ | refine Ext.drewN ?_ _ | refine Ext.alloc ?_ _ | refine Ext.trans ?_ (by assumption)))⟩
  have Hv := hid hv; have Hu := hid hu
  obtain ⟨a, cap, rfl, hc1, hc2, hc⟩ := hv
  obtain ⟨a', cap', rfl, hd1, hd2, hd⟩ := hu
  have hpos : 0 < xs.length := Nat.pos_of_ne_zero hx0
  obtain ⟨b, off, rfl, hb, hcell⟩ := hc hpos
  clear hc hd hcell
  have hcl := clone_any _ ys w Hu.out hl.2
  have Hx := hid hx; have Hy := hid hy; have Hp := hid hp
  obtain ⟨la, hla⟩ : ∃ la, xs.length = la := ⟨_, rfl⟩
  obtain ⟨lb, hlb⟩ : ∃ lb, ys.length = lb := ⟨_, rfl⟩
  obtain ⟨f, hf⟩ : ∃ f, pol p xs * pol p ys = f := ⟨_, rfl⟩
  rw [hlb] at hcl
  rw [hla] at Hv hl hx0 hc1 ⊢
  rw [hlb] at Hu hl hy0 hd1 ⊢
  rw [hf]
  have Hla := hid hla; have Hlb := hid hlb; have Hf := hid hf
  have Hcl := hid hcl
  obtain ⟨n, hn⟩ : ∃ n, la + lb = n + 1 := ⟨la + lb - 1, by omega⟩
  have hmk := make_ints (P := Tryz.prog) 23 22 .u64 8 (by omega) (by kernel_rfl) (by kernel_rfl) n n (Nat.le_refl _) (by omega)
  have b1 : ((la : Int) == 0) = false := by rw [beq_eq_false_iff_ne]; omega
  have b2 : ((lb : Int) == 0) = false := by rw [beq_eq_false_iff_ne]; omega
  have hln : (la : Int) + (lb : Int) - 1 = (n : Int) := by omega
  clear hpos hp hx hy hla hlb hcl hf
  go_enter Tryz.func78, Tryz.ntmps78
  go_wp2_with fail
  refine Hcl.out.mono ?_
  rintro _ w1 ⟨a1, cap1, rfl, e1, e2, e3, e4⟩
  obtain ⟨g, rfl, hg, hr⟩ := e3 (by omega)
  have hrev := reverse_any g lb cap1 ys w1 w Hlb.out (by omega) (by omega) hr e4 hg
  have Hrev := hid hrev
  clear hrev hr e3
  go_wp2_with (go_at_call 106; refine Hrev.out.mono ?_; rintro _ w2 ⟨⟨_, rfl⟩, hr2, hx2⟩)
  have hsz2 := hx2.size
  obtain ⟨g2, hg2⟩ : ∃ g2, w2.heap.size = g2 := ⟨_, rfl⟩
  have hrow := WRow.made (w := w2) (t := 22) (n := n) rfl
  obtain ⟨w3, hw3⟩ : ∃ w3, w2.alloc (.cells (madeCells #[Value.int .u64 0] n) 22) = w3 := ⟨_, rfl⟩
  have hx3 : Ext w2 w3 := by rw [← hw3]; exact (Ext.refl w2).alloc _
  rw [hw3, hg2] at hrow ⊢
  have hg3 : w2.heap.size ≤ g2 := by omega
  have Hrow := hid hrow; have Hr2 := hid hr2
  clear hw3 hrow hg2 hmk hr2 Hrev Hcl
  go_loopw [34] (fun i wr => ∃ (k : Nat) (l : List Int), i = .int .i64 k ∧ k ≤ n ∧ Hid (l.length = n) ∧ Hid (∀ j, l.getD j 0 = if j < k then f.co j else 0) ∧ WRow wr g2 0 l ∧ Ext w2 wr) (fun i _ => n - (intOf i).toNat)
  case atStart => exact ⟨0, _, rfl, Nat.zero_le _, hid (by simp), hid (fun j => by rw [replicate_get]; simp), Hrow.out, hx3⟩
  case round =>
    obtain ⟨k, l, rfl, hk, hln2, hl2, hrw, hxw⟩ := hrel
    clear hx3 Hrow
    have Hrw := hid hrw
    clear hrw
    by_cases hlt : k < n
    · obtain ⟨low, hlow⟩ : ∃ low, k + 1 - lb = low := ⟨_, rfl⟩
      obtain ⟨high, hhigh⟩ : ∃ high, min k (la - 1) = high := ⟨_, rfl⟩
      obtain ⟨m, hm⟩ : ∃ m, high + 1 - low = m := ⟨_, rfl⟩
      obtain ⟨st, hst⟩ : ∃ st, lb + low - (k + 1) = st := ⟨_, rfl⟩
      have hlh : low ≤ high ∧ high < la ∧ low + m = high + 1 ∧ 0 < m ∧ st + m ≤ lb ∧ high ≤ k := by omega
      have hv1 := (Hv.out.ext (hx2.trans hxw)).sub low m (by rw [Hla.out]; omega) hlh.2.2.2.1
      have hu1 := ((Hr2.out.ext hxw).ints' (n := lb) (cap := cap1) (by rw [List.length_reverse]; exact Hlb.out) e1 e2).sub st m (by rw [List.length_reverse, Hlb.out]; omega) hlh.2.2.2.1
      rw [Nat.zero_add] at hu1
      have hat := prod_at Hx.out Hy.out k low m (by rw [Hla.out]; omega) (by rw [Hlb.out]; omega) (by omega) (by rw [Hlb.out]; omega) (by rw [Hla.out]; omega)
      rw [Hlb.out, hst, Hf.out] at hat
      have Hv1 := hid hv1; have Hu1 := hid hu1; have Hat := hid hat
      clear hv1 hu1 hat
      have hq1 : (k : Int) - (lb : Int) + 1 ≤ (low : Int) := by omega
      have hq2 : (lb : Int) - 1 - (k : Int) + (low : Int) = (st : Int) := by omega
      go_upto_region 9 with fail
      go_cut [10, 11] (fun lo hi w' => lo = .int .i64 low ∧ hi = .int .i64 high ∧ w' = wr)
      case first =>
        go_wp2_with fail
        all_goals (go_meet; exact ⟨by refine congrArg _ ?_; omega, by refine congrArg _ ?_; omega, rfl⟩)
      case rest =>
        obtain ⟨rfl, rfl, rfl⟩ := hcut
        obtain ⟨hi1, hhi1⟩ : ∃ hi1, high + 1 = hi1 := ⟨_, rfl⟩
        obtain ⟨s1, hs1⟩ : ∃ s1, st + high = s1 := ⟨_, rfl⟩
        obtain ⟨s2, hs2⟩ : ∃ s2, s1 - low = s2 := ⟨_, rfl⟩
        obtain ⟨s3, hs3⟩ : ∃ s3, s2 + 1 = s3 := ⟨_, rfl⟩
        have w1e : IntKind.i64.wrap (hi1 : Int) = (hi1 : Int) := by rw [IntKind.wrap_i64]; omega
        have w2e : IntKind.i64.wrap (s1 : Int) = (s1 : Int) := by rw [IntKind.wrap_i64]; omega
        have w3e : IntKind.i64.wrap (s2 : Int) = (s2 : Int) := by rw [IntKind.wrap_i64]; omega
        have w4e : IntKind.i64.wrap (s3 : Int) = (s3 : Int) := by rw [IntKind.wrap_i64]; omega
        have v1e : (high : Int) + 1 = (hi1 : Int) := by omega
        have v2e : (st : Int) + (high : Int) = (s1 : Int) := by omega
        have v3e : (s1 : Int) - (low : Int) = (s2 : Int) := by omega
        have v4e : (s2 : Int) + 1 = (s3 : Int) := by omega
        have i5 : (k : Int) < (n : Int) := by omega
        have i8 : (0 : Int) ≤ (k : Int) := by omega
        have t1 := fun w => slice_run b off la cap low hi1 (by omega) (by omega) (by omega) w
        have t2 := fun w => slice_run' b off la cap low hi1 (by omega) (by omega) (by omega) w
        have t3 := fun w => slice_run g 0 lb cap1 st s3 (by omega) (by omega) (by omega) w
        have t4 := fun w => slice_run' g 0 lb cap1 st s3 (by omega) (by omega) (by omega) w
        rw [show hi1 - low = m by omega] at t1 t2
        rw [show s3 - st = m by omega, Nat.zero_add] at t3 t4
        have g3 := (Hrw.out.2 k (by rw [hln2.out]; omega)).1
        have f3 := (Hrw.out.2 k (by rw [hln2.out]; omega)).2
        rw [Nat.zero_add, hl2.out, if_neg (Nat.lt_irrefl _)] at g3
        rw [Nat.zero_add] at f3
        obtain ⟨r, hr⟩ : ∃ r, f.co k = r := ⟨_, rfl⟩
        rw [hr] at Hat
        have Hre := hid hr
        clear hr
        go_upto_region 11 with fail
        have hl1 : Hid (((xs.drop low).take m).length = ((ys.reverse.drop st).take m).length) := hid (by rw [List.length_take, List.length_drop, List.length_take, List.length_drop, List.length_reverse, Hla.out, Hlb.out]; omega)
        have hh1 : Hid (Rng p ((xs.drop low).take m)) := hid (fun x hx => Hx.out x (List.mem_of_mem_drop (List.mem_of_mem_take hx)))
        have hh2 : Hid (Rng p ((ys.reverse.drop st).take m)) := hid (fun x hx => Hy.out x (List.mem_reverse.1 (List.mem_of_mem_drop (List.mem_of_mem_take hx))))
        go_region_held3 (fun w' => w'.frozen? ⟨g2, k, none⟩ = false) (first | go_keep | exact f3)
          ((go_at_call 72; refine (dotD_as p r _ _ ((xs.drop low).take m) ((ys.reverse.drop st).take m) _ (Hv1.out.ext (by repeat (first | exact Ext.refl _ | assumption | refine Ext.drew ?_ | refine Ext.drewN ?_ _ | refine Ext.alloc ?_ _ | refine Ext.trans ?_ (by assumption)))) (Hu1.out.ext (by repeat (first | exact Ext.refl _ | assumption | refine Ext.drew ?_ | refine Ext.drewN ?_ _ | refine Ext.alloc ?_ _ | refine Ext.trans ?_ (by assumption)))) (hh1.out.u64 hp2.2) (hh2.out.u64 hp2.2) hl1.out (hh1.out.has Hp.out) (hh2.out.has Hp.out) Hat.out).mono ?_; rintro _ w4 ⟨rfl, q, rfl⟩))
        go_wp2_with fail
        go_roundw
        case rel => 
          have hs := (Hrw.out.ext (show Ext wc (wc.drewN q) from (Ext.refl wc).drewN q)).set_ (i := k) (by rw [hln2.out]; omega) r
          rw [Nat.zero_add] at hs
          exact ⟨k + 1, l.set k r, by go_num, by omega, hid (by rw [List.length_set]; exact hln2.out), hid (fun j => by
            rw [set_get l k j r (by rw [hln2.out]; omega), hl2.out]
            by_cases e : k = j
            · subst e
              rw [if_pos rfl, if_pos (by omega), Hre.out]
            · rw [if_neg e]
              by_cases e2 : j < k
              · rw [if_pos e2, if_pos (by omega)]
              · rw [if_neg e2, if_neg (by omega)]), hs, (hxw.drewN _).setCell hg3 _⟩
        case measure => simp [intOf]; omega
    · obtain rfl : n = k := by omega
      have hi := Hrw.out.ints' hln2.out (Nat.le_refl n) (by omega)
      have ht := trimmed_any (some ⟨g2, 0, none⟩) n l _ (by rw [hln2.out]; exact hi)
      rw [hln2.out] at ht
      have Ht := hid ht
      have Hi := hid hi
      clear ht hi
      go_wp2_with (go_at_call 63; refine Ht.out.mono ?_; rintro _ _ ⟨rfl, rfl⟩)
      go_ret
      have hrng : Rng p l := Rng.of_get fun j hj => by
        rw [hl2.out]
        split
        · exact Ser.co_range f hp2.1 j
        · omega
      have htl : trimN l n = trimN l l.length := by rw [hln2.out]
      refine ⟨_, trimL l, rfl, ?_, (trimL_pol hrng).1, (trimL_pol hrng).2.trans (Ser.ext_ fun j => ?_), hx2.trans hxw⟩
      · rw [htl]
        exact (Hi.out.take' _ (by rw [← htl, hln2.out]; exact trimN_le _ _))
      · rw [hrng.co, hl2.out]
        split
        · rfl
        · rw [← Hf.out]
          have := (pol_low (p := p) xs).mul (pol_low ys)
          exact (this j (by rw [Hla.out, Hlb.out]; omega)).symm
end Go.Proofs.YtijpeepdedfhoaaGreat
/- What poly.Add, Sub, Mul and Monic answer to what is right. -/
namespace Go.Proofs.YtijpeepdedfhoaaGreat
open Go.RowKit

set_option maxHeartbeats 400000 in
theorem pAdd_yes (p : Int) (v u : Value) (xs ys : List Int) (w : World) (hp : rightB p = true) (hv : Ints .u64 w v xs) (hu : Ints .u64 w u ys) (hx : Pol p xs) (hy : Pol p ys) (hl : xs.length ≤ 512 ∧ ys.length ≤ 512) :
    Calls Tryz.prog 80 #[.int .u64 p, v, u] w (RetT p (pol p xs + pol p ys) w) := by
  have c1 := hid (polRight_yes p v xs w hp hv hx hl.1)
  have c2 := hid (polRight_yes p u ys w hp hu hy hl.2)
  have c3 := hid (joined_plus p v u xs ys w hp hv hu hx.rng hy.rng (by omega))
  clear hp hv hu hx hy
  go_enter Tryz.func80, Tryz.ntmps80
  go_wp2_with (first
    | (go_at_call_of 46 v; refine c1.out.mono ?_; rintro _ _ ⟨rfl, rfl⟩)
    | (go_at_call_of 46 u; refine c2.out.mono ?_; rintro _ _ ⟨rfl, rfl⟩)
    | (go_at_call 77; refine c3.out.mono ?_; rintro _ w1 ⟨v1, zs, rfl, h1, h2, h3, h4⟩))
  go_ret2
  exact ⟨v1, zs, rfl, h1, h2, h3, h4⟩
set_option maxHeartbeats 400000 in
theorem pMul_yes (p : Int) (v u : Value) (xs ys : List Int) (w : World) (hp : rightB p = true) (hv : Ints .u64 w v xs) (hu : Ints .u64 w u ys) (hx : Pol p xs) (hy : Pol p ys) (hl : xs.length ≤ 512 ∧ ys.length ≤ 512) (hm : (pol p xs * pol p ys).low 512) :
    Calls Tryz.prog 79 #[.int .u64 p, v, u] w (RetT p (pol p xs * pol p ys) w) := by
  have c1 := hid (polRight_yes p v xs w hp hv hx hl.1)
  have c2 := hid (polRight_yes p u ys w hp hu hy hl.2)
  have c3 := hid (product_any p v u xs ys w hp hv hu hx.rng hy.rng (by omega))
  have Hm := hid hm
  clear hp hv hu hx hy hm
  go_enter Tryz.func79, Tryz.ntmps79
  go_wp2_with (first
    | (go_at_call_of 46 v; refine c1.out.mono ?_; rintro _ _ ⟨rfl, rfl⟩)
    | (go_at_call_of 46 u; refine c2.out.mono ?_; rintro _ _ ⟨rfl, rfl⟩)
    | fail)
  refine c3.out.mono ?_
  rintro _ w1 ⟨v1, zs, rfl, h1, h2, h3, h4⟩
  have H1 := hid h1
  have hzl := h2.len_le (h3 ▸ Hm.out)
  have H2 := hid h2; have H3 := hid h3
  obtain ⟨a1, cap1, rfl, k1, k2, k3⟩ := h1
  clear k3 h2 h3
  go_wp2_with fail
  go_ret2
  exact ⟨_, zs, rfl, H1.out, H2.out, H3.out, h4⟩
set_option maxHeartbeats 400000 in
theorem pMonic_nil (p : Int) (v : Value) (w : World) (hp : rightB p = true) (hv : Ints .u64 w v []) :
    Calls Tryz.prog 95 #[.int .u64 p, v] w (RetT p 0 w) := by
  have c1 := hid (polRight_yes p v [] w hp hv Pol.nil (by simp))
  have hz := hid (pol_nil (p := p))
  obtain ⟨a, cap, rfl, k1, k2, k3⟩ := hv
  clear hp k3
  go_enter Tryz.func95, Tryz.ntmps95
  go_wp2_with (go_at_call 46; refine c1.out.mono ?_; rintro _ _ ⟨rfl, rfl⟩)
  go_ret2
  exact ⟨_, [], rfl, Ints.nil, Pol.nil, hz.out, (by repeat (first | exact Ext.refl _ | assumption | refine Ext.drew ?_ | refine Ext.drewN ?_ _ | refine Ext.alloc ?_ _ | refine Ext.trans ?_ (by assumption)))⟩
set_option maxHeartbeats 400000 in
theorem pMonic_yes (p : Int) (v : Value) (xs : List Int) (w : World) (hp : rightB p = true) (hv : Ints .u64 w v xs) (hx : Pol p xs) (h0 : xs ≠ []) (hl : xs.length ≤ 512) (hu : unitB p (lead xs) = true) :
    Calls Tryz.prog 95 #[.int .u64 p, v] w (RetT p (pol p xs * Ser.C p (minv p (lead xs))) w) := by
  have hp2 := rightB_true hp
  have hpos := List.length_pos_iff.2 h0
  have hr := hx.lead_range h0
  have c1 := hid (polRight_yes p v xs w hp hv hx hl)
  have c2 := hid (invLast_yes p v xs w hp hv hpos (by omega) hu)
  have hm := minv_range p (lead xs) hp2.1
  obtain ⟨m, em⟩ : ∃ m, minv p (lead xs) = m := ⟨_, rfl⟩
  rw [em] at c2 hm ⊢
  have Hv := hid hv; have Hx := hid hx; have Hp := hid hp
  obtain ⟨a, cap, rfl, k1, k2, k3⟩ := hv
  have b1 : ((xs.length : Int) == 0) = false := by rw [beq_eq_false_iff_ne]; omega
  rw [← pol_single]
  obtain ⟨f, hf⟩ : ∃ f, pol p xs * pol p [m] = f := ⟨_, rfl⟩
  rw [hf]
  have Hf := hid hf
  clear hp hx k3 hr em hu h0 hf
  go_enter Tryz.func95, Tryz.ntmps95
  go_wp2_with (first
    | (go_at_call 46; refine c1.out.mono ?_; rintro _ _ ⟨rfl, rfl⟩)
    | (go_at_call 60; refine c2.out.mono ?_; rintro _ w1 ⟨rfl, h1⟩)
    | (go_at_call 78; refine (product_any p _ _ xs [m] _ Hp.out (Hv.out.ext (show Ext w _ from (by repeat (first | exact Ext.refl _ | assumption | refine Ext.drew ?_ | refine Ext.drewN ?_ _ | refine Ext.alloc ?_ _ | refine Ext.trans ?_ (by assumption))))) Ints.new1 Hx.out.rng (Rng.one hm.1 hm.2) (by simp; omega)).mono ?_; rintro _ w2 ⟨v1, zs, rfl, h2, h3, h4, h5⟩))
  go_ret2
  exact ⟨v1, zs, rfl, h2, h3, h4.trans Hf.out, (by repeat (first | exact Ext.refl _ | assumption | refine Ext.drew ?_ | refine Ext.drewN ?_ _ | refine Ext.alloc ?_ _ | refine Ext.trans ?_ (by assumption)))⟩
end Go.Proofs.YtijpeepdedfhoaaGreat
/- The document's own answers of layer 5: a matrix times a vector, a vector times a matrix. -/
namespace Go.Proofs.YtijpeepdedfhoaaGreat
open Go.RowKit Go.Maps

/-- a value that was boxed keeps its cells -/
theorem box_cell {w W : World} {t : TypeId} {cs : Array Value} (hW : Ext (w.alloc (.cells cs t)) W) (j : Nat) : W.cell? ⟨w.heap.size, j, none⟩ = cs[j]? :=
  (hW.cells _ _ (by simp)).trans (cell_new w cs t j)
theorem box3 (w : World) (t : TypeId) (a b c : Value) : ∀ W, Ext (w.alloc (.cells #[a, b, c] t)) W → W.cell? ⟨w.heap.size, 0, none⟩ = some a ∧ W.cell? ⟨w.heap.size, 1, none⟩ = some b ∧ W.cell? ⟨w.heap.size, 2, none⟩ = some c :=
  fun _ hW => ⟨box_cell hW 0, box_cell hW 1, box_cell hW 2⟩
/-- what a call answers: numbers, in memory of its own or not -/
def RetL (l : List Int) (w : World) (e : Ending) (w' : World) : Prop := ∃ v, e = .returned v ∧ Ints .u64 w' v l ∧ Ext w w'

/-- .. in memory of its own -/
def RetLO (l : List Int) (w : World) (e : Ending) (w' : World) : Prop := ∃ a c, e = .returned (.slice a l.length c) ∧ Ints .u64 w' (.slice a l.length c) l ∧ (0 < l.length → ∃ g, a = some ⟨g, 0, none⟩ ∧ w.heap.size ≤ g) ∧ Ext w w'
end Go.Proofs.YtijpeepdedfhoaaGreat
/- The document's own answers of layer 6: Back, Do, Sign, Same. -/
namespace Go.Proofs.YtijpeepdedfhoaaGreat
open Go.RowKit Go.Maps

/-- how many of the first k stand wrong ahead of the i-th -/
def gtTo (p : List Int) (i k : Nat) : Nat := (p.take k).countP fun x => decide (p.getD i 0 < x)
theorem gtTo_le (p : List Int) (i k : Nat) : gtTo p i k ≤ k := Nat.le_trans List.countP_le_length (by simp; omega)
theorem take_snoc_getD {p : List Int} {k : Nat} (h : k < p.length) : p.take (k + 1) = p.take k ++ [p.getD k 0] := by
  rw [List.take_succ_eq_append_getElem h]; simp [List.getD, h]
theorem gtTo_succ {p : List Int} {i k : Nat} (h : k < p.length) : gtTo p i (k + 1) = gtTo p i k + if p.getD i 0 < p.getD k 0 then 1 else 0 := by
  unfold gtTo
  rw [take_snoc_getD h, List.countP_append, List.countP_cons, List.countP_nil]
  simp
theorem inv_take_succ {p : List Int} {i : Nat} (h : i < p.length) : invL (p.take (i + 1)) = invL (p.take i) + gtTo p i i := by
  rw [take_snoc_getD h, inv_snoc]; rfl
theorem inv_take_le (p : List Int) : ∀ i, i ≤ p.length → invL (p.take i) ≤ i * p.length
  | 0, _ => by simp [invL]
  | i + 1, h => by
    have := inv_take_le p i (by omega)
    have := gtTo_le p i i
    rw [inv_take_succ (by omega), Nat.succ_mul]
    omega
end Go.Proofs.YtijpeepdedfhoaaGreat
/- Thin matrices: when the document's own answer takes one for right. -/
namespace Go.Proofs.YtijpeepdedfhoaaGreat
open Go.RowKit Go.Maps

/-- a thin matrix, as a value -/
def spV (r c : Int) (vb vc vv : Value) : Value := .agg #[.int .i64 r, .int .i64 c, vb, vc, vv]
/-- the k-th number, that lies in row i, is right -/
def CellOk (n : Nat) (bs cs vs : List Int) (i k : Nat) : Prop := vs.getD k 0 ≠ 0 ∧ 0 ≤ cs.getD k 0 ∧ cs.getD k 0 < n ∧ (bs.getD i 0 < k → cs.getD (k - 1) 0 < cs.getD k 0)
structure SpOk (p : Int) (m n : Nat) (bs cs vs : List Int) : Prop where
  m1 : 1 ≤ m ∧ m ≤ 64
  n1 : 1 ≤ n ∧ n ≤ 64
  lb : bs.length = m + 1
  lc : cs.length = vs.length
  hv : hasB p vs = true
  b0 : bs.getD 0 0 = 0
  bm : bs.getD m 0 = cs.length
  mono : ∀ i, i < m → bs.getD i 0 ≤ bs.getD (i + 1) 0
  row : ∀ i, i < m → ∀ k : Nat, bs.getD i 0 ≤ k → k < bs.getD (i + 1) 0 → CellOk n bs cs vs i k
theorem mono_ge {m : Nat} {bs : List Int} (h : ∀ i, i < m → bs.getD i 0 ≤ bs.getD (i + 1) 0) : ∀ i j, i ≤ j → j ≤ m → bs.getD i 0 ≤ bs.getD j 0 := by
  intro i j hij hj
  induction j with
  | zero => obtain rfl : i = 0 := by omega
            exact Int.le_refl _
  | succ j ih =>
    by_cases e : i = j + 1
    · rw [e]; exact Int.le_refl _
    · exact Int.le_trans (ih (by omega) (by omega)) (h j (by omega))

end Go.Proofs.YtijpeepdedfhoaaGreat
/- Thin matrices: what the document's own answer looks at, row by row. -/
namespace Go.Proofs.YtijpeepdedfhoaaGreat
open Go.RowKit Go.Maps

theorem box5 (w : World) (t : TypeId) (a b c d e : Value) : ∀ W, Ext (w.alloc (.cells #[a, b, c, d, e] t)) W → W.cell? ⟨w.heap.size, 0, none⟩ = some a ∧ W.cell? ⟨w.heap.size, 1, none⟩ = some b ∧ W.cell? ⟨w.heap.size, 2, none⟩ = some c ∧ W.cell? ⟨w.heap.size, 3, none⟩ = some d ∧ W.cell? ⟨w.heap.size, 4, none⟩ = some e :=
  fun _ hW => ⟨box_cell hW 0, box_cell hW 1, box_cell hW 2, box_cell hW 3, box_cell hW 4⟩

end Go.Proofs.YtijpeepdedfhoaaGreat
