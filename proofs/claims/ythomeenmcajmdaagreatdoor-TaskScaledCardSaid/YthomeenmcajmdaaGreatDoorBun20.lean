import Derived.Test.YthomeenmcajmdaaGreatDoorRef06
import Derived.Test.YthomeenmcajmdaaGreatDoorMat2
import Derived.Test.YthomeenmcajmdaaGreatDoorBun05
import Derived.Test.YthomeenmcajmdaaGreatDoorBun17
import Derived.Test.YthomeenmcajmdaaGreatDoorBun03
import Derived.Deep.RegionHeld3
import Derived.Deep.DrawnRows
import Derived.Test.YthomeenmcajmdaaGreatDoorJoin
namespace Go.Proofs.YthomeenmcajmdaaGreatDoor
open Go.RowKit Go.Maps
def gtTo (p : List Int) (i k : Nat) : Nat := (p.take k).countP fun x => decide (p.getD i 0 < x)
theorem take_snoc_getD {p : List Int} {k : Nat} (h : k < p.length) : p.take (k + 1) = p.take k ++ [p.getD k 0] := by
  rw [List.take_succ_eq_append_getElem h]; simp [List.getD, h]
theorem gtTo_succ {p : List Int} {i k : Nat} (h : k < p.length) : gtTo p i (k + 1) = gtTo p i k + if p.getD i 0 < p.getD k 0 then 1 else 0 := by
  unfold gtTo
  rw [take_snoc_getD h, List.countP_append, List.countP_cons, List.countP_nil]
  simp
theorem inv_take_succ {p : List Int} {i : Nat} (h : i < p.length) : invL (p.take (i + 1)) = invL (p.take i) + gtTo p i i := by
  rw [take_snoc_getD h, inv_snoc]; rfl
end Go.Proofs.YthomeenmcajmdaaGreatDoor
namespace Go.Proofs.YthomeenmcajmdaaGreatDoor
open Go.RowKit Go.Maps
def IntsL (w : World) (v : Value) (ls : List (List Int)) : Prop :=
  ∃ (a : Option Addr) (cap : Nat), v = .slice a ls.length cap ∧ ls.length ≤ cap ∧ cap ≤ 9223372036854775807 ∧
    (0 < ls.length → ∃ b off, a = some ⟨b, off, none⟩ ∧ b < w.heap.size ∧ ∀ j, j < ls.length → ∃ u, w.cell? ⟨b, off + j, none⟩ = some u ∧ Ints .i64 w u (ls.getD j []))
theorem IntsL.ext {w w' : World} {v : Value} {ls : List (List Int)} (h : IntsL w v ls) (he : Ext w w') : IntsL w' v ls := by
  obtain ⟨a, cap, h1, h2, h3, h4⟩ := h
  refine ⟨a, cap, h1, h2, h3, fun hp => ?_⟩
  obtain ⟨b, off, ha, hb, hc⟩ := h4 hp
  refine ⟨b, off, ha, Nat.lt_of_lt_of_le hb he.size, fun j hj => ?_⟩
  obtain ⟨u, c1, c2⟩ := hc j hj
  exact ⟨u, (he.cells _ _ hb).trans c1, c2.ext he⟩
theorem IntsL.nil {w : World} : IntsL w (.slice none 0 0) [] := ⟨none, 0, rfl, by simp, by omega, by simp⟩
structure RowsI (w0 w : World) (rv : Value) (us : List Value) (ls : List (List Int)) : Prop where
  own : w.ownsRow w0.heap.size 55 1 rv us.length us
  len : us.length = ls.length
  row : ∀ j, j < ls.length → w.ownsRow w0.heap.size 3 1 (us.getD j undef) (ls.getD j []).length ((ls.getD j []).map (Value.int .i64))
  ext : Ext w0 w
theorem RowsI.start (w : World) : RowsI w w (.slice none 0 0) [] [] := ⟨World.ownsRow_nil _ _ _ _, rfl, fun _ h => absurd h (Nat.not_lt_zero _), Ext.refl _⟩
theorem RowsI.ext' {w0 w w' : World} {rv : Value} {us : List Value} {ls : List (List Int)} (h : RowsI w0 w rv us ls) (y : Ext w w') : RowsI w0 w' rv us ls :=
  ⟨ownsRow_ext h.own y, h.len, fun j hj => ownsRow_ext (h.row j hj) y, h.ext.trans y⟩
theorem RowsI.grown {w0 w w' : World} {rv v : Value} {us xs : List Value} {ls : List (List Int)} (h : RowsI w0 w rv us ls) {base n : Nat} (hv : w.ownsRow base 3 1 v n xs) (hb : w0.heap.size ≤ base)
    (ha : ∀ j, j < ls.length → (us.getD j undef).ownBlock = none ∨ (us.getD j undef).ownBlock ≠ v.ownBlock) (hg : w.grownBy w' v.ownBlock) : RowsI w0 w' rv us ls :=
  ⟨h.own.kept hg (ownsRow_apart h.own hv (by decide)), h.len, fun j hj => (h.row j hj).kept hg (ha j hj), h.ext.grown hg fun k e => Nat.le_trans hb (hv.lt k e).1⟩
theorem getD_snoc {α : Type} (l : List α) (x d : α) (j : Nat) : (l ++ [x]).getD j d = if j < l.length then l.getD j d else if j = l.length then x else d := by
  simp only [List.getD, List.getElem?_append]
  split
  · rfl
  · split
    · rename_i h; rw [h, Nat.sub_self]; rfl
    · rw [List.getElem?_eq_none (by simp; omega)]; rfl
theorem RowsI.ints {w0 w : World} {rv : Value} {us : List Value} {ls : List (List Int)} (h : RowsI w0 w rv us ls) : IntsL w rv ls := by
  have hlen := h.len
  have ho := h.own
  obtain ⟨_, ⟨rfl, h1⟩ | ⟨g, cap, cur, rfl, hg, hb, hc1, hc2, hs, ht⟩⟩ := h.own
  · obtain rfl : ls = [] := List.eq_nil_of_length_eq_zero (by omega)
    exact IntsL.nil
  · refine ⟨_, cap, by rw [hlen], by omega, by unfold maxLen at hc2; omega, fun _ => ⟨g, 0, rfl, Blk.lt (t := 55) (cs := cur) hb, fun j hj => ⟨us.getD j undef, ?_, ?_⟩⟩⟩
    · rw [Nat.zero_add, ho.cellAt j (by omega), List.getD, List.getElem?_eq_getElem (show j < us.length by omega)]; rfl
    · obtain ⟨_, _, _, _, hI⟩ := owns_ints (h.row j hj)
      exact hI
end Go.Proofs.YthomeenmcajmdaaGreatDoor
namespace Go.Proofs.YthomeenmcajmdaaGreatDoor
open Go.RowKit
attribute [local go_sem ↓] Go.wp_at_zero Go.wp_at_succ
theorem prod_at {p : Int} {xs ys : List Int} (hx : Rng p xs) (hy : Rng p ys) (k low m : Nat) (h1 : low + m ≤ xs.length) (h2 : k + 1 ≤ low + ys.length) (h3 : low + m ≤ k + 1) (h4 : low = 0 ∨ k + 1 = low + ys.length) (h5 : low + m = k + 1 ∨ low + m = xs.length) :
    dotZ ((xs.drop low).take m) ((ys.reverse.drop (ys.length + low - (k + 1))).take m) % p = (pol p xs * pol p ys).co k := by
  have l1 : ((xs.drop low).take m).length = m := by simp; omega
  have l3 : ys.reverse.length = ys.length := List.length_reverse
  have l2 : ((ys.reverse.drop (ys.length + low - (k + 1))).take m).length = m := by rw [List.length_take, List.length_drop, l3]; omega
  rw [Ser.mul_co, cv, sm_congr (g := fun i => xs.getD i 0 * ys.getD (k - i) 0) (fun i _ => by rw [hx.co, hy.co]), dotZ_sm _ _ (by rw [l1, l2]), l1]
  congr 1
  refine Eq.trans (sm_congr fun i hi => ?_) (sm_piece low m (by omega) (fun i hi => by
      rcases h4 with h | h
      · omega
      · rw [getD_over (xs := ys) (by omega), Int.mul_zero]) (fun i a b => by
      rcases h5 with h | h
      · omega
      · rw [getD_over (xs := xs) (by omega), Int.zero_mul])).symm
  rw [sub_get _ _ _ _ hi, sub_get _ _ _ _ hi, rev_get ys (by omega), show ys.length - 1 - (ys.length + low - (k + 1) + i) = k - (low + i) by omega]
set_option maxRecDepth 100000 in
set_option maxHeartbeats 2000000 in
theorem product_any (p : Int) (v u : Value) (xs ys : List Int) (w : World) (hp : rightB p = true) (hv : Ints .u64 w v xs) (hu : Ints .u64 w u ys) (hx : Rng p xs) (hy : Rng p ys) (hl : xs.length ≤ 1000000 ∧ ys.length ≤ 1000000) :
    Calls Tryz.prog 168 #[.int .u64 p, v, u] w (RetP p (pol p xs * pol p ys) w) := by
  have hp2 := rightB_true hp
  by_cases hx0 : xs.length = 0
  · obtain rfl : xs = [] := List.eq_nil_of_length_eq_zero hx0
    obtain ⟨a, cap, rfl, hc1, hc2, hc⟩ := hv
    clear hc
    obtain ⟨f, hf⟩ : ∃ f, pol p [] * pol p ys = f := ⟨_, rfl⟩
    have hz : pol p [] = f := by rw [← hf, pol_nil, Ser.zero_mul]
    have Hz := hid hz
    rw [hf]
    clear hz hf hu hx hy
    go_enter Tryz.func168, Tryz.ntmps168
    go_wp2_with fail
    go_ret
    exact ⟨_, [], rfl, Ints.nil, Pol.nil, Hz.out, (by repeat (first | exact Ext.refl _ | assumption | refine Ext.drew ?_ | refine Ext.drewN ?_ _ | refine Ext.alloc ?_ _ | refine Ext.trans ?_ (by assumption)))⟩
  by_cases hy0 : ys.length = 0
  · obtain rfl : ys = [] := List.eq_nil_of_length_eq_zero hy0
    obtain ⟨a, cap, rfl, hc1, hc2, hc⟩ := hv
    obtain ⟨a', cap', rfl, hd1, hd2, hd⟩ := hu
    clear hc hd
    have b1 : ((xs.length : Int) == 0) = false := by rw [beq_eq_false_iff_ne]; omega
    obtain ⟨f, hf⟩ : ∃ f, pol p xs * pol p [] = f := ⟨_, rfl⟩
    have hz : pol p [] = f := by rw [← hf, pol_nil, Ser.mul_zero]
    have Hz := hid hz
    rw [hf]
    clear hz hf hx hy hx0
    go_enter Tryz.func168, Tryz.ntmps168
    go_wp2_with fail
    go_ret
    exact ⟨_, [], rfl, Ints.nil, Pol.nil, Hz.out, (by repeat (first | exact Ext.refl _ | assumption | refine Ext.drew ?_ | refine Ext.drewN ?_ _ | refine Ext.alloc ?_ _ | refine Ext.trans ?_ (by assumption)))⟩
  have Hv := hid hv; have Hu := hid hu
  obtain ⟨a, cap, rfl, hc1, hc2, hc⟩ := hv
  obtain ⟨a', cap', rfl, hd1, hd2, hd⟩ := hu
  have hpos : 0 < xs.length := Nat.pos_of_ne_zero hx0
  obtain ⟨b, off, rfl, hb, hcell⟩ := hc hpos
  clear hc hd hcell
  have hcl := clone_any _ ys w Hu.out hl.2
  have Hx := hid hx; have Hy := hid hy; have Hp := hid hp
  obtain ⟨la, hla⟩ : ∃ la, xs.length = la := ⟨_, rfl⟩
  obtain ⟨lb, hlb⟩ : ∃ lb, ys.length = lb := ⟨_, rfl⟩
  obtain ⟨f, hf⟩ : ∃ f, pol p xs * pol p ys = f := ⟨_, rfl⟩
  rw [hlb] at hcl
  rw [hla] at Hv hl hx0 hc1 ⊢
  rw [hlb] at Hu hl hy0 hd1 ⊢
  rw [hf]
  have Hla := hid hla; have Hlb := hid hlb; have Hf := hid hf
  have Hcl := hid hcl
  obtain ⟨n, hn⟩ : ∃ n, la + lb = n + 1 := ⟨la + lb - 1, by omega⟩
  have hmk := make_ints (P := Tryz.prog) 24 22 .u64 8 (by omega) (by kernel_rfl) (by kernel_rfl) n n (Nat.le_refl _) (by omega)
  have b1 : ((la : Int) == 0) = false := by rw [beq_eq_false_iff_ne]; omega
  have b2 : ((lb : Int) == 0) = false := by rw [beq_eq_false_iff_ne]; omega
  have hln : (la : Int) + (lb : Int) - 1 = (n : Int) := by omega
  clear hpos hp hx hy hla hlb hcl hf
  go_enter Tryz.func168, Tryz.ntmps168
  go_wp2_with fail
  refine Hcl.out.mono ?_
  rintro _ w1 ⟨a1, cap1, rfl, e1, e2, e3, e4⟩
  obtain ⟨g, rfl, hg, hr⟩ := e3 (by omega)
  have hrev := reverse_any g lb cap1 ys w1 w Hlb.out (by omega) (by omega) hr e4 hg
  have Hrev := hid hrev
  clear hrev hr e3
  go_wp2_with (go_at_call 174; refine Hrev.out.mono ?_; rintro _ w2 ⟨⟨_, rfl⟩, hr2, hx2⟩)
  have hsz2 := hx2.size
  obtain ⟨g2, hg2⟩ : ∃ g2, w2.heap.size = g2 := ⟨_, rfl⟩
  have hrow := WRow.made (w := w2) (t := 22) (n := n) rfl
  obtain ⟨w3, hw3⟩ : ∃ w3, w2.alloc (.cells (madeCells #[Value.int .u64 0] n) 22) = w3 := ⟨_, rfl⟩
  have hx3 : Ext w2 w3 := by rw [← hw3]; exact (Ext.refl w2).alloc _
  rw [hw3, hg2] at hrow ⊢
  have hg3 : w2.heap.size ≤ g2 := by omega
  have Hrow := hid hrow; have Hr2 := hid hr2
  clear hw3 hrow hg2 hmk hr2 Hrev Hcl
  go_loopw [34] (fun i wr => ∃ (k : Nat) (l : List Int), i = .int .i64 k ∧ k ≤ n ∧ Hid (l.length = n) ∧ Hid (∀ j, l.getD j 0 = if j < k then f.co j else 0) ∧ WRow wr g2 0 l ∧ Ext w2 wr) (fun i _ => n - (intOf i).toNat)
  case atStart => exact ⟨0, _, rfl, Nat.zero_le _, hid (by simp), hid (fun j => by rw [replicate_get]; simp), Hrow.out, hx3⟩
  case round =>
    obtain ⟨k, l, rfl, hk, hln2, hl2, hrw, hxw⟩ := hrel
    clear hx3 Hrow
    have Hrw := hid hrw
    clear hrw
    by_cases hlt : k < n
    · obtain ⟨low, hlow⟩ : ∃ low, k + 1 - lb = low := ⟨_, rfl⟩
      obtain ⟨high, hhigh⟩ : ∃ high, min k (la - 1) = high := ⟨_, rfl⟩
      obtain ⟨m, hm⟩ : ∃ m, high + 1 - low = m := ⟨_, rfl⟩
      obtain ⟨st, hst⟩ : ∃ st, lb + low - (k + 1) = st := ⟨_, rfl⟩
      have hlh : low ≤ high ∧ high < la ∧ low + m = high + 1 ∧ 0 < m ∧ st + m ≤ lb ∧ high ≤ k := by omega
      have hv1 := (Hv.out.ext (hx2.trans hxw)).sub low m (by rw [Hla.out]; omega) hlh.2.2.2.1
      have hu1 := ((Hr2.out.ext hxw).ints' (n := lb) (cap := cap1) (by rw [List.length_reverse]; exact Hlb.out) e1 e2).sub st m (by rw [List.length_reverse, Hlb.out]; omega) hlh.2.2.2.1
      rw [Nat.zero_add] at hu1
      have hat := prod_at Hx.out Hy.out k low m (by rw [Hla.out]; omega) (by rw [Hlb.out]; omega) (by omega) (by rw [Hlb.out]; omega) (by rw [Hla.out]; omega)
      rw [Hlb.out, hst, Hf.out] at hat
      have Hv1 := hid hv1; have Hu1 := hid hu1; have Hat := hid hat
      clear hv1 hu1 hat
      have hq1 : (k : Int) - (lb : Int) + 1 ≤ (low : Int) := by omega
      have hq2 : (lb : Int) - 1 - (k : Int) + (low : Int) = (st : Int) := by omega
      go_upto_region 9 with fail
      go_cut [10, 11] (fun lo hi w' => lo = .int .i64 low ∧ hi = .int .i64 high ∧ w' = wr)
      case first =>
        go_wp2_with fail
        all_goals (go_meet; exact ⟨by refine congrArg _ ?_; omega, by refine congrArg _ ?_; omega, rfl⟩)
      case rest =>
        obtain ⟨rfl, rfl, rfl⟩ := hcut
        obtain ⟨hi1, hhi1⟩ : ∃ hi1, high + 1 = hi1 := ⟨_, rfl⟩
        obtain ⟨s1, hs1⟩ : ∃ s1, st + high = s1 := ⟨_, rfl⟩
        obtain ⟨s2, hs2⟩ : ∃ s2, s1 - low = s2 := ⟨_, rfl⟩
        obtain ⟨s3, hs3⟩ : ∃ s3, s2 + 1 = s3 := ⟨_, rfl⟩
        have w1e : IntKind.i64.wrap (hi1 : Int) = (hi1 : Int) := by rw [IntKind.wrap_i64]; omega
        have w2e : IntKind.i64.wrap (s1 : Int) = (s1 : Int) := by rw [IntKind.wrap_i64]; omega
        have w3e : IntKind.i64.wrap (s2 : Int) = (s2 : Int) := by rw [IntKind.wrap_i64]; omega
        have w4e : IntKind.i64.wrap (s3 : Int) = (s3 : Int) := by rw [IntKind.wrap_i64]; omega
        have v1e : (high : Int) + 1 = (hi1 : Int) := by omega
        have v2e : (st : Int) + (high : Int) = (s1 : Int) := by omega
        have v3e : (s1 : Int) - (low : Int) = (s2 : Int) := by omega
        have v4e : (s2 : Int) + 1 = (s3 : Int) := by omega
        have i5 : (k : Int) < (n : Int) := by omega
        have i8 : (0 : Int) ≤ (k : Int) := by omega
        have t1 := fun w => slice_run b off la cap low hi1 (by omega) (by omega) (by omega) w
        have t2 := fun w => slice_run' b off la cap low hi1 (by omega) (by omega) (by omega) w
        have t3 := fun w => slice_run g 0 lb cap1 st s3 (by omega) (by omega) (by omega) w
        have t4 := fun w => slice_run' g 0 lb cap1 st s3 (by omega) (by omega) (by omega) w
        rw [show hi1 - low = m by omega] at t1 t2
        rw [show s3 - st = m by omega, Nat.zero_add] at t3 t4
        have g3 := (Hrw.out.2 k (by rw [hln2.out]; omega)).1
        have f3 := (Hrw.out.2 k (by rw [hln2.out]; omega)).2
        rw [Nat.zero_add, hl2.out, if_neg (Nat.lt_irrefl _)] at g3
        rw [Nat.zero_add] at f3
        obtain ⟨r, hr⟩ : ∃ r, f.co k = r := ⟨_, rfl⟩
        rw [hr] at Hat
        have Hre := hid hr
        clear hr
        go_upto_region 11 with fail
        have hl1 : Hid (((xs.drop low).take m).length = ((ys.reverse.drop st).take m).length) := hid (by rw [List.length_take, List.length_drop, List.length_take, List.length_drop, List.length_reverse, Hla.out, Hlb.out]; omega)
        have hh1 : Hid (Rng p ((xs.drop low).take m)) := hid (fun x hx => Hx.out x (List.mem_of_mem_drop (List.mem_of_mem_take hx)))
        have hh2 : Hid (Rng p ((ys.reverse.drop st).take m)) := hid (fun x hx => Hy.out x (List.mem_reverse.1 (List.mem_of_mem_drop (List.mem_of_mem_take hx))))
        go_region_held3 (fun w' => w'.frozen? ⟨g2, k, none⟩ = false) (first | go_keep | exact f3)
          ((go_at_call 46; refine (dotD_as p r _ _ ((xs.drop low).take m) ((ys.reverse.drop st).take m) _ (Hv1.out.ext (by repeat (first | exact Ext.refl _ | assumption | refine Ext.drew ?_ | refine Ext.drewN ?_ _ | refine Ext.alloc ?_ _ | refine Ext.trans ?_ (by assumption)))) (Hu1.out.ext (by repeat (first | exact Ext.refl _ | assumption | refine Ext.drew ?_ | refine Ext.drewN ?_ _ | refine Ext.alloc ?_ _ | refine Ext.trans ?_ (by assumption)))) (hh1.out.u64 hp2.2) (hh2.out.u64 hp2.2) hl1.out (hh1.out.has Hp.out) (hh2.out.has Hp.out) Hat.out).mono ?_; rintro _ w4 ⟨rfl, q, rfl⟩))
        go_wp2_with fail
        go_roundw
        case rel =>
          have hs := (Hrw.out.ext (show Ext wc (wc.drewN q) from (Ext.refl wc).drewN q)).set_ (i := k) (by rw [hln2.out]; omega) r
          rw [Nat.zero_add] at hs
          exact ⟨k + 1, l.set k r, by go_num, by omega, hid (by rw [List.length_set]; exact hln2.out), hid (fun j => by
            rw [set_get l k j r (by rw [hln2.out]; omega), hl2.out]
            by_cases e : k = j
            · subst e
              rw [if_pos rfl, if_pos (by omega), Hre.out]
            · rw [if_neg e]
              by_cases e2 : j < k
              · rw [if_pos e2, if_pos (by omega)]
              · rw [if_neg e2, if_neg (by omega)]), hs, (hxw.drewN _).setCell hg3 _⟩
        case measure => simp [intOf]; omega
    · obtain rfl : n = k := by omega
      have hi := Hrw.out.ints' hln2.out (Nat.le_refl n) (by omega)
      have ht := trimmed_any (some ⟨g2, 0, none⟩) n l _ (by rw [hln2.out]; exact hi)
      rw [hln2.out] at ht
      have Ht := hid ht
      have Hi := hid hi
      clear ht hi
      go_wp2_with (go_at_call 161; refine Ht.out.mono ?_; rintro _ _ ⟨rfl, rfl⟩)
      go_ret
      have hrng : Rng p l := Rng.of_get fun j hj => by
        rw [hl2.out]
        split
        · exact Ser.co_range f hp2.1 j
        · omega
      have htl : trimN l n = trimN l l.length := by rw [hln2.out]
      refine ⟨_, trimL l, rfl, ?_, (trimL_pol hrng).1, (trimL_pol hrng).2.trans (Ser.ext_ fun j => ?_), hx2.trans hxw⟩
      · rw [htl]
        exact (Hi.out.take' _ (by rw [← htl, hln2.out]; exact trimN_le _ _))
      · rw [hrng.co, hl2.out]
        split
        · rfl
        · rw [← Hf.out]
          have := (pol_low (p := p) xs).mul (pol_low ys)
          exact (this j (by rw [Hla.out, Hlb.out]; omega)).symm
end Go.Proofs.YthomeenmcajmdaaGreatDoor
namespace Go.Proofs.YthomeenmcajmdaaGreatDoor
open Go.RowKit
set_option maxHeartbeats 400000 in
theorem pMul_yes (p : Int) (v u : Value) (xs ys : List Int) (w : World) (hp : rightB p = true) (hv : Ints .u64 w v xs) (hu : Ints .u64 w u ys) (hx : Pol p xs) (hy : Pol p ys) (hl : xs.length ≤ 512 ∧ ys.length ≤ 512) (hm : (pol p xs * pol p ys).low 512) :
    Calls Tryz.prog 147 #[.int .u64 p, v, u] w (RetT p (pol p xs * pol p ys) w) := by
  have c1 := hid (polRight_yes p v xs w hp hv hx hl.1)
  have c2 := hid (polRight_yes p u ys w hp hu hy hl.2)
  have c3 := hid (product_any p v u xs ys w hp hv hu hx.rng hy.rng (by omega))
  have Hm := hid hm
  clear hp hv hu hx hy hm
  go_enter Tryz.func147, Tryz.ntmps147
  go_wp2_with (first
    | (go_at_call_of 163 v; refine c1.out.mono ?_; rintro _ _ ⟨rfl, rfl⟩)
    | (go_at_call_of 163 u; refine c2.out.mono ?_; rintro _ _ ⟨rfl, rfl⟩)
    | fail)
  refine c3.out.mono ?_
  rintro _ w1 ⟨v1, zs, rfl, h1, h2, h3, h4⟩
  have H1 := hid h1
  have hzl := h2.len_le (h3 ▸ Hm.out)
  have H2 := hid h2; have H3 := hid h3
  obtain ⟨a1, cap1, rfl, k1, k2, k3⟩ := h1
  clear k3 h2 h3
  go_wp2_with fail
  go_ret2
  exact ⟨_, zs, rfl, H1.out, H2.out, H3.out, h4⟩
set_option maxHeartbeats 400000 in
theorem pMonic_nil (p : Int) (v : Value) (w : World) (hp : rightB p = true) (hv : Ints .u64 w v []) :
    Calls Tryz.prog 148 #[.int .u64 p, v] w (RetT p 0 w) := by
  have c1 := hid (polRight_yes p v [] w hp hv Pol.nil (by simp))
  have hz := hid (pol_nil (p := p))
  obtain ⟨a, cap, rfl, k1, k2, k3⟩ := hv
  clear hp k3
  go_enter Tryz.func148, Tryz.ntmps148
  go_wp2_with (go_at_call 163; refine c1.out.mono ?_; rintro _ _ ⟨rfl, rfl⟩)
  go_ret2
  exact ⟨_, [], rfl, Ints.nil, Pol.nil, hz.out, (by repeat (first | exact Ext.refl _ | assumption | refine Ext.drew ?_ | refine Ext.drewN ?_ _ | refine Ext.alloc ?_ _ | refine Ext.trans ?_ (by assumption)))⟩
set_option maxHeartbeats 400000 in
theorem pMonic_yes (p : Int) (v : Value) (xs : List Int) (w : World) (hp : rightB p = true) (hv : Ints .u64 w v xs) (hx : Pol p xs) (h0 : xs ≠ []) (hl : xs.length ≤ 512) (hu : unitB p (lead xs) = true) :
    Calls Tryz.prog 148 #[.int .u64 p, v] w (RetT p (pol p xs * Ser.C p (minv p (lead xs))) w) := by
  have hp2 := rightB_true hp
  have hpos := List.length_pos_iff.2 h0
  have hr := hx.lead_range h0
  have c1 := hid (polRight_yes p v xs w hp hv hx hl)
  have c2 := hid (invLast_yes p v xs w hp hv hpos (by omega) hu)
  have hm := minv_range p (lead xs) hp2.1
  obtain ⟨m, em⟩ : ∃ m, minv p (lead xs) = m := ⟨_, rfl⟩
  rw [em] at c2 hm ⊢
  have Hv := hid hv; have Hx := hid hx; have Hp := hid hp
  obtain ⟨a, cap, rfl, k1, k2, k3⟩ := hv
  have b1 : ((xs.length : Int) == 0) = false := by rw [beq_eq_false_iff_ne]; omega
  rw [← pol_single]
  obtain ⟨f, hf⟩ : ∃ f, pol p xs * pol p [m] = f := ⟨_, rfl⟩
  rw [hf]
  have Hf := hid hf
  clear hp hx k3 hr em hu h0 hf
  go_enter Tryz.func148, Tryz.ntmps148
  go_wp2_with (first
    | (go_at_call 163; refine c1.out.mono ?_; rintro _ _ ⟨rfl, rfl⟩)
    | (go_at_call 164; refine c2.out.mono ?_; rintro _ w1 ⟨rfl, h1⟩)
    | (go_at_call 168; refine (product_any p _ _ xs [m] _ Hp.out (Hv.out.ext (show Ext w _ from (by repeat (first | exact Ext.refl _ | assumption | refine Ext.drew ?_ | refine Ext.drewN ?_ _ | refine Ext.alloc ?_ _ | refine Ext.trans ?_ (by assumption))))) Ints.new1 Hx.out.rng (Rng.one hm.1 hm.2) (by simp; omega)).mono ?_; rintro _ w2 ⟨v1, zs, rfl, h2, h3, h4, h5⟩))
  go_ret2
  exact ⟨v1, zs, rfl, h2, h3, h4.trans Hf.out, (by repeat (first | exact Ext.refl _ | assumption | refine Ext.drew ?_ | refine Ext.drewN ?_ _ | refine Ext.alloc ?_ _ | refine Ext.trans ?_ (by assumption)))⟩
end Go.Proofs.YthomeenmcajmdaaGreatDoor
