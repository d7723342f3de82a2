/- Package own: row, over. -/
import Derived.Test.YtijpeepdedfhoaaGreatBun22
import Derived.Test.YtijpeepdedfhoaaGreatBun19
import Derived.Test.YtijpeepdedfhoaaGreatPNorm
import Derived.Test.YtijpeepdedfhoaaGreatBun24
namespace Go.Proofs.YtijpeepdedfhoaaGreat
open Go.RowKit Go.Maps

/-- the row of what a matrix's powers make, told by u -/
def rowO (p : Int) (n : Nat) (xs u v : List Int) (d : Nat) : List Int := tab d fun k => dotZ u (powL p n xs k v) % p
/-- Make's H, before it is trimmed -/
def overL (p : Int) (F R : List Int) : List Int := tab R.length fun k => dotZ (F.drop (k + 1)) (R.take (R.length - k)) % p
theorem over_fol {p : Int} {n : Nat} {xs F u v : List Int} (hu : u.length = n) (hv : v.length = n) {d k : Nat} (hd : F.length = d + 1) (hk : k < d) :
    dotZ (F.drop (k + 1)) ((rowO p n xs u v d).take (d - k)) % p = folF F.length (fun k => F.getD k 0) (dotS n (atF n xs) (atV u) (atV v)) k % p := by
  have l1 : (F.drop (k + 1)).length = d - k := by simp; omega
  have l2 : ((rowO p n xs u v d).take (d - k)).length = d - k := by simp [rowO, tab_len]
  rw [dotZ_sm _ _ (by rw [l1, l2]), l1]
  unfold folF
  rw [show F.length - (k + 1) = d - k by omega]
  refine sm_mod fun i hi => ?_
  have e1 : (F.drop (k + 1)).getD i 0 = F.getD (k + 1 + i) 0 := by simp [List.getD, List.getElem?_drop]
  have e2 : ((rowO p n xs u v d).take (d - k)).getD i 0 = (rowO p n xs u v d).getD i 0 := by simp [List.getD, hi]
  have e3 : (rowO p n xs u v d).getD i 0 = dotZ u (powL p n xs i v) % p := tab_get _ (by omega)
  have e4 : dotZ u (powL p n xs i v) % p = dotS n (atF n xs) (atV u) (atV v) i % p := by
    rw [dotZ_sm u _ (by rw [hu, powL_len hv]), hu]
    unfold dotS
    refine sm_mod fun j hj => ?_
    have := powL_mod (p := p) (n := n) (xs := xs) (v := v) i j hj
    rw [Int.mul_emod, show (powL p n xs i v).getD j 0 % p = itF n (atF n xs) i (atV v) j % p from this, ← Int.mul_emod]
    rfl
  rw [e1, e2, e3, mm_r, Int.mul_emod, e4, ← Int.mul_emod]
theorem over_foll {p : Int} {n : Nat} {xs F u v : List Int} (hu : u.length = n) (hv : v.length = n) {d : Nat} (hd : F.length = d + 1) : trimL (overL p F (rowO p n xs u v d)) = folL p n xs F u v := by
  have hl : (rowO p n xs u v d).length = d := tab_len _ _
  unfold overL folL
  rw [hl, show F.length - 1 = d by omega]
  exact congrArg trimL (tab_congr fun k hk => over_fol hu hv hd hk)

set_option maxRecDepth 100000 in
set_option maxHeartbeats 1000000 in
theorem owRow (p : Int) (n d : Nat) (mv uv vv : Value) (xs u v : List Int) (w : World) (ok : MatOk p n n xs) (hm : Ints .u64 w mv xs) (hu : Ints .u64 w uv u) (hul : u.length = n) (hur : Rng p u) (hv : Ints .u64 w vv v) (hvl : v.length = n) (hvr : Rng p v) (hd : 1 ≤ d ∧ d ≤ 64) :
    Calls Tryz.prog 33 #[.int .u64 p, matV n n mv, uv, vv, .int .i64 d] w (RetL (rowO p n xs u v d) w) := by
  have hp2 := rightB_true ok.hp
  have C1 := hid fun (W : World) (hW : Ext w W) => krPowers p n d mv vv xs v W ok (hm.ext hW) (hv.ext hW) hvl hvr (by omega)
  have CD := hid fun (W : World) (z : Value) (k : Nat) (r : Int) (hW : Ext w W) (hz : Ints .u64 W z (powL p n xs k v)) (h : dotZ u (powL p n xs k v) % p = r) => dot_as p r uv z u (powL p n xs k v) W (hu.ext hW) hz (hur.u64 hp2.2) ((powL_rng (n := n) (xs := xs) hp2.1 hvr k).u64 hp2.2) (by rw [hul, powL_len hvl]) (hur.has ok.hp) ((powL_rng (n := n) (xs := xs) hp2.1 hvr k).has ok.hp) h
  have PG := hid fun (k : Nat) (h : k < d) => powsL_get (p := p) (n := n) (xs := xs) (v := v) h
  have PN := hid (powsL_len p n xs v d)
  obtain ⟨L, hL⟩ : ∃ L, powsL p n xs v d = L := ⟨_, rfl⟩
  rw [hL] at C1 PG PN
  unfold RetPows at C1
  rw [PN.out] at C1
  unfold rowO
  obtain ⟨F, hF⟩ : ∃ F : Nat → Int, (fun k => dotZ u (powL p n xs k v) % p) = F := ⟨_, rfl⟩
  have HF := hid (fun i => (congrFun hF i : dotZ u (powL p n xs i v) % p = F i))
  rw [hF]
  clear hF hL
  obtain ⟨a1, c1, rfl, -, -, -⟩ := hm
  obtain ⟨a2, c2, rfl, -, -, -⟩ := hu
  obtain ⟨a3, c3, rfl, -, -, -⟩ := hv
  unfold matV at C1
  unfold matV
  have hmk := make_ints (P := Tryz.prog) 23 22 .u64 8 (by omega) (by kernel_rfl) (by kernel_rfl) d d (Nat.le_refl _) (by omega)
  have hrl := hid (List.length_replicate (n := d) (a := (0 : Int)))
  have hx0 := hid (show Ext w (w.alloc (.cells #[.int .i64 (n : Int), .int .i64 (n : Int), .slice a1 xs.length c1] 25)) from (Ext.refl w).alloc _)
  clear hul hur hvl hvr ok
  go_enter Tryz.func33, Tryz.ntmps33
  go_wp2_with (go_at_call 74; refine (C1.out _ hx0.out).mono ?_; rintro _ w1 ⟨gp, us, rfl, hul, hB, hus, x1⟩)
  have HB := hid hB; have HUS := hid hus; have hul' := hid hul
  have Y1 := hid (hx0.out.trans x1)
  have hrow := hid (WRow.made (w := w1) (t := 22) (n := d) rfl)
  obtain ⟨g, hg⟩ : ∃ g, w1.heap.size = g := ⟨_, rfl⟩
  have hgw : w1.heap.size ≤ g := by omega
  obtain ⟨w2, hw2⟩ : ∃ w2, w1.alloc (.cells (madeCells #[Value.int .u64 0] d) 22) = w2 := ⟨_, rfl⟩
  have hx2 : Ext w1 w2 := hw2 ▸ (Ext.refl w1).alloc _
  rw [hg, hw2] at hrow
  rw [hg, hw2]
  clear hg hw2 hmk hB hus hul x1
  go_loopw [29] (fun i wr => ∃ (k : Nat) (l : List Int), i = .int .i64 k ∧ k ≤ d ∧ Hid (l.length = d) ∧ Hid (∀ j, l.getD j 0 = if j < k then F j else 0) ∧ Hid (WRow wr g 0 l) ∧ Ext w1 wr) (fun i _ => d - (intOf i).toNat)
  case atStart => exact ⟨0, _, rfl, Nat.zero_le _, hrl, hid (fun j => by rw [replicate_get]; simp), hrow, hx2⟩
  case round =>
    obtain ⟨k, l, rfl, hk, hln, hl2, Hrw, hxw⟩ := hrel
    clear hx2
    by_cases hlt : k < d
    · have g1 : wr.cell? ⟨gp, k, none⟩ = some (us.getD k undef) := by
        have := (HB.out.ext hxw).cell k
        rw [this]
        simp [List.getD, show k < us.length by rw [hul'.out]; exact hlt]
      have iU := (HUS.out k hlt).ext hxw
      rw [PG.out k hlt] at iU
      obtain ⟨uk, euk⟩ : ∃ uk, us.getD k undef = uk := ⟨_, rfl⟩
      rw [euk] at g1 iU
      have IU := hid iU
      obtain ⟨au, cu, rfl, -, -, -⟩ := iU
      obtain ⟨z, hz⟩ : ∃ z, F k = z := ⟨_, rfl⟩
      have hd' := hid ((HF.out k).trans hz)
      have Hz := hid hz
      clear hz euk
      go_wp2_with fail
      refine (CD.out wr _ k z (Y1.out.trans hxw) IU.out hd'.out).mono ?_
      rintro _ w4 ⟨rfl, x4⟩
      have g2 := ((Hrw.out.ext x4).2 k (by rw [hln.out]; omega)).1
      have f2 := ((Hrw.out.ext x4).2 k (by rw [hln.out]; omega)).2
      rw [Nat.zero_add] at g2 f2
      clear g1
      go_wp2_with fail
      go_roundw
      case rel =>
        have hs := (Hrw.out.ext x4).set_ (i := k) (by rw [hln.out]; omega) z
        rw [Nat.zero_add] at hs
        refine ⟨k + 1, l.set k z, by go_num, by omega, hid (by rw [List.length_set]; exact hln.out), hid (fun j => ?_), hid hs, (hxw.trans x4).setCell (p := ⟨g, k, none⟩) hgw _⟩
        rw [set_get l k j z (by rw [hln.out]; omega), hl2.out]
        by_cases e : k = j
        · subst e
          rw [if_pos rfl, if_pos (by omega), Hz.out]
        · rw [if_neg e]
          by_cases e2 : j < k
          · rw [if_pos e2, if_pos (by omega)]
          · rw [if_neg e2, if_neg (by omega)]
      case measure => simp [intOf]; omega
    · obtain rfl : d = k := by omega
      go_wp2_with fail
      go_ret
      have e : l = tab d F := tab_of hln.out fun j hj => by rw [hl2.out, if_pos hj]
      exact ⟨_, rfl, e ▸ Hrw.out.ints' hln.out (Nat.le_refl _) (by omega), Y1.out.trans hxw⟩

set_option maxRecDepth 100000 in
set_option maxHeartbeats 1000000 in
theorem owOver (p : Int) (fv rv : Value) (F R : List Int) (w : World) (hp : rightB p = true) (hv : Ints .u64 w fv F) (hu : Ints .u64 w rv R) (hF : Rng p F) (hR : Rng p R) (hl : F.length = R.length + 1) (hn : 1 ≤ R.length ∧ R.length ≤ 64) :
    Calls Tryz.prog 32 #[.int .u64 p, fv, rv] w (RetL (trimL (overL p F R)) w) := by
  have hp2 := rightB_true hp
  have HO := hid (show Rng p (overL p F R) from tab_rng fun _ _ => mod_range _ hp2.1)
  have hOl : (overL p F R).length = R.length := tab_len _ _
  have CN := hid fun (W : World) (z : Value) (hz : Ints .u64 W z (overL p F R)) => pNorm_yes p z (overL p F R) W hp hz (HO.out.u64 hp2.2) (by rw [hOl]; omega)
  have CD := hid fun (W : World) (x y : Value) (k : Nat) (r : Int) (h1 : Ints .u64 W x (F.drop (k + 1))) (h2 : Ints .u64 W y (R.take (R.length - k))) (hk : k < R.length) (h : dotZ (F.drop (k + 1)) (R.take (R.length - k)) % p = r) => (show Calls Tryz.prog 72 #[.int .u64 p, x, y] W (RetD (.tuple #[.int .u64 r, .int .i64 0]) W) from by
    have hF' : Rng p (F.drop (k + 1)) := fun x hx => hF x (List.mem_of_mem_drop hx)
    have hR' : Rng p (R.take (R.length - k)) := fun x hx => hR x (List.mem_of_mem_take hx)
    exact dotD_as p r x y _ _ W h1 h2 (hF'.u64 hp2.2) (hR'.u64 hp2.2) (by rw [List.length_drop, List.length_take]; omega) (hF'.has hp) (hR'.has hp) h)
  have HV := hid hv; have HW := hid hu
  obtain ⟨d, hd⟩ : ∃ d, R.length = d := ⟨_, rfl⟩
  rw [hd] at hn hl hOl
  have Hd := hid hd; have Hl := hid hl; have HOl := hid hOl
  have HOg := hid fun (k : Nat) (h : k < d) => (show (overL p F R).getD k 0 = dotZ (F.drop (k + 1)) (R.take (d - k)) % p by unfold overL; rw [hd]; exact tab_get _ h)
  rw [hd] at CD
  obtain ⟨O, hO⟩ : ∃ O, overL p F R = O := ⟨_, rfl⟩
  rw [hO] at HO HOl HOg CN ⊢
  obtain ⟨a, cap, rfl, k1, k2, k3⟩ := hv
  obtain ⟨a', cap', rfl, k1', k2', k3'⟩ := hu
  rw [hl] at k1 HV ⊢
  rw [hd] at k1' HW ⊢
  clear k3 k3' hl hd hO hOl hF hR
  have hu1 : Tryz.prog.underlying 23 = some (.slice (Tryz.prog.elem 23)) := by kernel_rfl
  have Hu1 := hid hu1
  clear hu1
  have hmk := make_ints (P := Tryz.prog) 23 22 .u64 8 (by omega) (by kernel_rfl) (by kernel_rfl) d d (Nat.le_refl _) (by omega)
  have hrl := hid (List.length_replicate (n := d) (a := (0 : Int)))
  go_enter Tryz.func32, Tryz.ntmps32
  go_wp2_with fail
  have hrow := hid (WRow.made (w := w) (t := 22) (n := d) rfl)
  obtain ⟨g, hg⟩ : ∃ g, w.heap.size = g := ⟨_, rfl⟩
  have hgw : w.heap.size ≤ g := by omega
  obtain ⟨w2, hw2⟩ : ∃ w2, w.alloc (.cells (madeCells #[Value.int .u64 0] d) 22) = w2 := ⟨_, rfl⟩
  have hx2 : Ext w w2 := hw2 ▸ (Ext.refl w).alloc _
  rw [hg, hw2] at hrow
  rw [hg, hw2]
  clear hg hw2 hmk
  go_loopw [14] (fun i wr => ∃ (k : Nat) (l : List Int), i = .int .i64 k ∧ k ≤ d ∧ Hid (l.length = d) ∧ Hid (∀ j, j < d → l.getD j 0 = if j < k then O.getD j 0 else 0) ∧ Hid (WRow wr g 0 l) ∧ Ext w wr) (fun i _ => d - (intOf i).toNat)
  case atStart => exact ⟨0, _, rfl, Nat.zero_le _, hrl, hid (fun j _ => by rw [replicate_get]; simp), hrow, hx2⟩
  case round =>
    obtain ⟨k, l, rfl, hk, hln, hl2, Hrw, hxw⟩ := hrel
    clear hx2
    by_cases hlt : k < d
    · obtain ⟨lo, hlo⟩ : ∃ lo, k + 1 = lo := ⟨_, rfl⟩
      obtain ⟨hi, hhi⟩ : ∃ hi, d - k = hi := ⟨_, rfl⟩
      obtain ⟨q1, s1, I1⟩ := cut_l HV.out lo (by omega)
      obtain ⟨q2, s2, I2⟩ := cut_h HW.out hi (by omega)
      have t1 := fun W => (run_sliceAt_slice W 23 _ _ _ _ Hu1.out).trans (s1 W)
      have t2 := fun W => (run_sliceAt_slice W 23 _ _ _ _ Hu1.out).trans (s2 W)
      obtain ⟨n1, en1⟩ : ∃ n1, d + 1 - lo = n1 := ⟨_, rfl⟩
      obtain ⟨c1, ec1⟩ : ∃ c1, cap - lo = c1 := ⟨_, rfl⟩
      rw [en1, ec1] at s1 t1 I1
      have v1e : (k : Int) + 1 = (lo : Int) := by omega
      have w1e : IntKind.i64.wrap (lo : Int) = (lo : Int) := by rw [IntKind.wrap_i64]; omega
      have v2e : (d : Int) - (k : Int) = (hi : Int) := by omega
      have w2e : IntKind.i64.wrap (hi : Int) = (hi : Int) := by rw [IntKind.wrap_i64]; omega
      have hq := HOg.out k hlt
      obtain ⟨r, hr⟩ : ∃ r, O.getD k 0 = r := ⟨_, rfl⟩
      rw [hr] at hq
      have C := hid fun (W : World) (hW : Ext w W) => CD.out W (.slice q1 n1 c1) (.slice q2 hi cap') k r (by rw [hlo]; exact I1.ext hW) (by rw [hhi]; exact I2.ext hW) hlt hq.symm
      have Hr := hid hr
      have g3 := (Hrw.out.2 k (by rw [hln.out]; omega)).1
      have f3 := (Hrw.out.2 k (by rw [hln.out]; omega)).2
      rw [Nat.zero_add] at g3 f3
      have i5 : (k : Int) < (d : Int) := by omega
      have i8 : (0 : Int) ≤ (k : Int) := by omega
      clear hr hq I1 I2 hlo hhi en1 ec1
      go_upto_region 5 with fail
      go_region_held3 (fun w' => w'.frozen? ⟨g, k, none⟩ = false) (first | go_keep | exact f3)
        ((go_at_call 72; refine (C.out _ (hxw.trans (by repeat (first | exact Ext.refl _ | assumption | refine Ext.drew ?_ | refine Ext.drewN ?_ _ | refine Ext.alloc ?_ _ | refine Ext.trans ?_ (by assumption))))).mono ?_; rintro _ w4 ⟨rfl, q, rfl⟩))
      go_wp2_with fail
      go_roundw
      case rel =>
        have hs := (Hrw.out.ext (show Ext wr (wr.drewN q) from (Ext.refl wr).drewN q)).set_ (i := k) (by rw [hln.out]; omega) r
        rw [Nat.zero_add] at hs
        exact ⟨k + 1, l.set k r, by go_num, by omega, hid (by rw [List.length_set]; exact hln.out), hid (fun j hj => by
          rw [set_get l k j r (by rw [hln.out]; omega), hl2.out j hj]
          by_cases e : k = j
          · subst e
            rw [if_pos rfl, if_pos (by omega), Hr.out]
          · rw [if_neg e]
            by_cases e2 : j < k
            · rw [if_pos e2, if_pos (by omega)]
            · rw [if_neg e2, if_neg (by omega)]), hid hs, (hxw.drewN _).setCell hgw _⟩
      case measure => simp [intOf]; omega
    · obtain rfl : d = k := by omega
      have e : l = O := list_ext (by rw [hln.out, HOl.out]) fun j hj => by
        rw [hln.out] at hj
        rw [hl2.out j hj, if_pos hj]
      have hi := Hrw.out.ints' hln.out (Nat.le_refl d) (by omega)
      rw [e] at hi
      have C := hid (CN.out _ _ hi)
      clear hi e
      go_wp2_with (go_at_call 73; refine C.out.mono ?_; rintro _ w5 ⟨v5, zs, rfl, i5, p5, q5, x5⟩; have I5 := hid i5; obtain ⟨a5, c5, rfl, -, -, -⟩ := i5)
      go_ret
      have e : zs = trimL O := p5.inj (trimL_pol HO.out).1 (q5.trans (trimL_pol HO.out).2.symm)
      exact ⟨_, rfl, e ▸ I5.out, hxw.trans x5⟩
end Go.Proofs.YtijpeepdedfhoaaGreat
