/- What the texts Kr4, Kr5, Kr6, Ow7, Ow8, Ow9, Kr8 show, in one text. -/
import Derived.Test.YtijpeepdedfhoaaGreatBun19
import Derived.Test.YtijpeepdedfhoaaGreatBun29
import Derived.Test.YtijpeepdedfhoaaGreatSv9
import Derived.Test.YtijpeepdedfhoaaGreatBun27
import Derived.Test.YtijpeepdedfhoaaGreatPNorm
import Derived.Test.YtijpeepdedfhoaaGreatBun24
import Derived.Test.YtijpeepdedfhoaaGreatBun20
import Derived.Test.YtijpeepdedfhoaaGreatKr3
import Derived.Test.YtijpeepdedfhoaaGreatBun13
import Derived.Test.YtijpeepdedfhoaaGreatBun26
import Derived.Test.YtijpeepdedfhoaaGreatBun23
import Derived.Test.YtijpeepdedfhoaaGreatChunk
import Derived.RangeFuncCalls
import Derived.Test.YtijpeepdedfhoaaGreatOw6
import Derived.Test.YtijpeepdedfhoaaGreatBezout
import Derived.Test.YtijpeepdedfhoaaGreatBun07
import Derived.Maps.AppendAt
import Derived.Deep.RegionHeld3
import Derived.Test.YtijpeepdedfhoaaGreatBun06
/- Package krylov: Of. -/
namespace Go.Proofs.YtijpeepdedfhoaaGreat
open Go.RowKit Go.Maps

set_option maxHeartbeats 1000000 in
theorem krOf_no (p r c : Int) (v u : Value) (xs b : List Int) (w : World) (h0 : 0 ≤ p) (h1 : p ≤ 18446744073709551615) (hv : Ints .u64 w v xs) (hx : U64s xs) (hu : Ints .u64 w u b) (hb : U64s b) (h : besideB p r c xs b = false) :
    Calls Tryz.prog 58 #[.int .u64 p, matV r c v, u] w (Ret (.tuple #[.slice none 0 0, .int .i64 1]) w) := by
  have C1 := hid fun (W : World) (hW : Ext w W) => krBeside p r c v u xs b W h0 h1 (hv.ext hW) hx (hu.ext hW) hb
  rw [h] at C1
  obtain ⟨a, cap, rfl, k1, k2, k3⟩ := hv
  clear k3 hx hb hu h
  unfold matV at C1
  unfold matV
  go_enter Tryz.func58, Tryz.ntmps58
  go_wp2_with (go_at_call 81; refine (C1.out _ (by repeat (first | exact Ext.refl _ | assumption | refine Ext.drew ?_ | refine Ext.drewN ?_ _ | refine Ext.alloc ?_ _ | refine Ext.trans ?_ (by assumption)))).mono ?_; rintro _ w1 ⟨rfl, x1⟩)
  go_ret2
  exact ⟨rfl, Ext.trans (by repeat (first | exact Ext.refl _ | assumption | refine Ext.drew ?_ | refine Ext.drewN ?_ _ | refine Ext.alloc ?_ _ | refine Ext.trans ?_ (by assumption))) x1⟩

/-- the powers, one behind the other, and turned -/
def colsP (p : Int) (n : Nat) (xs b : List Int) : List Int := turnL n n (powsL p n xs b n).flatten
theorem pows_flat {p : Int} {n : Nat} {xs b : List Int} (hb : b.length = n) {i k : Nat} (hi : i < n) (hk : k < n) : (powsL p n xs b n).flatten.getD (k * n + i) 0 = (powL p n xs k b).getD i 0 := by
  have := flat_get n (fun k => powL p n xs k b) (fun k => powL_len hb k) (List.range n) k i (by simpa using hk) hi
  rw [show (List.range n).getD k 0 = k by simp [List.getD, hk]] at this
  exact this
theorem pows_flat_len {p : Int} {n : Nat} {xs b : List Int} (hb : b.length = n) : ∀ m, (powsL p n xs b m).flatten.length = m * n
  | 0 => by simp [powsL]
  | m + 1 => by
    have h := pows_flat_len (p := p) (xs := xs) hb m
    unfold powsL at h ⊢
    rw [List.range_succ, List.map_append, List.flatten_append, List.length_append, h, Nat.add_mul]
    simp [powL_len hb]
theorem pows_flat_rng {p : Int} {n : Nat} {xs b : List Int} (hp : 2 ≤ p) (hr : Rng p b) (m : Nat) : Rng p (powsL p n xs b m).flatten := fun x hx => by
  obtain ⟨l, hl, hxl⟩ := List.mem_flatten.1 hx
  obtain ⟨k, -, rfl⟩ := List.mem_map.1 hl
  exact powL_rng hp hr k x hxl
theorem colsP_pow {p : Int} {n : Nat} {xs b : List Int} (hb : b.length = n) : PowC p n xs b (colsP p n xs b) := fun i k hi hk => by
  unfold colsP turnL
  rw [grid_get _ hi hk, pows_flat hb hi hk]
theorem flat_ok {p : Int} {n : Nat} {xs b : List Int} (ok : MatOk p n n xs) (hb : b.length = n) (hr : Rng p b) : MatOk p n n (powsL p n xs b n).flatten :=
  ⟨ok.hp, pows_flat_rng (rightB_true ok.hp).1 hr n, ok.hm, ok.hn, pows_flat_len hb n⟩
theorem colsP_ok {p : Int} {n : Nat} {xs b : List Int} (ok : MatOk p n n xs) (hb : b.length = n) (hr : Rng p b) : MatOk p n n (colsP p n xs b) := (flat_ok ok hb hr).turn
/-- the first rows of a block of rows -/
theorem first_rows {W : World} {g m n : Nat} {t : TypeId} {us : List Value} {ls : List (List Int)} (hB : Blk W g t us.toArray) (hl : us.length = ls.length) (hi : ∀ j, j < ls.length → Ints .u64 W (us.getD j undef) (ls.getD j [])) (hm : ls.length = m) (hn : n ≤ m) (hm2 : m ≤ 1000) :
    ∃ zs, Vals W (.slice (some ⟨g, 0, none⟩) n m) (zs.map slV) ∧ RowsU W zs (ls.take n) ∧ zs.length = n := by
  have hex : ∀ j, ∃ z : Option Addr × Nat × Nat, j < m → us.getD j undef = slV z := fun j => by
    by_cases hj : j < m
    · obtain ⟨a, cap, e, -⟩ := hi j (by omega)
      exact ⟨⟨a, _, cap⟩, fun _ => e⟩
    · exact ⟨⟨none, 0, 0⟩, fun h => absurd h hj⟩
  let f : Nat → Option Addr × Nat × Nat := fun j => Classical.choose (hex j)
  have hf : ∀ j, j < m → us.getD j undef = slV (f j) := fun j => Classical.choose_spec (hex j)
  have hzl : ((List.range n).map f).length = n := by simp
  have hz : ∀ (j : Nat) (x : Option Addr × Nat × Nat), ((List.range n).map f)[j]? = some x → j < n ∧ x = f j := fun j x hj => by
    have h1 := (List.getElem?_eq_some_iff.1 hj).1
    rw [hzl] at h1
    refine ⟨h1, ?_⟩
    simp [h1] at hj
    exact hj.symm
  refine ⟨(List.range n).map f, ⟨some ⟨g, 0, none⟩, m, by simp, by simp; omega, by omega, fun _ => ⟨g, 0, rfl, hB.lt, fun j x hj => ?_⟩⟩, ⟨by simp; omega, fun j x hj => ?_⟩, hzl⟩
  · rw [List.getElem?_map, Option.map_eq_some_iff] at hj
    obtain ⟨y, hy, rfl⟩ := hj
    obtain ⟨h1, rfl⟩ := hz j y hy
    rw [Nat.zero_add, hB.cell, ← hf j (by omega), List.getElem?_toArray, List.getD, List.getElem?_eq_getElem (show j < us.length by omega)]
    rfl
  · obtain ⟨h1, rfl⟩ := hz j x hj
    rw [← hf j (by omega)]
    have := hi j (by omega)
    rwa [show (ls.take n).getD j [] = ls.getD j [] by simp [List.getD, h1]]
end Go.Proofs.YtijpeepdedfhoaaGreat
/- Package krylov: Of, over a prime. -/
namespace Go.Proofs.YtijpeepdedfhoaaGreat
open Go.RowKit Go.Maps

set_option maxRecDepth 100000 in
set_option maxHeartbeats 2000000 in
theorem krOf (p : Int) (n : Nat) (v u : Value) (xs b g : List Int) (w : World) (ok : MatOk p n n xs) (hf : Fld p) (hv : Ints .u64 w v xs) (hu : Ints .u64 w u b) (hb : b.length = n) (hr : Rng p b) (hg : OwnL p n xs b g) :
    Calls Tryz.prog 58 #[.int .u64 p, matV n n v, u] w (RetE 0 g w) := by
  have hp2 := rightB_true ok.hp
  have hn := ok.hn
  have C1 := hid fun (W : World) (hW : Ext w W) => krBeside p n n v u xs b W (by omega) (by omega) (hv.ext hW) ok.u64 (hu.ext hW) (hr.u64 hp2.2)
  rw [besideB_ok ok hb hr] at C1
  have C2 := hid fun (W : World) (hW : Ext w W) => (show Calls Tryz.prog 74 #[.int .u64 p, matV n n v, u, .int .i64 ((n : Int) + 1)] W (RetPows (powsL p n xs b (n + 1)) W) from krPowers p n (n + 1) v u xs b W ok (hv.ext hW) (hu.ext hW) hb hr (by omega))
  have hpn := powsL_len p n xs b (n + 1)
  have htk : (powsL p n xs b (n + 1)).take n = powsL p n xs b n := by simp [powsL, ← List.map_take, List.take_range, Nat.min_eq_left]
  have hfl := pows_flat_len (p := p) (xs := xs) hb n
  have C3 := hid fun (W : World) (gp : Nat) (us : List Value) (hB : Blk W gp 23 us.toArray) (hl : us.length = (powsL p n xs b (n + 1)).length) (hi : ∀ j, j < (powsL p n xs b (n + 1)).length → Ints .u64 W (us.getD j undef) ((powsL p n xs b (n + 1)).getD j [])) =>
    (show Calls Tryz.prog 69 #[.slice (some ⟨gp, 0, none⟩) n (n + 1)] W fun e w' => ∃ a c, e = .returned (.slice a (n * n) c) ∧ Ints .u64 w' (.slice a (n * n) c) (powsL p n xs b n).flatten ∧ Ext W w' from by
      obtain ⟨zs, z1, z2, z3⟩ := first_rows hB hl hi hpn (show n ≤ n + 1 by omega) (by omega)
      rw [htk] at z2
      refine (concat_any _ zs _ W z1 z2 (by omega) (fun l hl => ?_) (by rw [hfl]; exact Nat.mul_pos hn.1 hn.1)).mono fun e w' h => ?_
      · obtain ⟨k, -, rfl⟩ := List.mem_map.1 hl
        rw [powL_len hb]; exact hn.2
      · obtain ⟨a, c, rfl, ho, hx⟩ := h
        have := own_ints ho
        rw [hfl] at this
        exact ⟨a, c, by rw [hfl], this, hx⟩)
  have C4 := hid fun (W : World) (z : Value) (hz : Ints .u64 W z (powsL p n xs b n).flatten) => (show Calls Tryz.prog 25 #[.int .u64 p, matV n n z] W (RetN n n (colsP p n xs b) W) from mxTurn_yes p n n z _ W (flat_ok ok hb hr) hz)
  have hcok := colsP_ok ok hb hr
  have hpow := colsP_pow (p := p) (xs := xs) hb
  have hto := takeL_ok (m := n) (n := n) hp2.1 hf hcok.hx
  have hfree := freeC_lt (n := n) hto.cols_nodup fun c hc => hto.cols_lt hc
  rw [hto.lk] at hfree
  have hcl := hcok.hl
  by_cases hk : (takeL p n n (colsP p n xs b)).U.length < n
  · obtain ⟨x, hx⟩ := IsK.of hcok hf hk
    have hxg := hpow.kernel hcok hf hr hg hx
    have C5 := hid fun (W : World) (z : Value) (hz : Ints .u64 W z (colsP p n xs b)) => svKernel_yes p n n z _ x W hcok hf hz hx hk
    have C6 := hid fun (W : World) (z : Value) (hz : Ints .u64 W z x) => (pNorm_yes p z x W ok.hp hz (hx.rng.u64 hp2.2) (by rw [hx.len]; omega)).mono fun e w' h => (show RetE 0 g W e w' from by
      obtain ⟨v', zs, rfl, h1, h2, h3, h4⟩ := h
      have ht := trimL_pol hx.rng
      have : zs = g := by rw [← hxg]; exact h2.inj ht.1 (by rw [h3, ht.2])
      exact ⟨v', rfl, this ▸ h1, h4⟩)
    obtain ⟨a, cap, rfl, k1, k2, k3⟩ := hv
    obtain ⟨a', cap', rfl, k1', k2', k3'⟩ := hu
    rw [hb] at C1 C2
    rw [hb]
    unfold matV at C1 C2 C4 C5
    unfold matV
    unfold RetPows at C2
    have hA := hid (Blk.new w 25 #[.int .i64 (n : Int), .int .i64 (n : Int), .slice a xs.length cap])
    obtain ⟨b0, b1, b2⟩ := hA.out.at3
    obtain ⟨L, hL⟩ : ∃ L, powsL p n xs b (n + 1) = L := ⟨_, rfl⟩
    rw [hL] at C2 C3 hpn
    rw [hpn] at C2 C3
    obtain ⟨N, hN⟩ : ∃ N, n + 1 = N := ⟨_, rfl⟩
    rw [hN] at C2 C3
    have hN1 : n ≤ N := by omega
    have hN2 : (n : Int) ≤ (N : Int) := by omega
    have hN3 : n < N := by omega
    have hN4 : N ≤ 65 := by omega
    have HNN := hid hN
    obtain ⟨FL, hFL⟩ : ∃ FL, (powsL p n xs b n).flatten = FL := ⟨_, rfl⟩
    rw [hFL] at C3 C4 hfl
    obtain ⟨CL, hCL⟩ : ∃ CL, colsP p n xs b = CL := ⟨_, rfl⟩
    rw [hCL] at C4 C5 hcl
    clear hCL hFL hL htk hto hpow hcok hfree hf hk hx hxg hg ok hr k3 k3' hb hp2 hfl hpn hN
    go_enter Tryz.func58, Tryz.ntmps58
    go_wp2_with (first
      | (go_at_call 81; refine (C1.out _ (by repeat (first | exact Ext.refl _ | assumption | refine Ext.drew ?_ | refine Ext.drewN ?_ _ | refine Ext.alloc ?_ _ | refine Ext.trans ?_ (by assumption)))).mono ?_; rintro _ w1 ⟨rfl, x1⟩; have HA1 := hid (hA.out.ext x1); obtain ⟨d0, d1, d2⟩ := HA1.out.at3)
      | (go_at_call 74; refine (C2.out _ (Ext.trans (by repeat (first | exact Ext.refl _ | assumption | refine Ext.drew ?_ | refine Ext.drewN ?_ _ | refine Ext.alloc ?_ _ | refine Ext.trans ?_ (by assumption))) x1)).mono ?_; rintro _ w2 ⟨gp, us, rfl, p1, p2, p3, x2⟩; have P3 := hid p3; clear p3)
      | (go_at_call 69; refine (C3.out _ _ _ p2 p1 P3.out).mono ?_; rintro _ w3 ⟨a3, c3, rfl, q3, x3⟩)
      | (go_at_call 25; refine (C4.out _ _ q3).mono ?_; rintro _ w4 ⟨z4, rfl, q4, x4⟩; unfold matV; have Q4 := hid q4; obtain ⟨a4, c4, rfl, -, -, -⟩ := q4
         rw [hcl] at Q4)
      | (go_at_call 92; refine (C5.out _ _ (Q4.out.alloc _)).mono ?_; rintro _ w5 ⟨z5, rfl, q5, x5⟩; have Q5 := hid q5; obtain ⟨a5, c5, rfl, -, -, -⟩ := q5)
      | (go_at_call 73; refine (C6.out _ _ Q5.out).mono ?_; rintro _ w6 ⟨z6, rfl, q6, x6⟩; have Q6 := hid q6; obtain ⟨a6, c6, rfl, -, -, -⟩ := q6))
    have e1 : Ext w w4 := ((((Ext.refl w).alloc _).trans x1).trans x2).trans (x3.trans x4)
    have e2 : Ext w w6 := (e1.alloc _).trans (x5.trans x6)
    go_ret2
    exact ⟨_, rfl, Q6.out, e2⟩
  · have hfull := hpow.full hcok hf hr hg (by rw [hfree]; exact hk)
    obtain ⟨x, hx, hxg⟩ := hpow.sol hcok hf hr hb hg hfull
    have hxl := hx.len
    have C5 := hid fun (W : World) (z : Value) (hz : Ints .u64 W z (colsP p n xs b)) => svKernel_no p n n z _ W hcok hf hz hk
    have C6 := hid fun (W : World) (z z' : Value) (hz : Ints .u64 W z (colsP p n xs b)) (hz' : Ints .u64 W z' (powL p n xs n b)) => svSolve_yes p n n z z' _ _ x W hcok hf hz hz' (powL_len hb n) (powL_rng hp2.1 hr n) hx
    have C7 := hid fun (W : World) (z : Value) (hz : Ints .u64 W z x) => krFrom0 p z x W ok.hp hz hx.rng (by omega)
    have hng : negL p x ++ [1] = g := by rw [← hxg]; unfold negL; rw [hxl]
    have hnl := negL_len p x
    rw [hxl] at C7 hnl
    have hpg := powsL_get (p := p) (n := n) (xs := xs) (v := b) (show n < n + 1 by omega)
    obtain ⟨i0, hi, hz0, hz1, hz2⟩ := info_parts info_u64p
    obtain ⟨a, cap, rfl, k1, k2, k3⟩ := hv
    obtain ⟨a', cap', rfl, k1', k2', k3'⟩ := hu
    rw [hb] at C1 C2
    rw [hb]
    unfold matV at C1 C2 C4 C5 C6
    unfold matV
    unfold RetPows at C2
    have hA := hid (Blk.new w 25 #[.int .i64 (n : Int), .int .i64 (n : Int), .slice a xs.length cap])
    obtain ⟨b0, b1, b2⟩ := hA.out.at3
    obtain ⟨L, hL⟩ : ∃ L, powsL p n xs b (n + 1) = L := ⟨_, rfl⟩
    rw [hL] at C2 C3 hpn hpg
    rw [hpn] at C2 C3
    obtain ⟨N, hN⟩ : ∃ N, n + 1 = N := ⟨_, rfl⟩
    rw [hN] at C2 C3
    have hN1 : n ≤ N := by omega
    have hN2 : (n : Int) ≤ (N : Int) := by omega
    have hN3 : n < N := by omega
    have hN5 : (n : Int) < (N : Int) := by omega
    have hN4 : N ≤ 65 := by omega
    have HNN := hid hN
    obtain ⟨FL, hFL⟩ : ∃ FL, (powsL p n xs b n).flatten = FL := ⟨_, rfl⟩
    rw [hFL] at C3 C4 hfl
    obtain ⟨CL, hCL⟩ : ∃ CL, colsP p n xs b = CL := ⟨_, rfl⟩
    rw [hCL] at C4 C5 C6 hcl
    obtain ⟨PN, hPN⟩ : ∃ PN, powL p n xs n b = PN := ⟨_, rfl⟩
    rw [hPN] at C6 hpg
    obtain ⟨NL, hNL⟩ : ∃ NL, negL p x = NL := ⟨_, rfl⟩
    rw [hNL] at C7 hng hnl
    have HNG := hid hng; have HPG := hid hpg; have HNL := hid hnl; have HXL := hid hxl
    clear hCL hFL hL htk hto hpow hcok hfree hf hk hx hxg hg ok hr k3 k3' hb hp2 hfl hpn hN hfull hng hpg hnl hxl hPN hNL
    go_enter Tryz.func58, Tryz.ntmps58
    go_wp2_with (first
      | (go_at_call 81; refine (C1.out _ (by repeat (first | exact Ext.refl _ | assumption | refine Ext.drew ?_ | refine Ext.drewN ?_ _ | refine Ext.alloc ?_ _ | refine Ext.trans ?_ (by assumption)))).mono ?_; rintro _ w1 ⟨rfl, x1⟩; have HA1 := hid (hA.out.ext x1); obtain ⟨d0, d1, d2⟩ := HA1.out.at3)
      | (go_at_call 74; refine (C2.out _ (Ext.trans (by repeat (first | exact Ext.refl _ | assumption | refine Ext.drew ?_ | refine Ext.drewN ?_ _ | refine Ext.alloc ?_ _ | refine Ext.trans ?_ (by assumption))) x1)).mono ?_; rintro _ w2 ⟨gp, us, rfl, p1, p2, p3, x2⟩; have P3 := hid p3; have P2 := hid p2; have P1 := hid p1; clear p3 p2 p1)
      | (go_at_call 69; refine (C3.out _ _ _ P2.out P1.out P3.out).mono ?_; rintro _ w3 ⟨a3, c3, rfl, q3, x3⟩)
      | (go_at_call 25; refine (C4.out _ _ q3).mono ?_; rintro _ w4 ⟨z4, rfl, q4, x4⟩; unfold matV; have Q4 := hid q4; obtain ⟨a4, c4, rfl, -, -, -⟩ := q4
         rw [hcl] at Q4)
      | (go_at_call 92; refine (C5.out _ _ (Q4.out.alloc _)).mono ?_; rintro _ w5 ⟨z5, rfl, q5, x5⟩; have Q5 := hid q5; obtain ⟨a5, c5, rfl, -, -, -⟩ := q5
         have e1 : Ext w4 w5 := ((Ext.refl w4).alloc _).trans x5
         have HB5 := hid ((Blk.new w4 25 #[.int .i64 (n : Int), .int .i64 (n : Int), .slice a4 (n * n) c4]).ext x5)
         obtain ⟨u0, u1, u2⟩ := HB5.out.at3
         have hus := (P3.out n hN3).ext ((x3.trans x4).trans e1)
         rw [HPG.out] at hus
         have cn := (P2.out.ext ((x3.trans x4).trans e1)).cell n
         obtain ⟨un, hun⟩ : ∃ un, us.getD n undef = un := ⟨_, rfl⟩
         rw [List.getElem?_toArray, List.getElem?_eq_getElem (by rw [P1.out]; exact hN3), show us[n]'(by rw [P1.out]; exact hN3) = un by rw [← hun, List.getD, List.getElem?_eq_getElem (by rw [P1.out]; exact hN3)]; rfl] at cn
         rw [hun] at hus
         have HUS := hid hus
         obtain ⟨an, can, rfl, -, -, -⟩ := hus
         clear hun
         have fs := hid fun (W : World) (hW : Ext w5 W) => (show (W.cell? ⟨w4.heap.size, 0, none⟩ = some (.int .i64 (n : Int)) ∧ W.cell? ⟨w4.heap.size, 1, none⟩ = some (.int .i64 (n : Int)) ∧ W.cell? ⟨w4.heap.size, 2, none⟩ = some (.slice a4 (n * n) c4)) ∧ W.cell? ⟨gp, n, none⟩ = some (.slice an PN.length can) from
           ⟨(HB5.out.ext hW).at3, (hW.cells _ _ (cell_lt cn)).trans cn⟩)))
    go_region_held3 (fun w' => (w'.cell? ⟨w4.heap.size, 0, none⟩ = some (.int .i64 (n : Int)) ∧ w'.cell? ⟨w4.heap.size, 1, none⟩ = some (.int .i64 (n : Int)) ∧ w'.cell? ⟨w4.heap.size, 2, none⟩ = some (.slice a4 (n * n) c4)) ∧ w'.cell? ⟨gp, n, none⟩ = some (.slice an PN.length can))
      (first | assumption | exact fs.out _ ((Ext.refl w5).drew) | exact fs.out _ (((Ext.refl w5).drew).trans x6))
      ((first
        | (go_at_call 50; refine (C6.out _ _ _ ((Q4.out.alloc _).ext (x5.trans ((Ext.refl w5).drew))) (HUS.out.ext ((Ext.refl w5).drew))).mono ?_; rintro _ w6 ⟨z6, rfl, q6, x6⟩; have Q6 := hid q6; obtain ⟨a6, c6, rfl, -, -, -⟩ := q6)))
    go_wp2_with (first
      | (go_at_call 93; refine (C7.out _ _ Q6.out).mono ?_; rintro _ w7 ⟨g7, rfl, o7, x7⟩; have O7 := hid o7; have hs7 := x7.size; clear o7)
      | (at_builtin; refine wpList_append_own _ rfl _ _ 23 rfl w6.heap.size 22 i0 (.int .u64 0) 1 8 Tryz.underlying23 hi hz0 hz1 hz2 rfl (by decide) (.slice (some ⟨g7, 0, none⟩) n n) n (NL.map (Value.int .u64)) rfl (O7.out.alloc _) ⟨w7.heap.size, 0, none⟩ 1 1 [.int .u64 1] rfl rfl (cells_new _ _ _ (by simp)) (by simp [Value.oneCell']) (by simp only [maxLen]; omega) (by omega) (by simp; omega) ?_; intro v8 w8 hown8 hgrow8 hnil8))
    have e3 : Ext w w4 := ((((Ext.refl w).alloc _).trans x1).trans x2).trans (x3.trans x4)
    have e4 : Ext w w6 := (e3.trans e1).trans (((Ext.refl w5).drew).trans x6)
    have e5 : Ext w w8 := ((e4.trans x7).alloc _).grown hgrow8 (fun k e => by have := (O7.out.lt k e).1; have := e4.size; omega)
    have h8 : w8.ownsRow w6.heap.size 22 1 v8 (n + 1) (g.map (Value.int .u64)) := by rw [← HNG.out, List.map_append]; exact hown8
    go_ret2
    exact ⟨_, rfl, own_ints h8, e5⟩
end Go.Proofs.YtijpeepdedfhoaaGreat
/- Package krylov: Min. -/
namespace Go.Proofs.YtijpeepdedfhoaaGreat
open Go.RowKit Go.Maps Go.Shelf

attribute [local go_sem] Oper.semAt_some

theorem results_cell_cell {P : Program} {fn : Func} {p q : Tmp} {ty ty2 : TypeId} (h : fn.results = #[.cell p ty, .cell q ty2]) (tmps : Array Value) (w : World) (x y : Value) (g g2 : Nat)
    (hp : tmps.getD p undef = .pointer (some ⟨g, 0, none⟩)) (hx : (loadVar ty ⟨g, 0, none⟩).run P w = .ok x w) (hq : tmps.getD q undef = .pointer (some ⟨g2, 0, none⟩)) (hy : (loadVar ty2 ⟨g2, 0, none⟩).run P w = .ok y w) :
    (results fn tmps).run P w = .ok (.tuple #[x, y]) w := by
  have hp' : tmps[p]?.getD undef = .pointer (some ⟨g, 0, none⟩) := by simpa using hp
  have hq' : tmps[q]?.getD undef = .pointer (some ⟨g2, 0, none⟩) := by simpa using hq
  simp [results, h, hp', hq', asAddr, hx, hy, Result.andThen]
theorem load_row {w : World} {g : Nat} {t : TypeId} {x : Value} (h : Blk w g t #[x]) : (loadVar 23 ⟨g, 0, none⟩).run Tryz.prog w = .ok x w := by
  have h1 : (isAgg 23).run Tryz.prog w = .ok false w := Tryz.isAgg23 w
  have h2 : w.cell? ⟨g, 0, none⟩ = some x := h.cell 0
  unfold loadVar
  simp only [Sem.run_bind, h1, Result.andThen_ok]
  simp [go_sem, h2]
theorem ints_off2 {W : World} {g : Nat} {t : TypeId} {cs : Array Value} (hB : Blk W g t cs) (hcs : ∀ (j : Nat) (k : Int), cs[j]? ≠ some (.int .u64 k)) {v : Value} {xs : List Int} (hi : Ints .u64 W v xs) (hl : 0 < xs.length) : ∀ b, v.ownBlock = some b → b ≠ g := fun b hb e => by
  obtain ⟨a', cap, rfl, h1, h2, h3⟩ := hi
  obtain ⟨b', off, rfl, hb', hc⟩ := h3 hl
  have e1 : b' = b := by simpa [Value.ownBlock] using hb
  subst e1; subst e
  have hc0 := hc 0 hl
  rw [hB.cell] at hc0
  exact hcs _ _ hc0
theorem errno_off (x : Int) : ∀ (j : Nat) (k : Int), (#[Value.int .i64 x] : Array Value)[j]? ≠ some (.int .u64 k) := fun j k h => by
  cases j with
  | zero => simp at h
  | succ j => simp at h
/-- a list of numbers doesn't lie where something else does -/
theorem ints_off {W : World} {g : Nat} {t : TypeId} {a : Option Addr} {l c : Nat} (hB : Blk W g t #[.slice a l c]) {v : Value} {xs : List Int} (hi : Ints .u64 W v xs) (hl : 0 < xs.length) : ∀ b, v.ownBlock = some b → b ≠ g := fun b hb e => by
  obtain ⟨a', cap, rfl, h1, h2, h3⟩ := hi
  obtain ⟨b', off, rfl, hb', hc⟩ := h3 hl
  have e1 : b' = b := by simpa [Value.ownBlock] using hb
  subst e1; subst e
  have hc0 := hc 0 hl
  rw [hB.cell] at hc0
  cases off with
  | zero => simp at hc0
  | succ k => simp at hc0
theorem ints_cells {W : World} {v : Value} {xs : List Int} (hi : Ints .u64 W v xs) (hl : 0 < xs.length) {row : Option Nat} (hr : ∀ r, row = some r → ∃ o : Obj, W.heap[r]? = some o ∧ o.isCells = false) : ∀ b, v.ownBlock = some b → row ≠ some b := fun b hb e => by
  obtain ⟨a', cap, rfl, h1, h2, h3⟩ := hi
  obtain ⟨b', off, rfl, hb', hc⟩ := h3 hl
  have e1 : b' = b := by simpa [Value.ownBlock] using hb
  subst e1
  obtain ⟨o, ho, hcl⟩ := hr b' e
  obtain ⟨o', ho', hcl'⟩ := cells_of (hc 0 hl)
  rw [ho] at ho'
  cases ho'; rw [hcl] at hcl'; cases hcl'
theorem row_unit {n x : Nat} (hx : x < n) : rowOf n (oneL n) x = unitL n x := tab_congr fun k hk => by
  rw [oneL, grid_get _ hx hk]
  by_cases e : x = k
  · rw [if_pos e, if_pos e.symm]
  · rw [if_neg e, if_neg (fun h => e h.symm)]

set_option maxRecDepth 100000 in
set_option maxHeartbeats 1000000 in
theorem krMin_no (p r c : Int) (v : Value) (xs : List Int) (w : World) (h0 : 0 ≤ p) (h1 : p ≤ 18446744073709551615) (hv : Ints .u64 w v xs) (hx : U64s xs) (h : squareB p r c xs = false) :
    Calls Tryz.prog 20 #[.int .u64 p, matV r c v] w (Ret (.tuple #[.slice none 0 0, .int .i64 1]) w) := by
  have C1 := hid fun (W : World) (hW : Ext w W) => krSquare p r c v xs W h0 h1 (hv.ext hW) hx
  rw [h] at C1
  obtain ⟨a, cap, rfl, k1, k2, k3⟩ := hv
  clear k3 hx h
  unfold matV at C1
  unfold matV
  have hb2 := hid (boxes2 ((w.alloc (.cells #[.int .u64 p] 22)).alloc (.cells #[.int .i64 r, .int .i64 c, .slice a xs.length cap] 25)) 23 31 #[.slice none 0 0] #[.int .i64 0])
  have X0 : Ext w ((w.alloc (.cells #[.int .u64 p] 22)).alloc (.cells #[.int .i64 r, .int .i64 c, .slice a xs.length cap] 25)) := ((Ext.refl w).alloc _).alloc _
  obtain ⟨w2, hw2⟩ : ∃ w2, (w.alloc (.cells #[.int .u64 p] 22)).alloc (.cells #[.int .i64 r, .int .i64 c, .slice a xs.length cap] 25) = w2 := ⟨_, rfl⟩
  have HS2 := hid (show w2.heap.size = w.heap.size + 1 + 1 from by rw [← hw2]; simp)
  rw [hw2] at hb2 X0
  rw [HS2.out] at hb2
  have HW2 := hid hw2
  clear hw2
  go_enter Tryz.func20, Tryz.ntmps20
  go_wp2_with (go_at_call 55; refine (C1.out _ (by repeat (first | exact Ext.refl _ | assumption | refine Ext.drew ?_ | refine Ext.drewN ?_ _ | refine Ext.alloc ?_ _ | refine Ext.trans ?_ (by assumption)))).mono ?_; rintro _ w1 ⟨rfl, x1⟩
               rw [HW2.out] at x1
               have B1 := hid (hb2.out.1.ext x1); have B2 := hid (hb2.out.2.1.ext x1)
               have c1 := B1.out.cell 0; have f1 := B1.out.frozen 0; have c2 := B2.out.cell 0; have f2 := B2.out.frozen 0)
  clear c1 f1 c2 f2
  have D1 := (B1.out.set_ 0 (.slice none 0 0)).grown (setCell_grown (w1.setCell ⟨w.heap.size + 1 + 1, 0, none⟩ (.slice none 0 0)) ⟨w.heap.size + 1 + 1 + 1, 0, none⟩ (.int .i64 1)) (by simp)
  have D2 := (B2.out.grown (setCell_grown w1 ⟨w.heap.size + 1 + 1, 0, none⟩ (.slice none 0 0)) (by simp)).set_ 0 (.int .i64 1)
  have hE : Ext w w1 := (X0.trans hb2.out.2.2).trans x1
  refine bodyPost_ret (results_cell_cell rfl _ _ (.slice none 0 0) (.int .i64 1) (w.heap.size + 1 + 1) (w.heap.size + 1 + 1 + 1) rfl (load_row D1) rfl (load_errno D2)) rfl ?_
  exact ⟨rfl, (hE.setCell (by show w.heap.size ≤ w.heap.size + 1 + 1; omega) _).setCell (by show w.heap.size ≤ w.heap.size + 1 + 1 + 1; omega) _⟩

/-- the call's own memory: the least multiple so far, and its box -/
def MinS (p : Int) (n : Nat) (xs : List Int) (w5 W : World) (G : Nat) (l : List Nat) : Prop := ∃ a c L, Blk W G 23 #[.slice a L.length c] ∧ Ints .u64 W (.slice a L.length c) L ∧ IsOwn p n (atF n xs) (fun v => ∃ x, x ∈ l ∧ v = uniF x) L ∧ w5.grownBy W (some G)
theorem MinS.own {p : Int} {n : Nat} {xs : List Int} {w5 W W' : World} {G : Nat} {l : List Nat} (h : MinS p n xs w5 W G l) {row : Option Nat} (hg : W.grownBy W' row) (hr : ∀ r, row = some r → w5.heap.size ≤ r ∧ ∃ o : Obj, W.heap[r]? = some o ∧ o.isCells = false) : MinS p n xs w5 W' G l := by
  obtain ⟨a, c, L, h1, h2, h3, h4⟩ := h
  exact ⟨a, c, L, h1.grown hg (cells_ne h1 fun r e => (hr r e).2), h2.grown hg (ints_cells h2 (List.length_pos_iff.2 h3.ne) fun r e => (hr r e).2), h3, grown_new h4 hg fun q e => (hr q e).1⟩

set_option maxRecDepth 100000 in
set_option maxHeartbeats 2000000 in
theorem krMin (p : Int) (n : Nat) (v : Value) (xs h : List Int) (w : World) (ok : MatOk p n n xs) (hf : Fld p) (hv : Ints .u64 w v xs) (hh : MinL p n xs h) :
    Calls Tryz.prog 20 #[.int .u64 p, matV n n v] w (RetE 0 h w) := by
  have hp2 := rightB_true ok.hp
  have hn := ok.hn
  have C1 := hid fun (W : World) (hW : Ext w W) => (callsIn_wide (n := 6)).2 (krSquare p n n v xs W (by omega) (by omega) (hv.ext hW) ok.u64)
  rw [squareB_ok ok] at C1
  have C2 := hid fun (W : World) => (callsIn_wide (n := 6)).2 (mxOne_yes n W hn)
  have Hok := hid ok; have HF := hid hf; have Hv := hid hv; have HH := hid hh
  obtain ⟨a, cap, rfl, k1, k2, k3⟩ := hv
  unfold matV at C1
  unfold matV
  have hb4 := hid (show Blk ((((w.alloc (.cells #[.int .u64 p] 22)).alloc (.cells #[.int .i64 (n : Int), .int .i64 (n : Int), .slice a xs.length cap] 25)).alloc (.cells #[.slice none 0 0] 23)).alloc (.cells #[.int .i64 0] 31)) w.heap.size 22 #[.int .u64 p] ∧
    Blk ((((w.alloc (.cells #[.int .u64 p] 22)).alloc (.cells #[.int .i64 (n : Int), .int .i64 (n : Int), .slice a xs.length cap] 25)).alloc (.cells #[.slice none 0 0] 23)).alloc (.cells #[.int .i64 0] 31)) (w.heap.size + 1) 25 #[.int .i64 (n : Int), .int .i64 (n : Int), .slice a xs.length cap] ∧
    Blk ((((w.alloc (.cells #[.int .u64 p] 22)).alloc (.cells #[.int .i64 (n : Int), .int .i64 (n : Int), .slice a xs.length cap] 25)).alloc (.cells #[.slice none 0 0] 23)).alloc (.cells #[.int .i64 0] 31)) (w.heap.size + 1 + 1) 23 #[.slice none 0 0] ∧
    Blk ((((w.alloc (.cells #[.int .u64 p] 22)).alloc (.cells #[.int .i64 (n : Int), .int .i64 (n : Int), .slice a xs.length cap] 25)).alloc (.cells #[.slice none 0 0] 23)).alloc (.cells #[.int .i64 0] 31)) (w.heap.size + 1 + 1 + 1) 31 #[.int .i64 0] ∧
    Ext w ((((w.alloc (.cells #[.int .u64 p] 22)).alloc (.cells #[.int .i64 (n : Int), .int .i64 (n : Int), .slice a xs.length cap] 25)).alloc (.cells #[.slice none 0 0] 23)).alloc (.cells #[.int .i64 0] 31)) from
    ⟨(Blk.new w _ _).ext (((Ext.refl _).alloc _).alloc _ |>.alloc _), (Blk.at_ (by rw [alloc_size])).ext (((Ext.refl _).alloc _).alloc _), (Blk.at_ (by rw [alloc_size, alloc_size])).ext ((Ext.refl _).alloc _), Blk.at_ (by rw [alloc_size, alloc_size, alloc_size]), ((((Ext.refl w).alloc _).alloc _).alloc _).alloc _⟩)
  have c0 := hb4.out.1.cell 0; have c1 := hb4.out.2.1.cell 0; have c2 := hb4.out.2.1.cell 1; have c3 := hb4.out.2.1.cell 2
  refine (callsIn_wide (n := 7)).1 ?_
  have f1 : Fence.wide.fn 57 := trivial
  have f2 : Fence.wide.fn 91 := trivial
  have f3 : Fence.wide.fn 56 := trivial
  have f4 : Fence.wide.fn 55 := trivial
  have f5 : Fence.wide.fn 58 := trivial
  have f6 : Fence.wide.fn 59 := trivial
  clear k3 ok hf hh
  refine callsIn_of_wp_marks Tryz.func20 rfl trivial ?_ rfl
  simp only [Tryz.ntmps20, List.size_toArray, List.length_cons, List.length_nil, Nat.reduceAdd, Nat.reduceSub, Array.replicate_succ, Array.replicate_zero, List.push_toArray, List.append_toArray, List.nil_append, List.cons_append]
  gi_wp2_with fail
  refine (C1.out _ hb4.out.2.2.2.2).mono ?_
  rintro _ w1 ⟨rfl, x1⟩
  have B1 := hid (hb4.out.1.ext x1); have B2 := hid (hb4.out.2.1.ext x1); have B3 := hid (hb4.out.2.2.1.ext x1); have B4 := hid (hb4.out.2.2.2.1.ext x1); have X1 := hid (hb4.out.2.2.2.2.trans x1)
  clear c0 c1 c2 c3
  have hs1 := B4.out.lt
  obtain ⟨H, hH⟩ : ∃ H, w.heap.size = H := ⟨_, rfl⟩
  obtain ⟨T, hT⟩ : ∃ T, w1.heap.size = T := ⟨_, rfl⟩
  have HHH := hid hH; have HTT := hid hT
  rw [hH] at B1 B2 B3 B4 hs1
  rw [hT] at hs1
  simp only [hH]
  clear hH
  have hB1 := hid (B1.out.ext (((Ext.refl w1).alloc (.cells #[.int .u64 1] 22)).alloc (.cells #[.slice (some ⟨T, 0, none⟩) 1 1] 23)))
  have hB2 := hid (B2.out.ext (((Ext.refl w1).alloc (.cells #[.int .u64 1] 22)).alloc (.cells #[.slice (some ⟨T, 0, none⟩) 1 1] 23)))
  have e1 := hB2.out.cell 0
  gi_wp2_with fail
  refine (C2.out _).mono ?_
  rintro _ w3 ⟨ov, rfl, ho, x3⟩
  unfold matV
  have HO := hid ho
  obtain ⟨ao, co, rfl, o1, o2, o3⟩ := ho
  obtain ⟨bo, fo, rfl, hbo, hco⟩ := o3 (by rw [oneL_len]; exact Nat.mul_pos hn.1 hn.1)
  rw [oneL_len] at o1 HO hco
  rw [oneL_len]
  have HCO := hid hco
  have HA3 := hid (Blk.new w3 25 #[.int .i64 (n : Int), .int .i64 (n : Int), .slice (some ⟨bo, fo, none⟩) (n * n) co])
  obtain ⟨g0, g1, g2⟩ := HA3.out.at3
  clear hco o3 e1
  gi_wp2_with fail
  refine ((callsIn_wide (n := 6)).2 (chunk_any (some ⟨bo, fo, none⟩) (n * n) co n hn.1 _)).mono ?_
  rintro _ _ ⟨rfl, rfl⟩
  gi_wp2_with fail
  obtain ⟨S, hS⟩ : ∃ S, w3.heap.size = S := ⟨_, rfl⟩
  obtain ⟨w5, hw5⟩ : ∃ w5, ((w3.alloc (.cells #[.int .i64 (n : Int), .int .i64 (n : Int), .slice (some ⟨bo, fo, none⟩) (n * n) co] 25)).alloc (.cells #[.slice (some ⟨bo, fo, none⟩) (n * n) co] 23)).alloc (.cells #[.int .i64 (n : Int)] 3) = w5 := ⟨_, rfl⟩
  have x5 : Ext w3 w5 := hw5 ▸ (((Ext.refl w3).alloc _).alloc _).alloc _
  have hs5 : w5.heap.size = S + 1 + 1 + 1 := by rw [← hw5, ← hS]; simp
  have p5 : Blk w5 (S + 1) 23 #[.slice (some ⟨bo, fo, none⟩) (n * n) co] := hw5 ▸ (Blk.at_ (by rw [alloc_size, hS])).ext ((Ext.refl _).alloc _)
  have p6 : Blk w5 (S + 1 + 1) 3 #[.int .i64 (n : Int)] := hw5 ▸ Blk.at_ (by rw [alloc_size, alloc_size, hS])
  have X13 := hid ((((Ext.refl w1).alloc (.cells #[.int .u64 1] 22)).alloc (.cells #[.slice (some ⟨T, 0, none⟩) 1 1] 23)).trans x3)
  have hbx := ((show Blk ((w1.alloc (.cells #[.int .u64 1] 22)).alloc (.cells #[.slice (some ⟨T, 0, none⟩) 1 1] 23)) (T + 1) 23 #[.slice (some ⟨T, 0, none⟩) 1 1] from Blk.at_ (by rw [alloc_size, HTT.out])).ext x3)
  have hTS : T + 1 < S := by have := hbx.lt; omega
  have hi1 : Ints .u64 w5 (.slice (some ⟨T, 0, none⟩) 1 1) [1] := (((Ints.at1 (t := 22) HTT.out.symm).ext ((Ext.refl _).alloc _)).ext x3).ext x5
  have J0 := hid (show MinS p n xs w5 w5 (T + 1) [] from ⟨_, _, [1], hbx.ext x5, hi1, (IsOwn.none hp2.1).congr fun v => by simp, (Ext.refl w5).grownBy _⟩)
  have hboT := hid (ints_off hbx HO.out (by rw [oneL_len]; exact Nat.mul_pos hn.1 hn.1) bo rfl)
  have hHO := hid fun j (hj : j < n * n) => (show w5.cell? ⟨bo, fo + j, none⟩ = some (.int .u64 ((oneL n).getD j 0)) from ((x5.cells bo (fo + j) hbo).trans (HCO.out j hj)))
  rw [hw5]
  simp only [hS]
  rw [hS] at hbo
  have X15 := hid (X13.out.trans x5)
  have hst := chunk_stops_in Fence.wide 6 trivial rfl (by omega) (S + 1) (S + 1 + 1) bo fo (n * n) co n n rfl hn.2 hn o1 w5 (by omega) (by omega) (p5.cell 0) (p6.cell 0)
  clear hw5 hS g0 g1 g2 hbx hi1 p5 p6 x5 x3 hB1 hB2 HA3 HO HCO
  refine wpIn_rangeFunc_ownF rfl (by omega) (gf := 91) (lb := #[.pointer (some ⟨S + 1, 0, none⟩), .pointer (some ⟨S + 1 + 1, 0, none⟩)]) rfl trivial (enters_of Tryz.func91 (by kernel_rfl) rfl)
    hst KeepsRow.trans (fun W l o o' hl _ _ _ => KeepsRow.put (n := w5.heap.size) (by omega) (by omega) W l o' hl) (Below.refl _ _) (fun _ => rfl)
    (fun (pre : List {x : Nat // x < n}) W => MinS p n xs w5 W (T + 1) (pre.map fun z : {x : Nat // x < n} => z.1))
    (fun _ _ _ => False)
    (fun pre W W' row hs hg hr => MinS.own (W := W) (W' := W') (l := pre.map fun z : {x : Nat // x < n} => z.1) hs hg hr)
    (fun _ _ _ _ _ hs _ _ => hs)
    J0.out
    (fun x => { tmps := #[.int .u64 p, .agg #[.int .i64 (n : Int), .int .i64 (n : Int), .slice a xs.length cap], .pointer (some ⟨H, 0, none⟩), .pointer (some ⟨H + 1, 0, none⟩), .pointer (some ⟨H + 1 + 1, 0, none⟩), .pointer (some ⟨H + 1 + 1 + 1, 0, none⟩), .pointer (some ⟨T + 1, 0, none⟩), .pointer (some ⟨S, 0, none⟩), .int .i64 0, pieceV bo fo n x.1, undef, undef, .int .u64 p, .agg #[.int .i64 (n : Int), .int .i64 (n : Int), .slice a xs.length cap], .bool true, .bool false, .slice (some ⟨T, 0, none⟩) 1 1, .tuple #[.agg #[.int .i64 (n : Int), .int .i64 (n : Int), .slice (some ⟨bo, fo, none⟩) (n * n) co], .int .i64 0], .pointer (some ⟨H + 1, 0, none⟩), .int .i64 (n : Int), .tuple #[.agg #[.int .i64 (n : Int), .int .i64 (n : Int), .slice (some ⟨bo, fo, none⟩) (n * n) co], .int .i64 0], .agg #[.int .i64 (n : Int), .int .i64 (n : Int), .slice (some ⟨bo, fo, none⟩) (n * n) co], .int .i64 0, .pointer (some ⟨S, 2, none⟩), .slice (some ⟨bo, fo, none⟩) (n * n) co, .pointer (some ⟨S, 1, none⟩), .int .i64 (n : Int), .func (.func 91) #[] #[.pointer (some ⟨S + 1, 0, none⟩), .pointer (some ⟨S + 1 + 1, 0, none⟩)], pieceV bo fo n x.1, undef, undef, undef, undef, undef, undef, undef, undef, undef, undef, undef, undef, undef, undef, undef, undef, undef, undef, undef, undef, undef], defers := [] }) ?assign ?body ?done ?stop
  case assign =>
    intro l x W K hK
    gi_wp2
    exact hK
  case body =>
    rintro l pre ⟨x, hx⟩ W ⟨aL, cL, L, q1, q2, q3, q4⟩ hlt
    dsimp only
    have hpc : Ints .u64 W (pieceV bo fo n x) (unitL n x) := by
      refine ⟨some ⟨bo, fo + x * n, none⟩, n, by rw [unitL, tab_len]; rfl, by rw [unitL, tab_len]; omega, by omega, fun _ => ⟨bo, fo + x * n, rfl, ?_, fun j hj => ?_⟩⟩
      · have := q4.size; omega
      · rw [unitL, tab_len] at hj
        rw [grown_cell q4 (by omega) hboT.out, Nat.add_assoc, hHO.out _ (at_lt hx hj), ← row_unit hx, rowOf, tab_get _ hj]
    have hE5 : Ext w1 W := grown_ext q4 X15.out (by have := HTT.out; omega)
    obtain ⟨gx, hgx⟩ := OwnL.any (HF.out.has hp2.1) n xs (unitL n x)
    have hul : (unitL n x).length = n := tab_len _ _
    have hur : Rng p (unitL n x) := tab_rng fun k _ => by split <;> omega
    have CO := hid ((callsIn_wide (n := 4)).2 (krOf p n _ _ xs (unitL n x) gx W Hok.out HF.out (Hv.out.ext (X1.out.trans hE5)) hpc hul hur hgx))
    have hLl := q3.len (HF.out.has hp2.1)
    have hgl := hgx.len (HF.out.has hp2.1)
    have CL := hid fun (W' : World) (z : Value) (hW : Ext W W') (hz : Ints .u64 W' z gx) => (callsIn_wide (n := 4)).2 (pLcm_yes p _ z L gx W' Hok.out.hp HF.out (q2.ext hW) hz q3.isp hgx.isp (by omega) (by omega))
    have Q1 := hid q1; have Q3 := hid q3; have Q4 := hid q4; have HGX := hid hgx
    have e0 := (B1.out.ext hE5).cell 0; have e1 := (B2.out.ext hE5).cell 0; have e2 := (B2.out.ext hE5).cell 1; have e3 := (B2.out.ext hE5).cell 2
    have BB1 := hid (B1.out.ext hE5)
    unfold matV pieceV at CO
    unfold pieceV
    clear q1 q2 q3 q4 hpc hgx hul hur
    gi_wp2_with fail
    refine (CallsIn.inRound l CO.out).mono ?_
    rintro _ w6 ⟨z6, rfl, hz6, x6⟩
    have HZ6 := hid hz6
    obtain ⟨a6, c6, rfl, -, -, -⟩ := hz6
    have B6 := hid (Q1.out.ext x6)
    have d0 := (BB1.out.ext x6).cell 0; have d1 := B6.out.cell 0
    clear e0 e1 e2 e3
    gi_wp2_with fail
    refine (CallsIn.inRound l (CL.out w6 _ x6 HZ6.out)).mono ?_
    rintro _ w7 ⟨z7, L7, rfl, hz7, hp7, -, h7, x7⟩
    have HZ7 := hid hz7; have HP7 := hid hp7; have H7 := hid h7
    obtain ⟨a7, c7, rfl, -, -, -⟩ := hz7
    have B7 := hid (B6.out.ext x7)
    have f7 := B7.out.frozen 0; have g7 := B7.out.cell 0
    clear d0 d1 hp7 h7
    gi_wp2_with fail
    clear f7 g7
    obtain ⟨l0, l1, G7, c8, hG7, heq⟩ := H7.out Q3.out.ne HGX.out.ne
    have hg7 : W.grownBy (w7.setCell ⟨T + 1, 0, none⟩ (.slice a7 L7.length c7)) (some (T + 1)) := ((x6.trans x7).grownBy _).trans (setCell_grown _ _ _)
    have hWs := Q4.out.size
    refine ⟨(ko_ext (x6.trans x7)).trans (KeepsOthers.setCell _ _ _), KeepsRow.grown hg7 (by omega) (by omega) (by omega) (by omega), a7, c7, L7, B7.out.set_ 0 _, HZ7.out.setOther (ints_off B7.out HZ7.out (List.length_pos_iff.2 l0)) 0 _, (Q3.out.lcm (HF.out.has hp2.1) HGX.out.unit HP7.out l0 l1 hG7 heq).congr fun v => ?_, Q4.out.trans hg7⟩
    rw [List.map_append, List.map_cons, List.map_nil]
    simp only [List.mem_append, List.mem_singleton]
    constructor
    · rintro (⟨y, hy, rfl⟩ | rfl)
      · exact ⟨y, .inl hy, rfl⟩
      · exact ⟨x, .inr rfl, rfl⟩
    · rintro ⟨y, hy | rfl, rfl⟩
      · exact .inl ⟨y, hy, rfl⟩
      · exact .inr rfl
  case done =>
    rintro D ys W hD hys ⟨aL, cL, L, q1, q2, q3, q4⟩ hK
    have hLh : L = h := (q3.congr (V' := fun v => ∃ i, i < n ∧ v = uniF i) fun v => by
      rw [show (ys.map fun z : {x : Nat // x < n} => z.1) = List.range n from hys]
      simp only [List.mem_range]).one hp2.1 HH.out
    subst hLh
    have hLp := List.length_pos_iff.2 q3.ne
    have hE5 : Ext w1 W := grown_ext q4 X15.out (by have := HTT.out; omega)
    have R3 := hid (B3.out.ext hE5); have R4 := hid (B4.out.ext hE5)
    have d1 := q1.cell 0; have d3 := R3.out.cell 0; have f3' := R3.out.frozen 0; have d4 := R4.out.cell 0; have f4' := R4.out.frozen 0
    have Q2 := hid q2
    have hWs := q4.size
    clear q1 q2 q3 hys
    gi_wp2_with fail
    clear d1 d3 f3' d4 f4'
    have D1 := (R3.out.set_ 0 (.slice aL L.length cL)).grown (setCell_grown _ ⟨H + 1 + 1 + 1, 0, none⟩ (.int .i64 0)) (by simp)
    have D2 := (R4.out.grown (setCell_grown W ⟨H + 1 + 1, 0, none⟩ (.slice aL L.length cL)) (by simp)).set_ 0 (.int .i64 0)
    have I1 := (Q2.out.setOther (ints_off R3.out Q2.out hLp) 0 (.slice aL L.length cL))
    have I2 := I1.setOther (ints_off2 (R4.out.grown (setCell_grown W ⟨H + 1 + 1, 0, none⟩ (.slice aL L.length cL)) (by simp)) (errno_off 0) I1 hLp) 0 (.int .i64 0)
    have ko : KeepsOthers W ((W.setCell ⟨H + 1 + 1, 0, none⟩ (.slice aL L.length cL)).setCell ⟨H + 1 + 1 + 1, 0, none⟩ (.int .i64 0)) := (KeepsOthers.setCell _ _ _).trans (KeepsOthers.setCell _ _ _)
    have hK9 := ko.same D _ hK rfl
    have hHH := HHH.out
    have hE9 : Ext w ((W.setCell ⟨H + 1 + 1, 0, none⟩ (.slice aL L.length cL)).setCell ⟨H + 1 + 1 + 1, 0, none⟩ (.int .i64 0)) := ((X1.out.trans hE5).setCell (by show w.heap.size ≤ H + 1 + 1; omega) _).setCell (by show w.heap.size ≤ H + 1 + 1 + 1; omega) _
    obtain ⟨w9, hw9⟩ : ∃ w9, ((W.setCell ⟨H + 1 + 1, 0, none⟩ (.slice aL L.length cL)).setCell ⟨H + 1 + 1 + 1, 0, none⟩ (.int .i64 0)) = w9 := ⟨_, rfl⟩
    rw [hw9] at D1 D2 I2 hK9 hE9 ⊢
    have hDa : D ≠ H + 1 + 1 := by omega
    have hDb : D ≠ H + 1 + 1 + 1 := by omega
    have D1' : Blk (w9.putObj D (.deferred none)) (H + 1 + 1) 23 #[.slice aL L.length cL] := (World.putObj_heap_other (fun e => hDa e.symm)).trans D1
    have D2' : Blk (w9.putObj D (.deferred none)) (H + 1 + 1 + 1) 31 #[.int .i64 0] := (World.putObj_heap_other (fun e => hDb e.symm)).trans D2
    refine ⟨by simp, .inl ⟨_, _, rfl, run_takeDeferred hK9, ?_⟩⟩
    refine ⟨_, results_cell_cell rfl _ _ (.slice aL L.length cL) (.int .i64 0) (H + 1 + 1) (H + 1 + 1 + 1) rfl (load_row D1') rfl (load_errno D2'), ?_⟩
    exact ⟨_, rfl, I2.grown (grownBy_putObj' w9 D _) (ints_not_def hK9 I2 hLp), hE9.grown (grownBy_putObj' w9 D _) (fun k e => by injection e with e; have : D = k := e; omega)⟩
  case stop =>
    rintro D c pre W _ _ h _
    exact h.elim
end Go.Proofs.YtijpeepdedfhoaaGreat
/- Package own: Make. -/
namespace Go.Proofs.YtijpeepdedfhoaaGreat
open Go.RowKit Go.Maps

abbrev put6 (w : World) (g : Nat) (a b c d e f : Value) : World := (((((w.setCell ⟨g, 0, none⟩ a).setCell ⟨g, 1, none⟩ b).setCell ⟨g, 2, none⟩ c).setCell ⟨g, 3, none⟩ d).setCell ⟨g, 4, none⟩ e).setCell ⟨g, 5, none⟩ f
theorem blk_put6 {w : World} {g : Nat} {t : TypeId} {a b c d e f : Value} (h : Blk w g t #[a, b, c, d, e, f]) (a' b' c' d' e' f' : Value) : Blk (put6 w g a' b' c' d' e' f') g t #[a', b', c', d', e', f'] := by
  have := (((((h.set_ 0 a').set_ 1 b').set_ 2 c').set_ 3 d').set_ 4 e').set_ 5 f'
  simpa using this
theorem ext_put6 {w0 w : World} {g : Nat} (h : Ext w0 w) (hg : w0.heap.size ≤ g) (a b c d e f : Value) : Ext w0 (put6 w g a b c d e f) :=
  (((((h.setCell (p := ⟨g, 0, none⟩) hg a).setCell (p := ⟨g, 1, none⟩) hg b).setCell (p := ⟨g, 2, none⟩) hg c).setCell (p := ⟨g, 3, none⟩) hg d).setCell (p := ⟨g, 4, none⟩) hg e).setCell (p := ⟨g, 5, none⟩) hg f
theorem put6_grown (w : World) (g : Nat) (a b c d e f : Value) : w.grownBy (put6 w g a b c d e f) (some g) :=
  (((((setCell_grown w ⟨g, 0, none⟩ a).trans (setCell_grown _ ⟨g, 1, none⟩ b)).trans (setCell_grown _ ⟨g, 2, none⟩ c)).trans (setCell_grown _ ⟨g, 3, none⟩ d)).trans (setCell_grown _ ⟨g, 4, none⟩ e)).trans (setCell_grown _ ⟨g, 5, none⟩ f)
theorem nil6_off : ∀ (j : Nat) (k : Int), (#[Value.slice none 0 0, .slice none 0 0, .slice none 0 0, .slice none 0 0, .slice none 0 0, .slice none 0 0] : Array Value)[j]? ≠ some (.int .u64 k) := fun j k h => by
  match j with
  | 0 | 1 | 2 | 3 | 4 | 5 => simp at h
  | j + 6 => simp at h
theorem Ints.put6 {w : World} {v : Value} {xs : List Int} (h : Ints .u64 w v xs) {g : Nat} {t : TypeId} {cs : Array Value} (hB : Blk w g t cs) (hcs : ∀ (j : Nat) (k : Int), cs[j]? ≠ some (.int .u64 k)) (a b c d e f : Value) : Ints .u64 (Proofs.YtijpeepdedfhoaaGreat.put6 w g a b c d e f) v xs := by
  rcases Nat.eq_zero_or_pos xs.length with h0 | h0
  · obtain ⟨a', cap, rfl, h1, h2, -⟩ := h
    exact ⟨a', cap, rfl, h1, h2, fun hp => absurd hp (by omega)⟩
  · exact h.grown (put6_grown w g a b c d e f) (fun q hq e => ints_off2 hB hcs h h0 q hq (by injection e with e; exact e.symm))

theorem MinL.two {p : Int} {n : Nat} {xs f : List Int} (hp : 2 ≤ p) (hn : 1 ≤ n) (h : MinL p n xs f) : 2 ≤ f.length := by
  have h0 := List.length_pos_iff.2 h.ne
  rcases Nat.lt_or_ge 1 f.length with c | c
  · exact c
  exfalso
  obtain ⟨x, rfl⟩ : ∃ x, f = [x] := by
    match f, h0, c with
    | [x], _, _ => exact ⟨x, rfl⟩
  have hm : x = 1 := h.mon
  subst hm
  have hk := pdoL_kil.2 ((h.kil (uniF 0) ⟨0, by omega, rfl⟩).congr (unitL_at (p := p) (n := n) (i := 0)))
  have e1 : (pdoL p n xs [1] (unitL n 0)).getD 0 0 = 1 := by
    rw [pdoL_get (by omega)]
    have : doF n (atF n xs) ([1] : List Int).length (fun k => ([1] : List Int).getD k 0) (atV (unitL n 0)) 0 = 1 := by
      show sm 1 (fun k => ([1] : List Int).getD k 0 * itF n (atF n xs) k (atV (unitL n 0)) 0) = 1
      show 0 + 1 * (unitL n 0).getD 0 0 = 1
      rw [unitL, tab_get _ (by omega)]
      simp
    rw [this]
    exact Int.emod_eq_of_lt (by omega) (by omega)
  rw [hk, replicate_get] at e1
  omega

/-- answers a claim -/
def RetOwn (p : Int) (n : Nat) (F H U V : List Int) (w : World) (e : Ending) (w' : World) : Prop := ∃ fv hv sv tv uv vv S T, e = .returned (.tuple #[.agg #[fv, hv, sv, tv, uv, vv], .int .i64 0]) ∧ OwnR w' fv hv sv tv uv vv F H S T U V ∧ OwnOk p n F H S T U V ∧ (H.length = 1 → S = []) ∧ Ext w w'
/-- answers that there is none -/
def noOwn (code : Int) : Value := .tuple #[.agg #[.slice none 0 0, .slice none 0 0, .slice none 0 0, .slice none 0 0, .slice none 0 0, .slice none 0 0], .int .i64 code]

theorem OwnOk.u {p : Int} {n : Nat} {F H S T U V : List Int} (o : OwnOk p n F H S T U V) : OwnU F H S T U V := by
  have h := rightB_true o.hp
  exact ⟨o.pF.rng.u64 h.2, o.pH.rng.u64 h.2, o.pS.rng.u64 h.2, o.pT.rng.u64 h.2, o.rU.u64 h.2, o.rV.u64 h.2⟩

set_option maxRecDepth 100000 in
set_option maxHeartbeats 2000000 in
theorem owMake_arg (p : Int) (n : Nat) (xs u v : List Int) (mv uv vv : Value) (w : World) (ok : MatOk p n n xs) (hm : Ints .u64 w mv xs) (hu : Ints .u64 w uv u) (hux : U64s u) (hv : Ints .u64 w vv v) (hvx : U64s v) (h : (vecB p n u && vecB p n v) = false) :
    Calls Tryz.prog 10 #[.int .u64 p, matV n n mv, uv, vv] w (Ret (noOwn 1) w) := by
  have hp2 := rightB_true ok.hp
  have C1 := hid fun (W : World) (hW : Ext w W) => owVector p n uv u W (by omega) (by omega) (hu.ext hW) hux
  have C2 := hid fun (W : World) (hW : Ext w W) => owVector p n vv v W (by omega) (by omega) (hv.ext hW) hvx
  obtain ⟨B1, e1⟩ : ∃ B, vecB p n u = B := ⟨_, rfl⟩
  obtain ⟨B2, e2⟩ : ∃ B, vecB p n v = B := ⟨_, rfl⟩
  rw [e1] at C1 h
  rw [e2] at C2 h
  clear e1 e2 ok
  obtain ⟨a1, c1, rfl, -, -, -⟩ := hm
  obtain ⟨a2, c2, rfl, -, -, -⟩ := hu
  obtain ⟨a3, c3, rfl, -, -, -⟩ := hv
  unfold noOwn
  unfold matV
  have hA := hid (show Blk ((w.alloc (.cells #[.int .i64 (n : Int), .int .i64 (n : Int), .slice a1 xs.length c1] 25)).alloc (.cells #[.slice none 0 0, .slice none 0 0, .slice none 0 0, .slice none 0 0, .slice none 0 0, .slice none 0 0] 30)) w.heap.size 25 #[.int .i64 (n : Int), .int .i64 (n : Int), .slice a1 xs.length c1] from (Blk.new _ _ _).ext ((Ext.refl _).alloc _))
  have hB := hid (show Blk ((w.alloc (.cells #[.int .i64 (n : Int), .int .i64 (n : Int), .slice a1 xs.length c1] 25)).alloc (.cells #[.slice none 0 0, .slice none 0 0, .slice none 0 0, .slice none 0 0, .slice none 0 0, .slice none 0 0] 30)) (w.heap.size + 1) 30 #[.slice none 0 0, .slice none 0 0, .slice none 0 0, .slice none 0 0, .slice none 0 0, .slice none 0 0] from Blk.at_ (by rw [alloc_size]))
  have hX := hid (show Ext w ((w.alloc (.cells #[.int .i64 (n : Int), .int .i64 (n : Int), .slice a1 xs.length c1] 25)).alloc (.cells #[.slice none 0 0, .slice none 0 0, .slice none 0 0, .slice none 0 0, .slice none 0 0, .slice none 0 0] 30)) from ((Ext.refl w).alloc _).alloc _)
  obtain ⟨m0, m1, m2⟩ := hA.out.at3
  obtain ⟨b0, b1, b2, b3, b4, b5⟩ := hB.out.at6
  have f0 := hB.out.frozen 0
  have f1 := hB.out.frozen 1
  have f2 := hB.out.frozen 2
  have f3 := hB.out.frozen 3
  have f4 := hB.out.frozen 4
  have f5 := hB.out.frozen 5
  cases B1
  · clear h
    go_enter Tryz.func10, Tryz.ntmps10
    go_wp2_with fail
    refine (C1.out _ hX.out).mono ?_
    rintro _ _ ⟨rfl, rfl⟩
    go_wp2_with fail
    refine bodyPost_ret (results_cell_row_tmp rfl _ _ (w.heap.size + 1) 30 _ (0, 0) _ rfl hB.out Tryz.underlying30 rfl (by kernel_rfl)) rfl ?_
    exact ⟨rfl, hX.out⟩
  · rw [Bool.true_and] at h
    subst h
    go_enter Tryz.func10, Tryz.ntmps10
    go_wp2_with fail
    refine (C1.out _ hX.out).mono ?_
    rintro _ _ ⟨rfl, rfl⟩
    go_wp2_with fail
    refine (C2.out _ hX.out).mono ?_
    rintro _ _ ⟨rfl, rfl⟩
    go_wp2_with fail
    refine bodyPost_ret (results_cell_row_tmp rfl _ _ (w.heap.size + 1) 30 _ (0, 0) _ rfl hB.out Tryz.underlying30 rfl (by kernel_rfl)) rfl ?_
    exact ⟨rfl, hX.out⟩

set_option maxRecDepth 100000 in
set_option maxHeartbeats 2000000 in
theorem owMake (p : Int) (n : Nat) (xs u v f : List Int) (mv uv vv : Value) (w : World) (ok : MatOk p n n xs) (hf : Fld p) (hm : Ints .u64 w mv xs) (hu : Ints .u64 w uv u) (hul : u.length = n) (hur : Rng p u) (hv : Ints .u64 w vv v) (hvl : v.length = n) (hvr : Rng p v) (hmin : MinL p n xs f) :
    Calls Tryz.prog 10 #[.int .u64 p, matV n n mv, uv, vv] w fun e w' => IsGcd p f (folL p n xs f u v) [1] ∧ RetOwn p n f (folL p n xs f u v) u v w e w' ∨ ¬ IsGcd p f (folL p n xs f u v) [1] ∧ Ret (noOwn 6) w e w' := by
  have hp := ok.hp
  have hp2 := rightB_true ok.hp
  have hn := ok.hn
  have l1 := hmin.len (hf.has hp2.1)
  have l2 := hmin.two hp2.1 hn.1
  obtain ⟨d, hd⟩ : ∃ d, f.length = d + 1 := ⟨f.length - 1, by omega⟩
  have C1 := hid fun (W : World) (hW : Ext w W) => owVector p n uv u W (by omega) (by omega) (hu.ext hW) (hur.u64 hp2.2)
  rw [(vecB_iff (hur.u64 hp2.2)).2 ⟨hp, hul, hur⟩] at C1
  have C2 := hid fun (W : World) (hW : Ext w W) => owVector p n vv v W (by omega) (by omega) (hv.ext hW) (hvr.u64 hp2.2)
  rw [(vecB_iff (hvr.u64 hp2.2)).2 ⟨hp, hvl, hvr⟩] at C2
  have C3 := hid fun (W : World) (hW : Ext w W) => krMin p n mv xs f W ok hf (hm.ext hW) hmin
  have C4 := hid fun (W : World) (hW : Ext w W) => owRow p n d mv uv vv xs u v W ok (hm.ext hW) (hu.ext hW) hul hur (hv.ext hW) hvl hvr (by omega)
  have hRl : (rowO p n xs u v d).length = d := tab_len _ _
  have hRr : Rng p (rowO p n xs u v d) := tab_rng fun _ _ => mod_range _ hp2.1
  have C5 := hid fun (W : World) (z y : Value) (hz : Ints .u64 W z f) (hy : Ints .u64 W y (rowO p n xs u v d)) => owOver p z y f (rowO p n xs u v d) W hp hz hy hmin.isp.rng hRr (by rw [hRl]; exact hd) (by rw [hRl]; omega)
  rw [over_foll hul hvl hd] at C5
  have hH : Pol p (folL p n xs f u v) := folL_pol hp2.1
  have hHl : (folL p n xs f u v).length ≤ f.length - 1 := folL_len
  obtain ⟨H, eH⟩ : ∃ H, folL p n xs f u v = H := ⟨_, rfl⟩
  rw [eH] at C5 hH hHl ⊢
  have C6 := hid fun (W : World) (z y : Value) (hz : Ints .u64 W z f) (hy : Ints .u64 W y H) => pBez_yes1 p z y f H W hp hf hz hy hmin.isp hH (by omega) (fun e => hmin.ne e.1)
  have C7 := hid fun (W : World) (z y : Value) (l : List Int) (hz : Ints .u64 W z l) (hy : Ints .u64 W y [1]) => equal_any z y l [1] W hz hy
  have C8 := hid fun (W : World) (hW : Ext w W) => clone_any uv u W (hu.ext hW) (by omega)
  have C9 := hid fun (W : World) (hW : Ext w W) => clone_any vv v W (hv.ext hW) (by omega)
  have Fin := hid fun (S T : List Int) (hg : IsGcd p f H [1]) (pS : Pol p S) (pT : Pol p T) (e : pol p [1] = pol p S * pol p f + pol p T * pol p H) (s1 : S.length ≤ max 1 H.length) (s2 : T.length ≤ max 1 f.length) => (⟨hp, hn, hmin.isp, ⟨l2, l1⟩, hmin.mon, hH, by omega, pS, by omega, pT, by omega, by rw [← e, pol_1], hul, hur, hvl, hvr⟩ : OwnOk p n f H S T u v)
  have Uni := hid fun (G : List Int) (hg : IsGcd p f H G) => (show decide (G = [1]) = @decide (IsGcd p f H [1]) (Classical.propDecidable _) by
    rw [Bool.eq_iff_iff, decide_eq_true_eq]
    exact ⟨fun h => @decide_eq_true _ (Classical.propDecidable _) (h ▸ hg), fun h => hg.unique hp2.1 (@of_decide_eq_true _ (Classical.propDecidable _) h)⟩)
  obtain ⟨B, hB⟩ : ∃ B, @decide (IsGcd p f H [1]) (Classical.propDecidable _) = B := ⟨_, rfl⟩
  rw [hB] at Uni
  have HB := hid hB
  rw [hul] at C8; rw [hvl] at C9
  have Hul := hid hul; have Hvl := hid hvl
  clear hB eH hH hHl hRl hRr hul hvl hur hvr hmin ok l2
  obtain ⟨a1, c1, rfl, -, -, -⟩ := hm
  obtain ⟨a2, c2, rfl, -, -, -⟩ := hu
  obtain ⟨a3, c3, rfl, -, -, -⟩ := hv
  unfold matV at C3 C4
  unfold noOwn
  unfold matV
  have hA := hid (show Blk ((w.alloc (.cells #[.int .i64 (n : Int), .int .i64 (n : Int), .slice a1 xs.length c1] 25)).alloc (.cells #[.slice none 0 0, .slice none 0 0, .slice none 0 0, .slice none 0 0, .slice none 0 0, .slice none 0 0] 30)) w.heap.size 25 #[.int .i64 (n : Int), .int .i64 (n : Int), .slice a1 xs.length c1] from (Blk.new _ _ _).ext ((Ext.refl _).alloc _))
  have hBo := hid (show Blk ((w.alloc (.cells #[.int .i64 (n : Int), .int .i64 (n : Int), .slice a1 xs.length c1] 25)).alloc (.cells #[.slice none 0 0, .slice none 0 0, .slice none 0 0, .slice none 0 0, .slice none 0 0, .slice none 0 0] 30)) (w.heap.size + 1) 30 #[.slice none 0 0, .slice none 0 0, .slice none 0 0, .slice none 0 0, .slice none 0 0, .slice none 0 0] from Blk.at_ (by rw [alloc_size]))
  have hX := hid (show Ext w ((w.alloc (.cells #[.int .i64 (n : Int), .int .i64 (n : Int), .slice a1 xs.length c1] 25)).alloc (.cells #[.slice none 0 0, .slice none 0 0, .slice none 0 0, .slice none 0 0, .slice none 0 0, .slice none 0 0] 30)) from ((Ext.refl w).alloc _).alloc _)
  have wd : ((d + 1 : Nat) : Int) - 1 = (d : Int) := by omega
  have ww : IntKind.i64.wrap (d : Int) = (d : Int) := IntWalk.i64_in _ (by omega)
  obtain ⟨m0, m1, m2⟩ := hA.out.at3
  go_enter Tryz.func10, Tryz.ntmps10
  go_wp2_with fail
  refine (C1.out _ hX.out).mono ?_
  rintro _ _ ⟨rfl, rfl⟩
  go_wp2_with fail
  refine (C2.out _ hX.out).mono ?_
  rintro _ _ ⟨rfl, rfl⟩
  go_wp2_with fail
  refine (C3.out _ hX.out).mono ?_
  rintro _ w1 ⟨z1, rfl, i1, x1⟩
  have I1 := hid i1
  obtain ⟨q1, k1, rfl, -, -, -⟩ := i1
  rw [hd] at I1 ⊢
  have y1 := hid (hX.out.trans x1)
  clear m0 m1 m2
  obtain ⟨m0, m1, m2⟩ := (hA.out.ext x1).at3
  go_wp2_with fail
  refine (C4.out _ y1.out).mono ?_
  rintro _ w2 ⟨z2, rfl, i2, x2⟩
  have I2 := hid i2
  obtain ⟨q2, k2, rfl, -, -, -⟩ := i2
  clear m0 m1 m2
  go_wp2_with fail
  refine (C5.out _ _ _ (I1.out.ext x2) I2.out).mono ?_
  rintro _ w3 ⟨z3, rfl, i3, x3⟩
  have I3 := hid i3
  obtain ⟨q3, k3, rfl, -, -, -⟩ := i3
  have y3 := hid ((y1.out.trans x2).trans x3)
  have J1 := hid (I1.out.ext (x2.trans x3))
  go_wp2_with fail
  refine (C6.out _ _ _ J1.out I3.out).mono ?_
  rintro _ w4 ⟨z4, z5, z6, G, S, T, rfl, i4, i5, i6, hg, pS, pT, eG, s1, s2, x4, s3⟩
  have I4 := hid i4; have I5 := hid i5; have I6 := hid i6; have UB := hid (Uni.out G hg)
  have HG := hid hg; have PS := hid pS; have PT := hid pT; have EG := hid eG; have S1 := hid s1; have S2 := hid s2; have S3 := hid s3
  obtain ⟨q4, k4, rfl, -, -, -⟩ := i4
  obtain ⟨q5, k5, rfl, -, -, -⟩ := i5
  obtain ⟨q6, k6, rfl, -, -, -⟩ := i6
  have y4 := hid (y3.out.trans x4)
  have J2 := hid (J1.out.ext x4)
  have J3 := hid (I3.out.ext x4)
  have hB4 := hid (hBo.out.ext (((x1.trans x2).trans x3).trans x4))
  clear hg pS pT eG s1 s2 s3
  go_wp2_with fail
  refine (C7.out _ _ _ _ (I4.out.ext ((Ext.refl _).alloc _)) (Ints.at1 rfl)).mono ?_
  rintro _ w5 ⟨rfl, x5⟩
  rw [UB.out]
  have X5 := hid (((Ext.refl w4).alloc (.cells #[.int .u64 1] 22)).trans x5)
  cases B
  · obtain ⟨b0, b1, b2, b3, b4, b5⟩ := (hB4.out.ext X5.out).at6
    have f0 := (hB4.out.ext X5.out).frozen 0
    have f1 := (hB4.out.ext X5.out).frozen 1
    have f2 := (hB4.out.ext X5.out).frozen 2
    have f3 := (hB4.out.ext X5.out).frozen 3
    have f4 := (hB4.out.ext X5.out).frozen 4
    have f5 := (hB4.out.ext X5.out).frozen 5
    go_wp2_with fail
    refine bodyPost_ret (results_cell_row_tmp rfl _ _ (w.heap.size + 1) 30 _ (0, 0) _ rfl (blk_put6 (hB4.out.ext X5.out) _ _ _ _ _ _) Tryz.underlying30 rfl (by kernel_rfl)) rfl ?_
    exact .inr ⟨@of_decide_eq_false _ (Classical.propDecidable _) HB.out, rfl, ext_put6 (y4.out.trans X5.out) (by omega) _ _ _ _ _ _⟩
  · go_wp2_with fail
    refine (C8.out _ (y4.out.trans X5.out)).mono ?_
    rintro _ w6 ⟨q7, k7, rfl, n1, n2, n3, x6⟩
    have N3 := hid n3
    clear n3
    go_wp2_with fail
    refine (C9.out _ ((y4.out.trans X5.out).trans x6)).mono ?_
    rintro _ w7 ⟨q8, k8, rfl, n4, n5, n6, x7⟩
    have N6 := hid n6
    clear n6
    have X7 := hid ((X5.out.trans x6).trans x7)
    obtain ⟨b0, b1, b2, b3, b4, b5⟩ := (hB4.out.ext X7.out).at6
    have f0 := (hB4.out.ext X7.out).frozen 0
    have f1 := (hB4.out.ext X7.out).frozen 1
    have f2 := (hB4.out.ext X7.out).frozen 2
    have f3 := (hB4.out.ext X7.out).frozen 3
    have f4 := (hB4.out.ext X7.out).frozen 4
    have f5 := (hB4.out.ext X7.out).frozen 5
    go_wp2_with fail
    have hbb := hB4.out.ext X7.out
    refine bodyPost_ret (results_cell_row_tmp rfl _ _ (w.heap.size + 1) 30 _ (0, 0) _ rfl (blk_put6 hbb _ _ _ _ _ _) Tryz.underlying30 rfl (by kernel_rfl)) rfl ?_
    have hG1 : IsGcd p f H [1] := @of_decide_eq_true _ (Classical.propDecidable _) HB.out
    have eG1 : G = [1] := HG.out.unique hp2.1 hG1
    have iu : Ints .u64 w6 (.slice q7 n k7) u := by
      obtain ⟨g, rfl, -, hw⟩ := N3.out (by omega)
      exact hw.ints' Hul.out n1 n2
    have iv : Ints .u64 w7 (.slice q8 n k8) v := by
      obtain ⟨g, rfl, -, hw⟩ := N6.out (by omega)
      exact hw.ints' Hvl.out n4 n5
    refine .inl ⟨hG1, _, _, _, _, _, _, S, T, rfl, ⟨?_, ?_, ?_, ?_, ?_, ?_⟩, Fin.out S T hG1 PS.out PT.out (by rw [← eG1]; exact EG.out) S1.out S2.out, S3.out, ext_put6 (y4.out.trans X7.out) (by omega) _ _ _ _ _ _⟩
    · exact (J2.out.ext X7.out).put6 hbb nil6_off _ _ _ _ _ _
    · exact (J3.out.ext X7.out).put6 hbb nil6_off _ _ _ _ _ _
    · exact (I5.out.ext X7.out).put6 hbb nil6_off _ _ _ _ _ _
    · exact (I6.out.ext X7.out).put6 hbb nil6_off _ _ _ _ _ _
    · exact (iu.ext x7).put6 hbb nil6_off _ _ _ _ _ _
    · exact iv.put6 hbb nil6_off _ _ _ _ _ _
end Go.Proofs.YtijpeepdedfhoaaGreat
/- Package own: Numbers. -/
namespace Go.Proofs.YtijpeepdedfhoaaGreat
open Go.RowKit Go.Maps

/-- a claim's numbers -/
def lensO (F H S T : List Int) : List Int := [(F.length : Int), (H.length : Int), (S.length : Int), (T.length : Int)]
def numsO (F H S T U V : List Int) : List Int := lensO F H S T ++ [F, H, S, T, U, V].flatten
theorem info_u64o : (Tryz.prog.info? 22).map (fun i => (i.zero, i.size, i.bytes)) = some (some (.int .u64 0), 1, 8) := by kernel_rfl

set_option maxRecDepth 100000 in
set_option maxHeartbeats 2000000 in
theorem owNumbers (F H S T U V : List Int) (fv hv sv tv uv vv : Value) (w : World) (o : OwnR w fv hv sv tv uv vv F H S T U V) (hs : (numsO F H S T U V).length ≤ 100000) :
    Calls Tryz.prog 27 #[.agg #[fv, hv, sv, tv, uv, vv]] w (RetL (numsO F H S T U V) w) := by
  obtain ⟨i0, hi, hz0, hz1, hz2⟩ := info_parts info_u64o
  have hlen : (numsO F H S T U V).length = 4 + (F.length + (H.length + (S.length + (T.length + (U.length + V.length))))) := by simp [numsO, lensO]; omega
  rw [hlen] at hs
  have CL := hid fun (W : World) (g : Nat) (y : Value) (hB : Blk W g 23 #[y, fv, hv, sv, tv, uv, vv]) (hy : Ints .u64 W y (lensO F H S T)) (hW : Ext w W) =>
    catU_any (.slice (some ⟨g, 0, none⟩) 7 7) [y, fv, hv, sv, tv, uv, vv] [lensO F H S T, F, H, S, T, U, V] W (Blk.vals (us := [y, fv, hv, sv, tv, uv, vv]) hB rfl (by omega) (fun j hj => by
      rcases j with _ | _ | _ | _ | _ | _ | _ | j
      · rfl
      · rfl
      · rfl
      · rfl
      · rfl
      · rfl
      · rfl
      · omega)) rfl (fun j x hj => by
        rcases j with _ | _ | _ | _ | _ | _ | _ | j
        · simp at hj; subst hj; exact hy
        · simp at hj; subst hj; exact o.f.ext hW
        · simp at hj; subst hj; exact o.h.ext hW
        · simp at hj; subst hj; exact o.s.ext hW
        · simp at hj; subst hj; exact o.t.ext hW
        · simp at hj; subst hj; exact o.u.ext hW
        · simp at hj; subst hj; exact o.v.ext hW
        · simp at hj) (by simp only [List.flatten_cons, List.length_append, List.flatten_nil, List.length_nil, lensO, List.length_cons]; omega)
  rw [show [lensO F H S T, F, H, S, T, U, V].flatten = numsO F H S T U V from rfl] at CL
  obtain ⟨Q, eQ⟩ : ∃ Q, numsO F H S T U V = Q := ⟨_, rfl⟩
  rw [eQ] at CL ⊢
  clear eQ hlen
  obtain ⟨a1, c1, rfl, -, -, -⟩ := o.f
  obtain ⟨a2, c2, rfl, -, -, -⟩ := o.h
  obtain ⟨a3, c3, rfl, -, -, -⟩ := o.s
  obtain ⟨a4, c4, rfl, -, -, -⟩ := o.t
  obtain ⟨a5, c5, rfl, -, -, -⟩ := o.u
  obtain ⟨a6, c6, rfl, -, -, -⟩ := o.v
  clear o
  obtain ⟨f, ef⟩ : ∃ x, F.length = x := ⟨_, rfl⟩
  obtain ⟨h, eh⟩ : ∃ x, H.length = x := ⟨_, rfl⟩
  obtain ⟨s, es⟩ : ∃ x, S.length = x := ⟨_, rfl⟩
  obtain ⟨t, et⟩ : ∃ x, T.length = x := ⟨_, rfl⟩
  unfold lensO at CL
  rw [ef, eh, es, et] at CL hs
  rw [ef, eh, es, et]
  clear ef eh es et
  have w1 : IntKind.u64.wrap (f : Int) = (f : Int) := by rw [u64_wrap]; omega
  have w2 : IntKind.u64.wrap (h : Int) = (h : Int) := by rw [u64_wrap]; omega
  have w3 : IntKind.u64.wrap (s : Int) = (s : Int) := by rw [u64_wrap]; omega
  have w4 : IntKind.u64.wrap (t : Int) = (t : Int) := by rw [u64_wrap]; omega
  have hB := hid (show Blk (w.alloc (.cells #[.slice a1 f c1, .slice a2 h c2, .slice a3 s c3, .slice a4 t c4, .slice a5 U.length c5, .slice a6 V.length c6] 30)) w.heap.size 30 #[.slice a1 f c1, .slice a2 h c2, .slice a3 s c3, .slice a4 t c4, .slice a5 U.length c5, .slice a6 V.length c6] from Blk.new w _ _)
  have hX := hid (show Ext w (w.alloc (.cells #[.slice a1 f c1, .slice a2 h c2, .slice a3 s c3, .slice a4 t c4, .slice a5 U.length c5, .slice a6 V.length c6] 30)) from (Ext.refl w).alloc _)
  have x0 : ∀ w : World, (Instr.index 92 (.agg #[.slice a1 f c1, .slice a2 h c2, .slice a3 s c3, .slice a4 t c4]) (.int .i64 0)).run Tryz.prog w = .ok (.slice a1 f c1) w := fun _ => by kernel_rfl
  have z0 : ∀ w : World, (Instr.index 92 (.agg #[.slice a1 f c1, .slice a2 h c2, .slice a3 s c3, .slice a4 t c4]) (.int .i64 ((0 : Nat) : Int))).run Tryz.prog w = .ok (.slice a1 f c1) w := x0
  have x1 : ∀ w : World, (Instr.index 92 (.agg #[.slice a1 f c1, .slice a2 h c2, .slice a3 s c3, .slice a4 t c4]) (.int .i64 1)).run Tryz.prog w = .ok (.slice a2 h c2) w := fun _ => by kernel_rfl
  have z1 : ∀ w : World, (Instr.index 92 (.agg #[.slice a1 f c1, .slice a2 h c2, .slice a3 s c3, .slice a4 t c4]) (.int .i64 ((1 : Nat) : Int))).run Tryz.prog w = .ok (.slice a2 h c2) w := x1
  have x2 : ∀ w : World, (Instr.index 92 (.agg #[.slice a1 f c1, .slice a2 h c2, .slice a3 s c3, .slice a4 t c4]) (.int .i64 2)).run Tryz.prog w = .ok (.slice a3 s c3) w := fun _ => by kernel_rfl
  have z2 : ∀ w : World, (Instr.index 92 (.agg #[.slice a1 f c1, .slice a2 h c2, .slice a3 s c3, .slice a4 t c4]) (.int .i64 ((2 : Nat) : Int))).run Tryz.prog w = .ok (.slice a3 s c3) w := x2
  have x3 : ∀ w : World, (Instr.index 92 (.agg #[.slice a1 f c1, .slice a2 h c2, .slice a3 s c3, .slice a4 t c4]) (.int .i64 3)).run Tryz.prog w = .ok (.slice a4 t c4) w := fun _ => by kernel_rfl
  have z3 : ∀ w : World, (Instr.index 92 (.agg #[.slice a1 f c1, .slice a2 h c2, .slice a3 s c3, .slice a4 t c4]) (.int .i64 ((3 : Nat) : Int))).run Tryz.prog w = .ok (.slice a4 t c4) w := x3
  obtain ⟨b0, b1, b2, b3, b4, b5⟩ := hB.out.at6
  go_enter Tryz.func27, Tryz.ntmps27
  go_wp2_with fail
  clear b0 b1 b2 b3 b4 b5
  obtain ⟨W, eW⟩ : ∃ W, (w.alloc (.cells #[.slice a1 f c1, .slice a2 h c2, .slice a3 s c3, .slice a4 t c4, .slice a5 U.length c5, .slice a6 V.length c6] 30)) = W := ⟨_, rfl⟩
  have hSz := hid (show w.heap.size + 1 = W.heap.size by rw [← eW, alloc_size])
  rw [eW] at hB hX ⊢
  clear eW
  go_loopw [15, 3] (fun iv lv wr => ∃ k : Nat, iv = .int .i64 k ∧ k ≤ 4 ∧ Hid (wr.ownsRow W.heap.size 22 1 lv k ((([(f : Int), (h : Int), (s : Int), (t : Int)].take k)).map (Value.int .u64))) ∧ Ext W wr) (fun iv _ _ => 4 - (intOf iv).toNat)
  case atStart => exact ⟨0, rfl, Nat.zero_le _, hid (World.ownsRow_nil _ _ _ _), Ext.refl _⟩
  case round =>
    obtain ⟨k, rfl, hk, hown, hw⟩ := hrel
    rename World => wr
    rename Value => lv
    by_cases hlt : k < 4
    · have hsz := hw.size
      have hk' : k = 0 ∨ k = 1 ∨ k = 2 ∨ k = 3 := by omega
      rcases hk' with rfl | rfl | rfl | rfl
      all_goals
        go_wp2_with (first | (at_builtin; refine wpList_append_ints rfl _ _ 23 rfl W.heap.size 22 i0 (.int .u64 0) 8 Tryz.underlying23 hi hz0 hz1 hz2 rfl _ _ _ rfl (hown.out.alloc _) _ [_] rfl (Ints.at1 rfl) (by simp only [maxLen]; simp) (by simp) (by simp; omega) ?_; intro v' w6 hown6 hgrow6) | fail)
        go_roundw
        case rel => first
          | exact ⟨1, by go_num, by omega, hid (by simpa using hown6), (hw.alloc _).grown hgrow6 (fun t e => (hown.out.lt t e).1)⟩
          | exact ⟨2, by go_num, by omega, hid (by simpa using hown6), (hw.alloc _).grown hgrow6 (fun t e => (hown.out.lt t e).1)⟩
          | exact ⟨3, by go_num, by omega, hid (by simpa using hown6), (hw.alloc _).grown hgrow6 (fun t e => (hown.out.lt t e).1)⟩
          | exact ⟨4, by go_num, by omega, hid (by simpa using hown6), (hw.alloc _).grown hgrow6 (fun t e => (hown.out.lt t e).1)⟩
        case measure => simp [intOf]
    · obtain rfl : k = 4 := by omega
      obtain ⟨al, cl, rfl, hcl, hIl⟩ := owns_ints hown.out
      have HIl := hid hIl
      have hyw := hid (hX.out.trans hw)
      obtain ⟨b0, b1, b2, b3, b4, b5⟩ := (hB.out.ext hw).at6
      clear hown hIl
      go_wp2_with fail
      refine (CL.out _ _ _ (Blk.new wr _ _) (HIl.out.ext ((Ext.refl wr).alloc _)) (hyw.out.alloc _)).mono ?_
      rintro _ w7 ⟨v7, rfl, -, I7, x7⟩
      have HI7 := hid I7
      obtain ⟨a7, c7, rfl, -, -, -⟩ := I7
      go_wp2_with fail
      go_ret
      exact ⟨_, rfl, HI7.out, (hyw.out.alloc _).trans x7⟩
end Go.Proofs.YtijpeepdedfhoaaGreat
/- Package own: Of, where the numbers are a claim's. -/
namespace Go.Proofs.YtijpeepdedfhoaaGreat
open Go.RowKit Go.Maps

set_option maxHeartbeats 400000 in
theorem maxU_any (v : Value) (xs : List Int) (w : World) (hv : Ints .u64 w v xs) (h0 : 0 < xs.length) :
    Calls Tryz.prog 68 #[v] w fun e w' => ∃ z, e = .returned (.int .u64 z) ∧ z ∈ xs ∧ (∀ x ∈ xs, x ≤ z) ∧ w = w' := by
  obtain ⟨a, cap, rfl, k1, k2, k3⟩ := hv
  obtain ⟨b, off, rfl, hb, hc⟩ := k3 h0
  have g0 := hc 0 h0
  rw [Nat.add_zero] at g0
  have Hc := hid hc
  clear hc k3
  obtain ⟨x0, e0⟩ : ∃ x, xs.getD 0 0 = x := ⟨_, rfl⟩
  rw [e0] at g0
  have E0 := hid e0
  clear e0
  go_enter Tryz.func68, Tryz.ntmps68
  go_wp2
  go_loop [4, 3] (fun i mv => ∃ (k : Nat) (z : Int), i = .int .i64 k ∧ mv = .int .u64 z ∧ 1 ≤ k ∧ k ≤ xs.length ∧ Hid (z ∈ xs) ∧ Hid (∀ j, j < k → xs.getD j 0 ≤ z)) (fun i _ => xs.length - (intOf i).toNat)
  case atStart => exact ⟨1, x0, rfl, rfl, Nat.le_refl _, h0, hid (E0.out ▸ getD_mem 0 h0), hid fun j hj => (show j = 0 by omega) ▸ E0.out ▸ Int.le_refl _⟩
  case round =>
    obtain ⟨k, z, rfl, rfl, hk1, hk, hm, hall⟩ := hrel
    by_cases hlt : k < xs.length
    · have g := Hc.out k hlt
      obtain ⟨x, ex⟩ : ∃ x, xs.getD k 0 = x := ⟨_, rfl⟩
      rw [ex] at g
      have Ex := hid ex
      clear ex
      have hmx := hid (show max z x ∈ xs from by
        rcases Int.le_total z x with h | h
        · rw [Int.max_eq_right h]; exact Ex.out ▸ getD_mem 0 hlt
        · rw [Int.max_eq_left h]; exact hm.out)
      go_wp2
      go_round
      case rel => exact ⟨k + 1, max z x, by go_num, rfl, by omega, by omega, hmx, hid fun j hj => by
        by_cases e : j = k
        · rw [e, Ex.out]; omega
        · have := hall.out j (by omega); omega⟩
      case measure => simp [intOf]; omega
    · have hall2 : Hid (∀ x ∈ xs, x ≤ z) := hid fun x hx => by
        obtain ⟨j, hj, rfl⟩ := List.mem_iff_getElem.1 hx
        have := hall.out j (by omega)
        rwa [show xs.getD j 0 = xs[j] by simp [List.getD, List.getElem?_eq_getElem hj]] at this
      go_wp2
      go_ret
      exact ⟨z, rfl, hm.out, hall2.out, rfl⟩

theorem cutU_l {w : World} {a : Option Addr} {len cap : Nat} {xs : List Int} (hv : Ints .u64 w (.slice a len cap) xs) (lo : Nat) (h1 : lo ≤ len) :
    ∃ a', (∀ W, (Instr.slice 23 (.slice a len cap) (some (.int .u64 (lo : Int))) none none).run Tryz.prog W = .ok (.slice a' (len - lo) (cap - lo)) W) ∧ Ints .u64 w (.slice a' (len - lo) (cap - lo)) (xs.drop lo) := by
  have hu : Tryz.prog.underlying 23 = some (.slice (Tryz.prog.elem 23)) := by kernel_rfl
  have hs : ∀ W, ((sizeOf (Tryz.prog.elem 23)).run Tryz.prog W) = .ok 1 W := fun W => by kernel_rfl
  have hd := hv
  obtain ⟨a', cap', e, k1, k2, k3⟩ := hd
  injection e with e1 e2 e3
  subst e1; subst e2; subst e3
  refine ⟨_, fun W => ?_, hv.dropq lo (by omega)⟩
  rw [run_slice_l W 23 _ _ cap hu .u64 lo (by omega) (by omega), hs]
  simp only [Result.andThen, sliced, Int.toNat_natCast, Nat.mul_one]
theorem cutU_h {w : World} {a : Option Addr} {len cap : Nat} {xs : List Int} (hv : Ints .u64 w (.slice a len cap) xs) (hi : Nat) (h2 : hi ≤ len) :
    ∃ a', (∀ W, (Instr.slice 23 (.slice a len cap) none (some (.int .u64 (hi : Int))) none).run Tryz.prog W = .ok (.slice a' hi cap) W) ∧ Ints .u64 w (.slice a' hi cap) (xs.take hi) := by
  have hu : Tryz.prog.underlying 23 = some (.slice (Tryz.prog.elem 23)) := by kernel_rfl
  have hs : ∀ W, ((sizeOf (Tryz.prog.elem 23)).run Tryz.prog W) = .ok 1 W := fun W => by kernel_rfl
  have hd := hv
  obtain ⟨a', cap', e, k1, k2, k3⟩ := hd
  injection e with e1 e2 e3
  subst e1; subst e2; subst e3
  have hI := (hv.dropq 0 (by omega)).take' hi (by simpa using h2)
  rw [List.drop_zero, Nat.sub_zero] at hI
  refine ⟨_, fun W => ?_, hI⟩
  rw [run_slice_h W 23 _ _ cap hu .u64 hi (by omega) (by omega), hs]
  simp only [Result.andThen, sliced, Int.toNat_natCast, Nat.zero_mul, Nat.sub_zero]

/-- answers a claim, read off numbers -/
def RetOwnV (F H S T U V : List Int) (w : World) (e : Ending) (w' : World) : Prop := ∃ fv hv sv tv uv vv, e = .returned (.tuple #[.agg #[fv, hv, sv, tv, uv, vv], .int .i64 0]) ∧ OwnR w' fv hv sv tv uv vv F H S T U V ∧ Ext w w'
theorem Ints.put1 {w : World} {v : Value} {xs : List Int} (h : Ints .u64 w v xs) {g : Nat} {t : TypeId} {us : List Value} {m : Nat} (hB : Blk w g t (roomS us m)) (hu : ∀ j, j < us.length → ∃ a l c, us.getD j undef = .slice a l c) (i : Nat) (u : Value) : Ints .u64 (w.setCell ⟨g, i, none⟩ u) v xs := by
  rcases Nat.eq_zero_or_pos xs.length with h0 | h0
  · obtain ⟨a', cap, rfl, h1, h2, -⟩ := h
    exact ⟨a', cap, rfl, h1, h2, fun hp => absurd hp (by omega)⟩
  · exact h.setOther (room_apart hB hu h h0) i u
theorem flat_take {LL : List (List Int)} {k : Nat} (h : k < LL.length) : ((LL.drop k).flatten).take (LL.getD k []).length = LL.getD k [] ∧ ((LL.drop k).flatten).drop (LL.getD k []).length = (LL.drop (k + 1)).flatten := by
  have e : LL.drop k = LL.getD k [] :: LL.drop (k + 1) := by
    rw [List.drop_eq_getElem_cons h]
    simp [List.getD, h]
  rw [e, List.flatten_cons]
  simp

set_option maxRecDepth 100000 in
set_option maxHeartbeats 2000000 in
theorem owOf (F H S T U V : List Int) (n : Nat) (v : Value) (w : World) (hv : Ints .u64 w v (numsO F H S T U V)) (hn : 1 ≤ n ∧ n ≤ 64) (lF : F.length ≤ 512) (lH : H.length ≤ 512) (lS : S.length ≤ 512) (lT : T.length ≤ 512) (lU : U.length = n) (lV : V.length = n) :
    Calls Tryz.prog 26 #[v, .int .i64 n] w (RetOwnV F H S T U V w) := by
  obtain ⟨i0, hi, hz0, hz1, hz2⟩ := info_parts info_u64o
  have C1 := hid fun W => owSide (n : Int) W
  rw [show sideB (n : Int) = true from decide_eq_true (by omega)] at C1
  obtain ⟨LL, eLL⟩ : ∃ LL, [F, H, S, T, U, V] = LL := ⟨_, rfl⟩
  have hL6 : LL.length = 6 := by rw [← eLL]; rfl
  obtain ⟨hd, ehd⟩ : ∃ hd, lensO F H S T = hd := ⟨_, rfl⟩
  have hd4 : hd.length = 4 := by rw [← ehd]; rfl
  have hdb : ∀ x ∈ hd, x ≤ 512 := by
    rw [← ehd]
    intro x hx
    simp [lensO] at hx
    omega
  have hms : ∀ k, k < 6 → (hd ++ [(n : Int), (n : Int)]).getD k 0 = ((LL.getD k []).length : Int) ∧ (LL.getD k []).length ≤ 512 := by
    intro k hk
    rw [← ehd, ← eLL]
    have hk' : k = 0 ∨ k = 1 ∨ k = 2 ∨ k = 3 ∨ k = 4 ∨ k = 5 := by omega
    rcases hk' with rfl | rfl | rfl | rfl | rfl | rfl <;> simp [lensO, List.getD] <;> omega
  have e4 : (numsO F H S T U V).take 4 = hd := by rw [← ehd]; rfl
  have e5 : (numsO F H S T U V).drop 4 = (LL.drop 0).flatten := by rw [← eLL]; rfl
  have hLn : (numsO F H S T U V).length ≤ 100000 := by simp [numsO, lensO]; omega
  have hL4 : 4 ≤ (numsO F H S T U V).length := by simp [numsO, lensO]
  have HFin := hid fun (W : World) (us : List Value) (hu : us.length = 6) (h : ∀ j, j < 6 → Ints .u64 W (us.getD j undef) (LL.getD j [])) => (show ∃ a b c d e f, us = [a, b, c, d, e, f] ∧ OwnR W a b c d e f F H S T U V by
    match us, hu with
    | [a, b, c, d, e, f], _ =>
      rw [← eLL] at h
      exact ⟨a, b, c, d, e, f, rfl, h 0 (by omega), h 1 (by omega), h 2 (by omega), h 3 (by omega), h 4 (by omega), h 5 (by omega)⟩)
  obtain ⟨l, el⟩ : ∃ l, numsO F H S T U V = l := ⟨_, rfl⟩
  rw [el] at hv e4 e5 hLn hL4
  have HV := hid hv
  obtain ⟨a, cap, rfl, k1, k2, k3⟩ := hv
  obtain ⟨L, eL⟩ : ∃ L, l.length = L := ⟨_, rfl⟩
  rw [eL] at HV k1 hLn hL4 ⊢
  obtain ⟨a4, s4, I4⟩ := cut_h HV.out 4 hL4
  rw [e4] at I4
  have s4' : ∀ W, (Instr.slice 23 (.slice a L cap) none (some (.int .i64 4)) none).run Tryz.prog W = .ok (.slice a4 4 cap) W := s4
  obtain ⟨a5, s5, I5⟩ := cut_l HV.out 4 hL4
  rw [e5] at I5
  have s5' : ∀ W, (Instr.slice 23 (.slice a L cap) (some (.int .i64 4)) none none).run Tryz.prog W = .ok (.slice a5 (L - 4) (cap - 4)) W := s5
  obtain ⟨L5, eL5⟩ : ∃ L5, L - 4 = L5 := ⟨_, rfl⟩
  obtain ⟨c5, ec5⟩ : ∃ c5, cap - 4 = c5 := ⟨_, rfl⟩
  rw [eL5, ec5] at s5' I5
  have CM := hid fun (W : World) (hW : Ext w W) => maxU_any (.slice a4 4 cap) hd W (I4.ext hW) (by omega)
  have CC := hid fun (W : World) (hW : Ext w W) => clone_own (.slice a4 4 cap) hd W (I4.ext hW) (by omega)
  have CK := hid fun (W : World) (u : Value) (ys : List Int) (hu : Ints .u64 W u ys) (hl : ys.length ≤ 1000000) => clone_any u ys W hu hl
  have Hdb := hid hdb; have Hms := hid hms; have HL6 := hid hL6
  have hd6 := hid (show (hd ++ [(n : Int), (n : Int)]).length = 6 by rw [List.length_append, hd4]; rfl)
  have Hd4 := hid hd4
  rw [hd4] at CC
  have I5h := hid I5
  have t0 : decide ((L : Int) < 4) = false := decide_eq_false (by omega)
  have wn : IntKind.u64.wrap (n : Int) = (n : Int) := by rw [u64_wrap]; omega
  have hB := hid (show Blk (w.alloc (.cells #[.slice none 0 0, .slice none 0 0, .slice none 0 0, .slice none 0 0, .slice none 0 0, .slice none 0 0] 30)) w.heap.size 30 #[.slice none 0 0, .slice none 0 0, .slice none 0 0, .slice none 0 0, .slice none 0 0, .slice none 0 0] from Blk.new w _ _)
  have hX := hid (show Ext w (w.alloc (.cells #[.slice none 0 0, .slice none 0 0, .slice none 0 0, .slice none 0 0, .slice none 0 0, .slice none 0 0] 30)) from (Ext.refl w).alloc _)
  have hS := hid (show (w.alloc (.cells #[.slice none 0 0, .slice none 0 0, .slice none 0 0, .slice none 0 0, .slice none 0 0, .slice none 0 0] 30)).heap.size = w.heap.size + 1 from alloc_size _ _)
  clear hdb hms hL6 e4 e5 el eLL ehd hd4 I4 I5 s4 s5 eL5 ec5 k3 eL lF lH lS lT lU lV
  go_enter Tryz.func26, Tryz.ntmps26
  go_wp2_with fail
  refine (C1.out _).mono ?_
  rintro _ _ ⟨rfl, rfl⟩
  go_wp2_with fail
  refine (CM.out _ hX.out).mono ?_
  rintro _ _ ⟨z, rfl, hz, -, rfl⟩
  have t1 : decide ((512 : Int) < z) = false := decide_eq_false (by have := Hdb.out z hz; omega)
  clear hz
  obtain ⟨W, eW⟩ : ∃ W, (w.alloc (.cells #[.slice none 0 0, .slice none 0 0, .slice none 0 0, .slice none 0 0, .slice none 0 0, .slice none 0 0] 30)) = W := ⟨_, rfl⟩
  rw [eW] at hB hX hS ⊢
  clear eW
  have hLb := hid (show Blk (W.alloc (.cells #[.slice none 0 0, .slice none 0 0, .slice none 0 0, .slice none 0 0, .slice none 0 0, .slice none 0 0] 91)) (w.heap.size + 1) 91 (roomS [] 6) from by rw [← hS.out]; exact Blk.new W _ _)
  have hS1 := hid (show (W.alloc (.cells #[.slice none 0 0, .slice none 0 0, .slice none 0 0, .slice none 0 0, .slice none 0 0, .slice none 0 0] 91)).heap.size = w.heap.size + 1 + 1 from by rw [alloc_size, hS.out])
  go_wp2_with fail
  refine (CC.out _ (hX.out.alloc _)).mono ?_
  rintro _ w1 ⟨v1, rfl, o1, x1⟩
  rw [hS1.out] at o1
  have O1 := hid o1
  obtain ⟨a1, cp1, rfl, -, -⟩ := owns_ints O1.out
  have hs1 := x1.size
  rw [hS1.out] at hs1
  clear o1
  go_wp2_with (first
    | (at_builtin; refine wpList_append_ints rfl _ _ 23 rfl (w.heap.size + 1 + 1) 22 i0 (.int .u64 0) 8 Tryz.underlying23 hi hz0 hz1 hz2 rfl _ _ _ rfl (O1.out.alloc _) _ [(n : Int), (n : Int)] rfl (Ints.at2 rfl) (by simp only [maxLen]; simp) (by simp) (by simp; omega) ?_; intro v2 w2 hown2 hgrow2
       have hI2 := own_ints (xs := hd ++ [(n : Int), (n : Int)]) (by simpa using hown2)
       have XW2 := hid ((((Ext.refl (W.alloc (.cells #[.slice none 0 0, .slice none 0 0, .slice none 0 0, .slice none 0 0, .slice none 0 0, .slice none 0 0] 91))).trans x1).alloc (.cells #[.int .u64 (n : Int), .int .u64 (n : Int)] 22)).grown hgrow2 (fun t e => by have := (O1.out.lt t e).1; rw [hS1.out]; exact this))
       have HI2 := hid hI2
       obtain ⟨a2, cp2, rfl, -, -, -⟩ := hI2
       rw [hd6.out]
       clear hown2 hgrow2)
    | fail)
  have XW := hid (((Ext.refl W).alloc (.cells #[.slice none 0 0, .slice none 0 0, .slice none 0 0, .slice none 0 0, .slice none 0 0, .slice none 0 0] 91)).trans XW2.out)
  have hLb2 := hid (hLb.out.ext XW2.out)
  obtain ⟨ms, ems⟩ : ∃ ms, hd ++ [(n : Int), (n : Int)] = ms := ⟨_, rfl⟩
  rw [ems] at HI2 Hms hd6
  rw [hd6.out] at HI2
  obtain ⟨Lb, eLb⟩ : ∃ Lb, w.heap.size + 1 = Lb := ⟨_, rfl⟩
  rw [eLb] at hLb2 hS
  rw [hS.out]
  have hWw := hid (show w.heap.size < Lb by omega)
  clear ems hLb hS1 O1 XW2 x1 hs1 eLb
  go_loopw [39, 8] (fun iv rv wr => ∃ (k : Nat) (us : List Value), iv = .int .i64 k ∧ k ≤ 6 ∧ Hid (us.length = k) ∧ Hid (Blk wr Lb 91 (roomS us (6 - k))) ∧ Hid (∀ j, j < k → Ints .u64 wr (us.getD j undef) (LL.getD j []) ∧ ∃ a l c, us.getD j undef = .slice a l c) ∧ Hid (Ints .u64 w rv (LL.drop k).flatten) ∧ Hid (Ints .u64 wr (.slice a2 6 cp2) ms) ∧ Ext W wr) (fun iv _ _ => 6 - (intOf iv).toNat)
  case atStart => exact ⟨0, [], rfl, Nat.zero_le _, hid rfl, hLb2, hid (fun j hj => absurd hj (Nat.not_lt_zero _)), I5h, HI2, XW.out⟩
  case round =>
    clear HI2 hLb2 XW
    obtain ⟨k, us, rfl, hk, hul, hBk, hus, hrv, hms, hxw⟩ := hrel
    rename World => wr
    by_cases hlt : k < 6
    · obtain ⟨y, ey⟩ : ∃ y, (LL.getD k []).length = y := ⟨_, rfl⟩
      have hy := Hms.out k hlt
      rw [ey] at hy
      have ft := flat_take (LL := LL) (k := k) (by rw [HL6.out]; exact hlt)
      rw [ey] at ft
      have Hft := hid ft
      obtain ⟨X, eX⟩ : ∃ X, (LL.drop k).flatten = X := ⟨_, rfl⟩
      rw [eX] at ft hrv
      have hyX : y ≤ X.length := by
        have := congrArg List.length ft.1
        rw [List.length_take, ey] at this
        omega
      have HRV := hid hrv.out
      obtain ⟨ar, cr, rfl, r1, r2, -⟩ := hrv.out
      obtain ⟨R, eR⟩ : ∃ R, X.length = R := ⟨_, rfl⟩
      rw [eR] at HRV hyX r1 ⊢
      obtain ⟨q1, s1, I1⟩ := cutU_h HRV.out y hyX
      obtain ⟨q2, s2, I2⟩ := cutU_l HRV.out y hyX
      rw [ft.1] at I1
      rw [ft.2] at I2
      obtain ⟨R2, eR2⟩ : ∃ R2, R - y = R2 := ⟨_, rfl⟩
      obtain ⟨cr2, ecr2⟩ : ∃ c, cr - y = c := ⟨_, rfl⟩
      rw [eR2, ecr2] at s2 I2
      have hu1 : Tryz.prog.underlying 23 = some (.slice (Tryz.prog.elem 23)) := by kernel_rfl
      have t1' := fun W => (run_sliceAt_slice W 23 _ _ _ _ hu1).trans (s1 W)
      have t2' := fun W => (run_sliceAt_slice W 23 _ _ _ _ hu1).trans (s2 W)
      have I2h := hid I2
      have C := hid fun (W' : World) (hW : Ext w W') => CK.out W' _ _ (I1.ext hW) (by rw [ey]; omega)
      rw [ey] at C
      have hW0 := hid (hX.out.trans hxw)
      obtain ⟨am, cm, em, m1, m2, m3⟩ := hms.out
      obtain ⟨bm, om, rfl, hbm, hcm⟩ := m3 (by rw [hd6.out]; omega)
      injection em with em1 em2 em3
      subst em1
      subst em3
      clear em2
      have g1 := hcm k (by rw [hd6.out]; exact hlt)
      rw [hy.1] at g1
      have c0 := hBk.out.cell k
      rw [roomS_room (by rw [hul.out]; exact Nat.le_refl _) (by rw [hul.out]; omega)] at c0
      have f0 := hBk.out.frozen k
      have fs := hid fun (W' : World) (hW : Ext wr W') => (show W'.cell? ⟨Lb, k, none⟩ = some (.slice none 0 0) ∧ W'.frozen? ⟨Lb, k, none⟩ = false from ⟨(hW.cells _ _ (cell_lt c0)).trans c0, (hBk.out.ext hW).frozen k⟩)
      have wR : IntKind.u64.wrap (R : Int) = (R : Int) := by rw [u64_wrap]; omega
      have tR : decide ((R : Int) < (y : Int)) = false := decide_eq_false (by omega)
      have tR2 : decide (R < y) = false := decide_eq_false (by omega)
      have i5 : (k : Int) < 6 := by omega
      have i8 : (0 : Int) ≤ (k : Int) := by omega
      have hy2 := hid hy.2
      have Ey := hid ey
      clear hcm m3 ft eX eR eR2 ecr2 I1 I2 hy ey hyX hu1 hrv
      go_wp2_with fail
      go_region_held3 (fun w' => w'.frozen? ⟨Lb, k, none⟩ = false) (first | exact (fs.out _ (Ext.refl wr)).2 | exact (fs.out _ ((Ext.refl wr).drew)).2 | exact (fs.out _ (by assumption)).2 | go_keep)
        ((first
          | (go_at_call 36; refine (C.out _ (hW0.out.trans (by repeat (first | exact Ext.refl _ | assumption | refine Ext.drew ?_ | refine Ext.drewN ?_ _ | refine Ext.alloc ?_ _ | refine Ext.trans ?_ (by assumption))))).mono ?_; rintro _ w5 ⟨a6, k6, rfl, n1, n2, n3, x5⟩
             have N3 := hid n3
             have x5' : Ext wr w5 := Ext.trans (by repeat (first | exact Ext.refl _ | assumption | refine Ext.drew ?_ | refine Ext.drewN ?_ _ | refine Ext.alloc ?_ _ | refine Ext.trans ?_ (by assumption))) x5
             obtain ⟨d0, d1⟩ := fs.out _ x5'
             clear n3)))
      go_wp2_with fail
      go_roundw
      case rel =>
        have hi6 : Ints .u64 w5 (.slice a6 y k6) (LL.getD k []) := by
          rcases Nat.eq_zero_or_pos y with h0 | h0
          · exact ⟨a6, k6, by rw [Ey.out], by rw [Ey.out]; exact n1, n2, fun hp => absurd hp (by rw [Ey.out]; omega)⟩
          · obtain ⟨g, rfl, -, hw⟩ := N3.out h0
            exact hw.ints' Ey.out n1 n2
        have hb5 := hBk.out.ext x5'
        have hsl : ∀ j, j < us.length → ∃ a l c, us.getD j undef = .slice a l c := fun j hj => (hus.out j (by rw [← hul.out]; exact hj)).2
        have hmk : 6 - k = 6 - (k + 1) + 1 := by omega
        refine ⟨k + 1, us ++ [.slice a6 y k6], by go_num, by omega, hid (by rw [List.length_append, hul.out]; rfl), hid ?_, hid fun j hj => ?_, hid ?_, hid ((hms.out.ext x5').put1 hb5 hsl k _), (hxw.trans x5').setCell (p := ⟨Lb, k, none⟩) (by rw [hS.out]; exact Nat.le_refl _) _⟩
        · have := hb5.set_ k (.slice a6 y k6)
          rw [hmk] at this
          rwa [roomS_set hul.out] at this
        · rcases Nat.lt_or_ge j k with c | c
          · rw [getD_app _ _ _ (by rw [hul.out]; exact c)]
            exact ⟨((hus.out j c).1.ext x5').put1 hb5 hsl k _, (hus.out j c).2⟩
          · obtain rfl : j = k := by omega
            rw [getD_end _ _ _ hul.out.symm]
            exact ⟨hi6.put1 hb5 hsl j _, _, _, _, rfl⟩
        · exact I2h.out
      case measure => simp [intOf]; omega
    · obtain rfl : k = 6 := by omega
      obtain ⟨u0, u1, u2, u3, u4, u5, rfl, ho⟩ := HFin.out wr us hul.out (fun j hj => (hus.out j hj).1)
      have HO := hid ho
      obtain ⟨a11, c11, rfl, -, -, -⟩ := ho.f
      obtain ⟨a12, c12, rfl, -, -, -⟩ := ho.h
      obtain ⟨a13, c13, rfl, -, -, -⟩ := ho.s
      obtain ⟨a14, c14, rfl, -, -, -⟩ := ho.t
      obtain ⟨a15, c15, rfl, -, -, -⟩ := ho.u
      obtain ⟨a16, c16, rfl, -, -, -⟩ := ho.v
      clear ho
      have hb6 : Blk wr Lb 91 #[.slice a11 F.length c11, .slice a12 H.length c12, .slice a13 S.length c13, .slice a14 T.length c14, .slice a15 U.length c15, .slice a16 V.length c16] := hBk.out
      obtain ⟨g0, g1, g2, g3, g4, g5⟩ := hb6.at6
      have hbr := hid (hB.out.ext hxw)
      obtain ⟨b0, b1, b2, b3, b4, b5⟩ := hbr.out.at6
      have f0 := hbr.out.frozen 0
      have f1 := hbr.out.frozen 1
      have f2 := hbr.out.frozen 2
      have f3 := hbr.out.frozen 3
      have f4 := hbr.out.frozen 4
      have f5 := hbr.out.frozen 5
      have hr0 : (LL.drop 6).flatten = [] := by rw [List.drop_eq_nil_of_le (by rw [HL6.out]; exact Nat.le_refl _)]; rfl
      rw [hr0] at hrv
      obtain ⟨ar, cr, rfl, -, -, -⟩ := hrv.out
      clear hr0 hb6 hrv
      go_wp2_with fail
      refine bodyPost_ret (results_cell_row_tmp rfl _ _ w.heap.size 30 _ (0, 0) _ rfl (blk_put6 hbr.out _ _ _ _ _ _) Tryz.underlying30 rfl (by kernel_rfl)) rfl ?_
      exact ⟨_, _, _, _, _, _, rfl, ⟨HO.out.f.put6 hbr.out nil6_off _ _ _ _ _ _, HO.out.h.put6 hbr.out nil6_off _ _ _ _ _ _, HO.out.s.put6 hbr.out nil6_off _ _ _ _ _ _, HO.out.t.put6 hbr.out nil6_off _ _ _ _ _ _, HO.out.u.put6 hbr.out nil6_off _ _ _ _ _ _, HO.out.v.put6 hbr.out nil6_off _ _ _ _ _ _⟩, ext_put6 (hX.out.trans hxw) (Nat.le_refl _) _ _ _ _ _ _⟩
end Go.Proofs.YtijpeepdedfhoaaGreat
/- Package krylov: Same. -/
namespace Go.Proofs.YtijpeepdedfhoaaGreat
open Go.RowKit

set_option maxHeartbeats 1000000 in
theorem krSame_no (p r c : Int) (vf v : Value) (xs : List Int) (w : World) (h0 : 0 ≤ p) (h1 : p ≤ 18446744073709551615) (hv : Ints .u64 w v xs) (hx : U64s xs) (h : squareB p r c xs = false) :
    Calls Tryz.prog 13 #[.int .u64 p, vf, matV r c v] w (Ret (.bool false) w) := by
  have C1 := hid fun (W : World) (hW : Ext w W) => krMin_no p r c v xs W h0 h1 (hv.ext hW) hx h
  obtain ⟨a, cap, rfl, -, -, -⟩ := hv
  clear hx h
  unfold matV at C1
  unfold matV
  go_enter Tryz.func13, Tryz.ntmps13
  go_wp2_with (go_at_call 20; refine (C1.out _ (by repeat (first | exact Ext.refl _ | assumption | refine Ext.drew ?_ | refine Ext.drewN ?_ _ | refine Ext.alloc ?_ _ | refine Ext.trans ?_ (by assumption)))).mono ?_; rintro _ w1 ⟨rfl, x1⟩)
  go_ret
  exact ⟨ret_bool (by simp), Ext.trans (by repeat (first | exact Ext.refl _ | assumption | refine Ext.drew ?_ | refine Ext.drewN ?_ _ | refine Ext.alloc ?_ _ | refine Ext.trans ?_ (by assumption))) x1⟩
set_option maxHeartbeats 1000000 in
theorem krSame (p : Int) (n : Nat) (vf v : Value) (f xs h : List Int) (w : World) (ok : MatOk p n n xs) (hf : Fld p) (hfv : Ints .u64 w vf f) (hv : Ints .u64 w v xs) (hh : MinL p n xs h) :
    Calls Tryz.prog 13 #[.int .u64 p, vf, matV n n v] w (Ret (.bool (decide (f = h))) w) := by
  have C1 := hid fun (W : World) (hW : Ext w W) => krMin p n v xs h W ok hf (hv.ext hW) hh
  have C2 := hid fun (W : World) (z : Value) (hW : Ext w W) (hz : Ints .u64 W z h) => equal_any vf z f h W (hfv.ext hW) hz
  obtain ⟨D, hD⟩ : ∃ D, decide (f = h) = D := ⟨_, rfl⟩
  rw [hD] at C2 ⊢
  obtain ⟨a, cap, rfl, -, -, -⟩ := hv
  obtain ⟨a', cap', rfl, -, -, -⟩ := hfv
  clear hh ok hf hD
  unfold matV at C1
  unfold matV
  have hA := hid ((Ext.refl w).alloc (.cells #[.int .i64 (n : Int), .int .i64 (n : Int), .slice a xs.length cap] 25))
  go_enter Tryz.func13, Tryz.ntmps13
  go_wp2_with (first
    | (go_at_call 20; refine (C1.out _ (by repeat (first | exact Ext.refl _ | assumption | refine Ext.drew ?_ | refine Ext.drewN ?_ _ | refine Ext.alloc ?_ _ | refine Ext.trans ?_ (by assumption)))).mono ?_; rintro _ w1 ⟨z1, rfl, hi1, x1⟩; have HI := hid hi1; obtain ⟨a1, c1, rfl, -, -, -⟩ := hi1)
    | (go_at_call 35; refine (C2.out _ _ (hA.out.trans x1) HI.out).mono ?_; rintro _ w2 ⟨rfl, x2⟩))
  go_ret
  exact ⟨ret_bool (by simp), (hA.out.trans x1).trans x2⟩
end Go.Proofs.YtijpeepdedfhoaaGreat
