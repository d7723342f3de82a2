/- What the texts Kr4, Kr5, Kr6, Kr8, Awake09 show, in one text. -/
import Derived.Test.YthmmakkldkjnlaaBun16
import Derived.Test.YthmmakkldkjnlaaBun23
import Derived.Test.YthmmakkldkjnlaaSv9
import Derived.Test.YthmmakkldkjnlaaBun22
import Derived.Test.YthmmakkldkjnlaaPNorm
import Derived.Test.YthmmakkldkjnlaaConcat
import Derived.Test.YthmmakkldkjnlaaBun24
import Derived.Test.YthmmakkldkjnlaaKr3
import Derived.Test.YthmmakkldkjnlaaBun11
import Derived.Test.YthmmakkldkjnlaaBun21
import Derived.Test.YthmmakkldkjnlaaChunk
import Derived.RangeFuncCalls
import Derived.Test.YthmmakkldkjnlaaBun05
import Derived.Test.YthmmakkldkjnlaaBun26
import Derived.Test.YthmmakkldkjnlaaBun14
/- Package krylov: Of. -/
namespace Go.Proofs.Ythmmakkldkjnlaa
open Go.RowKit Go.Maps

set_option maxHeartbeats 1000000 in
theorem krOf_no (p r c : Int) (v u : Value) (xs b : List Int) (w : World) (h0 : 0 ≤ p) (h1 : p ≤ 18446744073709551615) (hv : Ints .u64 w v xs) (hx : U64s xs) (hu : Ints .u64 w u b) (hb : U64s b) (h : besideB p r c xs b = false) :
    Calls Try.prog 8 #[.int .u64 p, matV r c v, u] w (Ret (.tuple #[.slice none 0 0, .int .i64 1]) w) := by
  have C1 := hid fun (W : World) (hW : Ext w W) => krBeside p r c v u xs b W h0 h1 (hv.ext hW) hx (hu.ext hW) hb
  rw [h] at C1
  obtain ⟨a, cap, rfl, k1, k2, k3⟩ := hv
  clear k3 hx hb hu h
  unfold matV at C1
  unfold matV
  go_enter Try.func8, Try.ntmps8
  go_wp2_with (go_at_call 24; refine (C1.out _ (by repeat (first | exact Ext.refl _ | assumption | refine Ext.drew ?_ | refine Ext.drewN ?_ _ | refine Ext.alloc ?_ _ | refine Ext.trans ?_ (by assumption)))).mono ?_; rintro _ w1 ⟨rfl, x1⟩)
  go_ret2
  exact ⟨rfl, Ext.trans (by repeat (first | exact Ext.refl _ | assumption | refine Ext.drew ?_ | refine Ext.drewN ?_ _ | refine Ext.alloc ?_ _ | refine Ext.trans ?_ (by assumption))) x1⟩

/-- the powers, one behind the other, and turned -/
def colsP (p : Int) (n : Nat) (xs b : List Int) : List Int := turnL n n (powsL p n xs b n).flatten
theorem pows_flat {p : Int} {n : Nat} {xs b : List Int} (hb : b.length = n) {i k : Nat} (hi : i < n) (hk : k < n) : (powsL p n xs b n).flatten.getD (k * n + i) 0 = (powL p n xs k b).getD i 0 := by
  have := flat_get n (fun k => powL p n xs k b) (fun k => powL_len hb k) (List.range n) k i (by simpa using hk) hi
  rw [show (List.range n).getD k 0 = k by simp [List.getD, hk]] at this
  exact this
theorem pows_flat_len {p : Int} {n : Nat} {xs b : List Int} (hb : b.length = n) : ∀ m, (powsL p n xs b m).flatten.length = m * n
  | 0 => by simp [powsL]
  | m + 1 => by
    have h := pows_flat_len (p := p) (xs := xs) hb m
    unfold powsL at h ⊢
    rw [List.range_succ, List.map_append, List.flatten_append, List.length_append, h, Nat.add_mul]
    simp [powL_len hb]
theorem pows_flat_rng {p : Int} {n : Nat} {xs b : List Int} (hp : 2 ≤ p) (hr : Rng p b) (m : Nat) : Rng p (powsL p n xs b m).flatten := fun x hx => by
  obtain ⟨l, hl, hxl⟩ := List.mem_flatten.1 hx
  obtain ⟨k, -, rfl⟩ := List.mem_map.1 hl
  exact powL_rng hp hr k x hxl
theorem colsP_pow {p : Int} {n : Nat} {xs b : List Int} (hb : b.length = n) : PowC p n xs b (colsP p n xs b) := fun i k hi hk => by
  unfold colsP turnL
  rw [grid_get _ hi hk, pows_flat hb hi hk]
theorem flat_ok {p : Int} {n : Nat} {xs b : List Int} (ok : MatOk p n n xs) (hb : b.length = n) (hr : Rng p b) : MatOk p n n (powsL p n xs b n).flatten :=
  ⟨ok.hp, pows_flat_rng (rightB_true ok.hp).1 hr n, ok.hm, ok.hn, pows_flat_len hb n⟩
theorem colsP_ok {p : Int} {n : Nat} {xs b : List Int} (ok : MatOk p n n xs) (hb : b.length = n) (hr : Rng p b) : MatOk p n n (colsP p n xs b) := (flat_ok ok hb hr).turn
/-- the first rows of a block of rows -/
theorem first_rows {W : World} {g m n : Nat} {t : TypeId} {us : List Value} {ls : List (List Int)} (hB : Blk W g t us.toArray) (hl : us.length = ls.length) (hi : ∀ j, j < ls.length → Ints .u64 W (us.getD j undef) (ls.getD j [])) (hm : ls.length = m) (hn : n ≤ m) (hm2 : m ≤ 1000) :
    ∃ zs, Vals W (.slice (some ⟨g, 0, none⟩) n m) (zs.map slV) ∧ RowsU W zs (ls.take n) ∧ zs.length = n := by
  have hex : ∀ j, ∃ z : Option Addr × Nat × Nat, j < m → us.getD j undef = slV z := fun j => by
    by_cases hj : j < m
    · obtain ⟨a, cap, e, -⟩ := hi j (by omega)
      exact ⟨⟨a, _, cap⟩, fun _ => e⟩
    · exact ⟨⟨none, 0, 0⟩, fun h => absurd h hj⟩
  let f : Nat → Option Addr × Nat × Nat := fun j => Classical.choose (hex j)
  have hf : ∀ j, j < m → us.getD j undef = slV (f j) := fun j => Classical.choose_spec (hex j)
  have hzl : ((List.range n).map f).length = n := by simp
  have hz : ∀ (j : Nat) (x : Option Addr × Nat × Nat), ((List.range n).map f)[j]? = some x → j < n ∧ x = f j := fun j x hj => by
    have h1 := (List.getElem?_eq_some_iff.1 hj).1
    rw [hzl] at h1
    refine ⟨h1, ?_⟩
    simp [h1] at hj
    exact hj.symm
  refine ⟨(List.range n).map f, ⟨some ⟨g, 0, none⟩, m, by simp, by simp; omega, by omega, fun _ => ⟨g, 0, rfl, hB.lt, fun j x hj => ?_⟩⟩, ⟨by simp; omega, fun j x hj => ?_⟩, hzl⟩
  · rw [List.getElem?_map, Option.map_eq_some_iff] at hj
    obtain ⟨y, hy, rfl⟩ := hj
    obtain ⟨h1, rfl⟩ := hz j y hy
    rw [Nat.zero_add, hB.cell, ← hf j (by omega), List.getElem?_toArray, List.getD, List.getElem?_eq_getElem (show j < us.length by omega)]
    rfl
  · obtain ⟨h1, rfl⟩ := hz j x hj
    rw [← hf j (by omega)]
    have := hi j (by omega)
    rwa [show (ls.take n).getD j [] = ls.getD j [] by simp [List.getD, h1]]
end Go.Proofs.Ythmmakkldkjnlaa
/- Package krylov: Of, over a prime. -/
namespace Go.Proofs.Ythmmakkldkjnlaa
open Go.RowKit Go.Maps

set_option maxRecDepth 100000 in
set_option maxHeartbeats 2000000 in
theorem krOf (p : Int) (n : Nat) (v u : Value) (xs b g : List Int) (w : World) (ok : MatOk p n n xs) (hf : Fld p) (hv : Ints .u64 w v xs) (hu : Ints .u64 w u b) (hb : b.length = n) (hr : Rng p b) (hg : OwnL p n xs b g) :
    Calls Try.prog 8 #[.int .u64 p, matV n n v, u] w (RetE 0 g w) := by
  have hp2 := rightB_true ok.hp
  have hn := ok.hn
  have C1 := hid fun (W : World) (hW : Ext w W) => krBeside p n n v u xs b W (by omega) (by omega) (hv.ext hW) ok.u64 (hu.ext hW) (hr.u64 hp2.2)
  rw [besideB_ok ok hb hr] at C1
  have C2 := hid fun (W : World) (hW : Ext w W) => (show Calls Try.prog 6 #[.int .u64 p, matV n n v, u, .int .i64 ((n : Int) + 1)] W (RetPows (powsL p n xs b (n + 1)) W) from krPowers p n (n + 1) v u xs b W ok (hv.ext hW) (hu.ext hW) hb hr (by omega))
  have hpn := powsL_len p n xs b (n + 1)
  have htk : (powsL p n xs b (n + 1)).take n = powsL p n xs b n := by simp [powsL, ← List.map_take, List.take_range, Nat.min_eq_left]
  have hfl := pows_flat_len (p := p) (xs := xs) hb n
  have C3 := hid fun (W : World) (gp : Nat) (us : List Value) (hB : Blk W gp 23 us.toArray) (hl : us.length = (powsL p n xs b (n + 1)).length) (hi : ∀ j, j < (powsL p n xs b (n + 1)).length → Ints .u64 W (us.getD j undef) ((powsL p n xs b (n + 1)).getD j [])) =>
    (show Calls Try.prog 32 #[.slice (some ⟨gp, 0, none⟩) n (n + 1)] W fun e w' => ∃ a c, e = .returned (.slice a (n * n) c) ∧ Ints .u64 w' (.slice a (n * n) c) (powsL p n xs b n).flatten ∧ Ext W w' from by
      obtain ⟨zs, z1, z2, z3⟩ := first_rows hB hl hi hpn (show n ≤ n + 1 by omega) (by omega)
      rw [htk] at z2
      refine (concat_any _ zs _ W z1 z2 (by omega) (fun l hl => ?_) (by rw [hfl]; exact Nat.mul_pos hn.1 hn.1)).mono fun e w' h => ?_
      · obtain ⟨k, -, rfl⟩ := List.mem_map.1 hl
        rw [powL_len hb]; exact hn.2
      · obtain ⟨a, c, rfl, ho, hx⟩ := h
        have := own_ints ho
        rw [hfl] at this
        exact ⟨a, c, by rw [hfl], this, hx⟩)
  have C4 := hid fun (W : World) (z : Value) (hz : Ints .u64 W z (powsL p n xs b n).flatten) => (show Calls Try.prog 31 #[.int .u64 p, matV n n z] W (RetN n n (colsP p n xs b) W) from mxTurn_yes p n n z _ W (flat_ok ok hb hr) hz)
  have hcok := colsP_ok ok hb hr
  have hpow := colsP_pow (p := p) (xs := xs) hb
  have hto := takeL_ok (m := n) (n := n) hp2.1 hf hcok.hx
  have hfree := freeC_lt (n := n) hto.cols_nodup fun c hc => hto.cols_lt hc
  rw [hto.lk] at hfree
  have hcl := hcok.hl
  by_cases hk : (takeL p n n (colsP p n xs b)).U.length < n
  · obtain ⟨x, hx⟩ := IsK.of hcok hf hk
    have hxg := hpow.kernel hcok hf hr hg hx
    have C5 := hid fun (W : World) (z : Value) (hz : Ints .u64 W z (colsP p n xs b)) => svKernel_yes p n n z _ x W hcok hf hz hx hk
    have C6 := hid fun (W : World) (z : Value) (hz : Ints .u64 W z x) => (pNorm_yes p z x W ok.hp hz (hx.rng.u64 hp2.2) (by rw [hx.len]; omega)).mono fun e w' h => (show RetE 0 g W e w' from by
      obtain ⟨v', zs, rfl, h1, h2, h3, h4⟩ := h
      have ht := trimL_pol hx.rng
      have : zs = g := by rw [← hxg]; exact h2.inj ht.1 (by rw [h3, ht.2])
      exact ⟨v', rfl, this ▸ h1, h4⟩)
    obtain ⟨a, cap, rfl, k1, k2, k3⟩ := hv
    obtain ⟨a', cap', rfl, k1', k2', k3'⟩ := hu
    rw [hb] at C1 C2
    rw [hb]
    unfold matV at C1 C2 C4 C5
    unfold matV
    unfold RetPows at C2
    have hA := hid (Blk.new w 25 #[.int .i64 (n : Int), .int .i64 (n : Int), .slice a xs.length cap])
    obtain ⟨b0, b1, b2⟩ := hA.out.at3
    obtain ⟨L, hL⟩ : ∃ L, powsL p n xs b (n + 1) = L := ⟨_, rfl⟩
    rw [hL] at C2 C3 hpn
    rw [hpn] at C2 C3
    obtain ⟨N, hN⟩ : ∃ N, n + 1 = N := ⟨_, rfl⟩
    rw [hN] at C2 C3
    have hN1 : n ≤ N := by omega
    have hN2 : (n : Int) ≤ (N : Int) := by omega
    have hN3 : n < N := by omega
    have hN4 : N ≤ 65 := by omega
    have HNN := hid hN
    obtain ⟨FL, hFL⟩ : ∃ FL, (powsL p n xs b n).flatten = FL := ⟨_, rfl⟩
    rw [hFL] at C3 C4 hfl
    obtain ⟨CL, hCL⟩ : ∃ CL, colsP p n xs b = CL := ⟨_, rfl⟩
    rw [hCL] at C4 C5 hcl
    clear hCL hFL hL htk hto hpow hcok hfree hf hk hx hxg hg ok hr k3 k3' hb hp2 hfl hpn hN
    go_enter Try.func8, Try.ntmps8
    go_wp2_with (first
      | (go_at_call 24; refine (C1.out _ (by repeat (first | exact Ext.refl _ | assumption | refine Ext.drew ?_ | refine Ext.drewN ?_ _ | refine Ext.alloc ?_ _ | refine Ext.trans ?_ (by assumption)))).mono ?_; rintro _ w1 ⟨rfl, x1⟩; have HA1 := hid (hA.out.ext x1); obtain ⟨d0, d1, d2⟩ := HA1.out.at3)
      | (go_at_call 6; refine (C2.out _ (Ext.trans (by repeat (first | exact Ext.refl _ | assumption | refine Ext.drew ?_ | refine Ext.drewN ?_ _ | refine Ext.alloc ?_ _ | refine Ext.trans ?_ (by assumption))) x1)).mono ?_; rintro _ w2 ⟨gp, us, rfl, p1, p2, p3, x2⟩; have P3 := hid p3; clear p3)
      | (go_at_call 32; refine (C3.out _ _ _ p2 p1 P3.out).mono ?_; rintro _ w3 ⟨a3, c3, rfl, q3, x3⟩)
      | (go_at_call 31; refine (C4.out _ _ q3).mono ?_; rintro _ w4 ⟨z4, rfl, q4, x4⟩; unfold matV; have Q4 := hid q4; obtain ⟨a4, c4, rfl, -, -, -⟩ := q4
         rw [hcl] at Q4)
      | (go_at_call 33; refine (C5.out _ _ (Q4.out.alloc _)).mono ?_; rintro _ w5 ⟨z5, rfl, q5, x5⟩; have Q5 := hid q5; obtain ⟨a5, c5, rfl, -, -, -⟩ := q5)
      | (go_at_call 34; refine (C6.out _ _ Q5.out).mono ?_; rintro _ w6 ⟨z6, rfl, q6, x6⟩; have Q6 := hid q6; obtain ⟨a6, c6, rfl, -, -, -⟩ := q6))
    have e1 : Ext w w4 := ((((Ext.refl w).alloc _).trans x1).trans x2).trans (x3.trans x4)
    have e2 : Ext w w6 := (e1.alloc _).trans (x5.trans x6)
    go_ret2
    exact ⟨_, rfl, Q6.out, e2⟩
  · have hfull := hpow.full hcok hf hr hg (by rw [hfree]; exact hk)
    obtain ⟨x, hx, hxg⟩ := hpow.sol hcok hf hr hb hg hfull
    have hxl := hx.len
    have C5 := hid fun (W : World) (z : Value) (hz : Ints .u64 W z (colsP p n xs b)) => svKernel_no p n n z _ W hcok hf hz hk
    have C6 := hid fun (W : World) (z z' : Value) (hz : Ints .u64 W z (colsP p n xs b)) (hz' : Ints .u64 W z' (powL p n xs n b)) => svSolve_yes p n n z z' _ _ x W hcok hf hz hz' (powL_len hb n) (powL_rng hp2.1 hr n) hx
    have C7 := hid fun (W : World) (z : Value) (hz : Ints .u64 W z x) => krFrom0 p z x W ok.hp hz hx.rng (by omega)
    have hng : negL p x ++ [1] = g := by rw [← hxg]; unfold negL; rw [hxl]
    have hnl := negL_len p x
    rw [hxl] at C7 hnl
    have hpg := powsL_get (p := p) (n := n) (xs := xs) (v := b) (show n < n + 1 by omega)
    obtain ⟨i0, hi, hz0, hz1, hz2⟩ := info_parts info_u64p
    obtain ⟨a, cap, rfl, k1, k2, k3⟩ := hv
    obtain ⟨a', cap', rfl, k1', k2', k3'⟩ := hu
    rw [hb] at C1 C2
    rw [hb]
    unfold matV at C1 C2 C4 C5 C6
    unfold matV
    unfold RetPows at C2
    have hA := hid (Blk.new w 25 #[.int .i64 (n : Int), .int .i64 (n : Int), .slice a xs.length cap])
    obtain ⟨b0, b1, b2⟩ := hA.out.at3
    obtain ⟨L, hL⟩ : ∃ L, powsL p n xs b (n + 1) = L := ⟨_, rfl⟩
    rw [hL] at C2 C3 hpn hpg
    rw [hpn] at C2 C3
    obtain ⟨N, hN⟩ : ∃ N, n + 1 = N := ⟨_, rfl⟩
    rw [hN] at C2 C3
    have hN1 : n ≤ N := by omega
    have hN2 : (n : Int) ≤ (N : Int) := by omega
    have hN3 : n < N := by omega
    have hN5 : (n : Int) < (N : Int) := by omega
    have hN4 : N ≤ 65 := by omega
    have HNN := hid hN
    obtain ⟨FL, hFL⟩ : ∃ FL, (powsL p n xs b n).flatten = FL := ⟨_, rfl⟩
    rw [hFL] at C3 C4 hfl
    obtain ⟨CL, hCL⟩ : ∃ CL, colsP p n xs b = CL := ⟨_, rfl⟩
    rw [hCL] at C4 C5 C6 hcl
    obtain ⟨PN, hPN⟩ : ∃ PN, powL p n xs n b = PN := ⟨_, rfl⟩
    rw [hPN] at C6 hpg
    obtain ⟨NL, hNL⟩ : ∃ NL, negL p x = NL := ⟨_, rfl⟩
    rw [hNL] at C7 hng hnl
    have HNG := hid hng; have HPG := hid hpg; have HNL := hid hnl; have HXL := hid hxl
    clear hCL hFL hL htk hto hpow hcok hfree hf hk hx hxg hg ok hr k3 k3' hb hp2 hfl hpn hN hfull hng hpg hnl hxl hPN hNL
    go_enter Try.func8, Try.ntmps8
    go_wp2_with (first
      | (go_at_call 24; refine (C1.out _ (by repeat (first | exact Ext.refl _ | assumption | refine Ext.drew ?_ | refine Ext.drewN ?_ _ | refine Ext.alloc ?_ _ | refine Ext.trans ?_ (by assumption)))).mono ?_; rintro _ w1 ⟨rfl, x1⟩; have HA1 := hid (hA.out.ext x1); obtain ⟨d0, d1, d2⟩ := HA1.out.at3)
      | (go_at_call 6; refine (C2.out _ (Ext.trans (by repeat (first | exact Ext.refl _ | assumption | refine Ext.drew ?_ | refine Ext.drewN ?_ _ | refine Ext.alloc ?_ _ | refine Ext.trans ?_ (by assumption))) x1)).mono ?_; rintro _ w2 ⟨gp, us, rfl, p1, p2, p3, x2⟩; have P3 := hid p3; have P2 := hid p2; have P1 := hid p1; clear p3 p2 p1)
      | (go_at_call 32; refine (C3.out _ _ _ P2.out P1.out P3.out).mono ?_; rintro _ w3 ⟨a3, c3, rfl, q3, x3⟩)
      | (go_at_call 31; refine (C4.out _ _ q3).mono ?_; rintro _ w4 ⟨z4, rfl, q4, x4⟩; unfold matV; have Q4 := hid q4; obtain ⟨a4, c4, rfl, -, -, -⟩ := q4
         rw [hcl] at Q4)
      | (go_at_call 33; refine (C5.out _ _ (Q4.out.alloc _)).mono ?_; rintro _ w5 ⟨z5, rfl, q5, x5⟩; have Q5 := hid q5; obtain ⟨a5, c5, rfl, -, -, -⟩ := q5
         have e1 : Ext w4 w5 := ((Ext.refl w4).alloc _).trans x5
         have HB5 := hid ((Blk.new w4 25 #[.int .i64 (n : Int), .int .i64 (n : Int), .slice a4 (n * n) c4]).ext x5)
         obtain ⟨u0, u1, u2⟩ := HB5.out.at3
         have hus := (P3.out n hN3).ext ((x3.trans x4).trans e1)
         rw [HPG.out] at hus
         have cn := (P2.out.ext ((x3.trans x4).trans e1)).cell n
         obtain ⟨un, hun⟩ : ∃ un, us.getD n undef = un := ⟨_, rfl⟩
         rw [List.getElem?_toArray, List.getElem?_eq_getElem (by rw [P1.out]; exact hN3), show us[n]'(by rw [P1.out]; exact hN3) = un by rw [← hun, List.getD, List.getElem?_eq_getElem (by rw [P1.out]; exact hN3)]; rfl] at cn
         rw [hun] at hus
         have HUS := hid hus
         obtain ⟨an, can, rfl, -, -, -⟩ := hus
         clear hun
         have fs := hid fun (W : World) (hW : Ext w5 W) => (show (W.cell? ⟨w4.heap.size, 0, none⟩ = some (.int .i64 (n : Int)) ∧ W.cell? ⟨w4.heap.size, 1, none⟩ = some (.int .i64 (n : Int)) ∧ W.cell? ⟨w4.heap.size, 2, none⟩ = some (.slice a4 (n * n) c4)) ∧ W.cell? ⟨gp, n, none⟩ = some (.slice an PN.length can) from
           ⟨(HB5.out.ext hW).at3, (hW.cells _ _ (cell_lt cn)).trans cn⟩)))
    go_region_held3 (fun w' => (w'.cell? ⟨w4.heap.size, 0, none⟩ = some (.int .i64 (n : Int)) ∧ w'.cell? ⟨w4.heap.size, 1, none⟩ = some (.int .i64 (n : Int)) ∧ w'.cell? ⟨w4.heap.size, 2, none⟩ = some (.slice a4 (n * n) c4)) ∧ w'.cell? ⟨gp, n, none⟩ = some (.slice an PN.length can))
      (first | assumption | exact fs.out _ ((Ext.refl w5).drew) | exact fs.out _ (((Ext.refl w5).drew).trans x6))
      ((first
        | (go_at_call 35; refine (C6.out _ _ _ ((Q4.out.alloc _).ext (x5.trans ((Ext.refl w5).drew))) (HUS.out.ext ((Ext.refl w5).drew))).mono ?_; rintro _ w6 ⟨z6, rfl, q6, x6⟩; have Q6 := hid q6; obtain ⟨a6, c6, rfl, -, -, -⟩ := q6)))
    go_wp2_with (first
      | (go_at_call 36; refine (C7.out _ _ Q6.out).mono ?_; rintro _ w7 ⟨g7, rfl, o7, x7⟩; have O7 := hid o7; have hs7 := x7.size; clear o7)
      | (at_builtin; refine wpList_append_own _ rfl _ _ 23 rfl w6.heap.size 22 i0 (.int .u64 0) 1 8 Try.underlying23 hi hz0 hz1 hz2 rfl (by decide) (.slice (some ⟨g7, 0, none⟩) n n) n (NL.map (Value.int .u64)) rfl (O7.out.alloc _) ⟨w7.heap.size, 0, none⟩ 1 1 [.int .u64 1] rfl rfl (cells_new _ _ _ (by simp)) (by simp [Value.oneCell']) (by simp only [maxLen]; omega) (by omega) (by simp; omega) ?_; intro v8 w8 hown8 hgrow8 hnil8))
    have e3 : Ext w w4 := ((((Ext.refl w).alloc _).trans x1).trans x2).trans (x3.trans x4)
    have e4 : Ext w w6 := (e3.trans e1).trans (((Ext.refl w5).drew).trans x6)
    have e5 : Ext w w8 := ((e4.trans x7).alloc _).grown hgrow8 (fun k e => by have := (O7.out.lt k e).1; have := e4.size; omega)
    have h8 : w8.ownsRow w6.heap.size 22 1 v8 (n + 1) (g.map (Value.int .u64)) := by rw [← HNG.out, List.map_append]; exact hown8
    go_ret2
    exact ⟨_, rfl, own_ints h8, e5⟩
end Go.Proofs.Ythmmakkldkjnlaa
/- Package krylov: Min. -/
namespace Go.Proofs.Ythmmakkldkjnlaa
open Go.RowKit Go.Maps Go.Shelf

attribute [local go_sem] Oper.semAt_some

theorem results_cell_cell {P : Program} {fn : Func} {p q : Tmp} {ty ty2 : TypeId} (h : fn.results = #[.cell p ty, .cell q ty2]) (tmps : Array Value) (w : World) (x y : Value) (g g2 : Nat)
    (hp : tmps.getD p undef = .pointer (some ⟨g, 0, none⟩)) (hx : (loadVar ty ⟨g, 0, none⟩).run P w = .ok x w) (hq : tmps.getD q undef = .pointer (some ⟨g2, 0, none⟩)) (hy : (loadVar ty2 ⟨g2, 0, none⟩).run P w = .ok y w) :
    (results fn tmps).run P w = .ok (.tuple #[x, y]) w := by
  have hp' : tmps[p]?.getD undef = .pointer (some ⟨g, 0, none⟩) := by simpa using hp
  have hq' : tmps[q]?.getD undef = .pointer (some ⟨g2, 0, none⟩) := by simpa using hq
  simp [results, h, hp', hq', asAddr, hx, hy, Result.andThen]
theorem load_row {w : World} {g : Nat} {t : TypeId} {x : Value} (h : Blk w g t #[x]) : (loadVar 23 ⟨g, 0, none⟩).run Try.prog w = .ok x w := by
  have h1 : (isAgg 23).run Try.prog w = .ok false w := Try.isAgg23 w
  have h2 : w.cell? ⟨g, 0, none⟩ = some x := h.cell 0
  unfold loadVar
  simp only [Sem.run_bind, h1, Result.andThen_ok]
  simp [go_sem, h2]
theorem ints_off2 {W : World} {g : Nat} {t : TypeId} {cs : Array Value} (hB : Blk W g t cs) (hcs : ∀ (j : Nat) (k : Int), cs[j]? ≠ some (.int .u64 k)) {v : Value} {xs : List Int} (hi : Ints .u64 W v xs) (hl : 0 < xs.length) : ∀ b, v.ownBlock = some b → b ≠ g := fun b hb e => by
  obtain ⟨a', cap, rfl, h1, h2, h3⟩ := hi
  obtain ⟨b', off, rfl, hb', hc⟩ := h3 hl
  have e1 : b' = b := by simpa [Value.ownBlock] using hb
  subst e1; subst e
  have hc0 := hc 0 hl
  rw [hB.cell] at hc0
  exact hcs _ _ hc0
theorem errno_off (x : Int) : ∀ (j : Nat) (k : Int), (#[Value.int .i64 x] : Array Value)[j]? ≠ some (.int .u64 k) := fun j k h => by
  cases j with
  | zero => simp at h
  | succ j => simp at h
/-- a list of numbers doesn't lie where something else does -/
theorem ints_off {W : World} {g : Nat} {t : TypeId} {a : Option Addr} {l c : Nat} (hB : Blk W g t #[.slice a l c]) {v : Value} {xs : List Int} (hi : Ints .u64 W v xs) (hl : 0 < xs.length) : ∀ b, v.ownBlock = some b → b ≠ g := fun b hb e => by
  obtain ⟨a', cap, rfl, h1, h2, h3⟩ := hi
  obtain ⟨b', off, rfl, hb', hc⟩ := h3 hl
  have e1 : b' = b := by simpa [Value.ownBlock] using hb
  subst e1; subst e
  have hc0 := hc 0 hl
  rw [hB.cell] at hc0
  cases off with
  | zero => simp at hc0
  | succ k => simp at hc0
theorem ints_cells {W : World} {v : Value} {xs : List Int} (hi : Ints .u64 W v xs) (hl : 0 < xs.length) {row : Option Nat} (hr : ∀ r, row = some r → ∃ o : Obj, W.heap[r]? = some o ∧ o.isCells = false) : ∀ b, v.ownBlock = some b → row ≠ some b := fun b hb e => by
  obtain ⟨a', cap, rfl, h1, h2, h3⟩ := hi
  obtain ⟨b', off, rfl, hb', hc⟩ := h3 hl
  have e1 : b' = b := by simpa [Value.ownBlock] using hb
  subst e1
  obtain ⟨o, ho, hcl⟩ := hr b' e
  obtain ⟨o', ho', hcl'⟩ := cells_of (hc 0 hl)
  rw [ho] at ho'
  cases ho'; rw [hcl] at hcl'; cases hcl'
theorem row_unit {n x : Nat} (hx : x < n) : rowOf n (oneL n) x = unitL n x := tab_congr fun k hk => by
  rw [oneL, grid_get _ hx hk]
  by_cases e : x = k
  · rw [if_pos e, if_pos e.symm]
  · rw [if_neg e, if_neg (fun h => e h.symm)]

set_option maxRecDepth 100000 in
set_option maxHeartbeats 1000000 in
theorem krMin_no (p r c : Int) (v : Value) (xs : List Int) (w : World) (h0 : 0 ≤ p) (h1 : p ≤ 18446744073709551615) (hv : Ints .u64 w v xs) (hx : U64s xs) (h : squareB p r c xs = false) :
    Calls Try.prog 9 #[.int .u64 p, matV r c v] w (Ret (.tuple #[.slice none 0 0, .int .i64 1]) w) := by
  have C1 := hid fun (W : World) (hW : Ext w W) => krSquare p r c v xs W h0 h1 (hv.ext hW) hx
  rw [h] at C1
  obtain ⟨a, cap, rfl, k1, k2, k3⟩ := hv
  clear k3 hx h
  unfold matV at C1
  unfold matV
  have hb2 := hid (boxes2 ((w.alloc (.cells #[.int .u64 p] 22)).alloc (.cells #[.int .i64 r, .int .i64 c, .slice a xs.length cap] 25)) 23 29 #[.slice none 0 0] #[.int .i64 0])
  have X0 : Ext w ((w.alloc (.cells #[.int .u64 p] 22)).alloc (.cells #[.int .i64 r, .int .i64 c, .slice a xs.length cap] 25)) := ((Ext.refl w).alloc _).alloc _
  obtain ⟨w2, hw2⟩ : ∃ w2, (w.alloc (.cells #[.int .u64 p] 22)).alloc (.cells #[.int .i64 r, .int .i64 c, .slice a xs.length cap] 25) = w2 := ⟨_, rfl⟩
  have HS2 := hid (show w2.heap.size = w.heap.size + 1 + 1 from by rw [← hw2]; simp)
  rw [hw2] at hb2 X0
  rw [HS2.out] at hb2
  have HW2 := hid hw2
  clear hw2
  go_enter Try.func9, Try.ntmps9
  go_wp2_with (go_at_call 37; refine (C1.out _ (by repeat (first | exact Ext.refl _ | assumption | refine Ext.drew ?_ | refine Ext.drewN ?_ _ | refine Ext.alloc ?_ _ | refine Ext.trans ?_ (by assumption)))).mono ?_; rintro _ w1 ⟨rfl, x1⟩
               rw [HW2.out] at x1
               have B1 := hid (hb2.out.1.ext x1); have B2 := hid (hb2.out.2.1.ext x1)
               have c1 := B1.out.cell 0; have f1 := B1.out.frozen 0; have c2 := B2.out.cell 0; have f2 := B2.out.frozen 0)
  clear c1 f1 c2 f2
  have D1 := (B1.out.set_ 0 (.slice none 0 0)).grown (setCell_grown (w1.setCell ⟨w.heap.size + 1 + 1, 0, none⟩ (.slice none 0 0)) ⟨w.heap.size + 1 + 1 + 1, 0, none⟩ (.int .i64 1)) (by simp)
  have D2 := (B2.out.grown (setCell_grown w1 ⟨w.heap.size + 1 + 1, 0, none⟩ (.slice none 0 0)) (by simp)).set_ 0 (.int .i64 1)
  have hE : Ext w w1 := (X0.trans hb2.out.2.2).trans x1
  refine bodyPost_ret (results_cell_cell rfl _ _ (.slice none 0 0) (.int .i64 1) (w.heap.size + 1 + 1) (w.heap.size + 1 + 1 + 1) rfl (load_row D1) rfl (load_errno D2)) rfl ?_
  exact ⟨rfl, (hE.setCell (by show w.heap.size ≤ w.heap.size + 1 + 1; omega) _).setCell (by show w.heap.size ≤ w.heap.size + 1 + 1 + 1; omega) _⟩

/-- the call's own memory: the least multiple so far, and its box -/
def MinS (p : Int) (n : Nat) (xs : List Int) (w5 W : World) (G : Nat) (l : List Nat) : Prop := ∃ a c L, Blk W G 23 #[.slice a L.length c] ∧ Ints .u64 W (.slice a L.length c) L ∧ IsOwn p n (atF n xs) (fun v => ∃ x, x ∈ l ∧ v = uniF x) L ∧ w5.grownBy W (some G)
theorem MinS.own {p : Int} {n : Nat} {xs : List Int} {w5 W W' : World} {G : Nat} {l : List Nat} (h : MinS p n xs w5 W G l) {row : Option Nat} (hg : W.grownBy W' row) (hr : ∀ r, row = some r → w5.heap.size ≤ r ∧ ∃ o : Obj, W.heap[r]? = some o ∧ o.isCells = false) : MinS p n xs w5 W' G l := by
  obtain ⟨a, c, L, h1, h2, h3, h4⟩ := h
  exact ⟨a, c, L, h1.grown hg (cells_ne h1 fun r e => (hr r e).2), h2.grown hg (ints_cells h2 (List.length_pos_iff.2 h3.ne) fun r e => (hr r e).2), h3, grown_new h4 hg fun q e => (hr q e).1⟩

set_option maxRecDepth 100000 in
set_option maxHeartbeats 2000000 in
theorem krMin (p : Int) (n : Nat) (v : Value) (xs h : List Int) (w : World) (ok : MatOk p n n xs) (hf : Fld p) (hv : Ints .u64 w v xs) (hh : MinL p n xs h) :
    Calls Try.prog 9 #[.int .u64 p, matV n n v] w (RetE 0 h w) := by
  have hp2 := rightB_true ok.hp
  have hn := ok.hn
  have C1 := hid fun (W : World) (hW : Ext w W) => (callsIn_wide (n := 6)).2 (krSquare p n n v xs W (by omega) (by omega) (hv.ext hW) ok.u64)
  rw [squareB_ok ok] at C1
  have C2 := hid fun (W : World) => (callsIn_wide (n := 6)).2 (mxOne_yes n W hn)
  have Hok := hid ok; have HF := hid hf; have Hv := hid hv; have HH := hid hh
  obtain ⟨a, cap, rfl, k1, k2, k3⟩ := hv
  unfold matV at C1
  unfold matV
  have hb4 := hid (show Blk ((((w.alloc (.cells #[.int .u64 p] 22)).alloc (.cells #[.int .i64 (n : Int), .int .i64 (n : Int), .slice a xs.length cap] 25)).alloc (.cells #[.slice none 0 0] 23)).alloc (.cells #[.int .i64 0] 29)) w.heap.size 22 #[.int .u64 p] ∧
    Blk ((((w.alloc (.cells #[.int .u64 p] 22)).alloc (.cells #[.int .i64 (n : Int), .int .i64 (n : Int), .slice a xs.length cap] 25)).alloc (.cells #[.slice none 0 0] 23)).alloc (.cells #[.int .i64 0] 29)) (w.heap.size + 1) 25 #[.int .i64 (n : Int), .int .i64 (n : Int), .slice a xs.length cap] ∧
    Blk ((((w.alloc (.cells #[.int .u64 p] 22)).alloc (.cells #[.int .i64 (n : Int), .int .i64 (n : Int), .slice a xs.length cap] 25)).alloc (.cells #[.slice none 0 0] 23)).alloc (.cells #[.int .i64 0] 29)) (w.heap.size + 1 + 1) 23 #[.slice none 0 0] ∧
    Blk ((((w.alloc (.cells #[.int .u64 p] 22)).alloc (.cells #[.int .i64 (n : Int), .int .i64 (n : Int), .slice a xs.length cap] 25)).alloc (.cells #[.slice none 0 0] 23)).alloc (.cells #[.int .i64 0] 29)) (w.heap.size + 1 + 1 + 1) 29 #[.int .i64 0] ∧
    Ext w ((((w.alloc (.cells #[.int .u64 p] 22)).alloc (.cells #[.int .i64 (n : Int), .int .i64 (n : Int), .slice a xs.length cap] 25)).alloc (.cells #[.slice none 0 0] 23)).alloc (.cells #[.int .i64 0] 29)) from
    ⟨(Blk.new w _ _).ext (((Ext.refl _).alloc _).alloc _ |>.alloc _), (Blk.at_ (by rw [alloc_size])).ext (((Ext.refl _).alloc _).alloc _), (Blk.at_ (by rw [alloc_size, alloc_size])).ext ((Ext.refl _).alloc _), Blk.at_ (by rw [alloc_size, alloc_size, alloc_size]), ((((Ext.refl w).alloc _).alloc _).alloc _).alloc _⟩)
  have c0 := hb4.out.1.cell 0; have c1 := hb4.out.2.1.cell 0; have c2 := hb4.out.2.1.cell 1; have c3 := hb4.out.2.1.cell 2
  refine (callsIn_wide (n := 7)).1 ?_
  have f1 : Fence.wide.fn 39 := trivial
  have f2 : Fence.wide.fn 68 := trivial
  have f3 : Fence.wide.fn 38 := trivial
  have f4 : Fence.wide.fn 37 := trivial
  have f5 : Fence.wide.fn 8 := trivial
  have f6 : Fence.wide.fn 40 := trivial
  clear k3 ok hf hh
  refine callsIn_of_wp_marks Try.func9 rfl trivial ?_ rfl
  simp only [Try.ntmps9, List.size_toArray, List.length_cons, List.length_nil, Nat.reduceAdd, Nat.reduceSub, Array.replicate_succ, Array.replicate_zero, List.push_toArray, List.append_toArray, List.nil_append, List.cons_append]
  gi_wp2_with fail
  refine (C1.out _ hb4.out.2.2.2.2).mono ?_
  rintro _ w1 ⟨rfl, x1⟩
  have B1 := hid (hb4.out.1.ext x1); have B2 := hid (hb4.out.2.1.ext x1); have B3 := hid (hb4.out.2.2.1.ext x1); have B4 := hid (hb4.out.2.2.2.1.ext x1); have X1 := hid (hb4.out.2.2.2.2.trans x1)
  clear c0 c1 c2 c3
  have hs1 := B4.out.lt
  obtain ⟨H, hH⟩ : ∃ H, w.heap.size = H := ⟨_, rfl⟩
  obtain ⟨T, hT⟩ : ∃ T, w1.heap.size = T := ⟨_, rfl⟩
  have HHH := hid hH; have HTT := hid hT
  rw [hH] at B1 B2 B3 B4 hs1
  rw [hT] at hs1
  simp only [hH]
  clear hH
  have hB1 := hid (B1.out.ext (((Ext.refl w1).alloc (.cells #[.int .u64 1] 22)).alloc (.cells #[.slice (some ⟨T, 0, none⟩) 1 1] 23)))
  have hB2 := hid (B2.out.ext (((Ext.refl w1).alloc (.cells #[.int .u64 1] 22)).alloc (.cells #[.slice (some ⟨T, 0, none⟩) 1 1] 23)))
  have e1 := hB2.out.cell 0
  gi_wp2_with fail
  refine (C2.out _).mono ?_
  rintro _ w3 ⟨ov, rfl, ho, x3⟩
  unfold matV
  have HO := hid ho
  obtain ⟨ao, co, rfl, o1, o2, o3⟩ := ho
  obtain ⟨bo, fo, rfl, hbo, hco⟩ := o3 (by rw [oneL_len]; exact Nat.mul_pos hn.1 hn.1)
  rw [oneL_len] at o1 HO hco
  rw [oneL_len]
  have HCO := hid hco
  have HA3 := hid (Blk.new w3 25 #[.int .i64 (n : Int), .int .i64 (n : Int), .slice (some ⟨bo, fo, none⟩) (n * n) co])
  obtain ⟨g0, g1, g2⟩ := HA3.out.at3
  clear hco o3 e1
  gi_wp2_with fail
  refine ((callsIn_wide (n := 6)).2 (chunk_any (some ⟨bo, fo, none⟩) (n * n) co n hn.1 _)).mono ?_
  rintro _ _ ⟨rfl, rfl⟩
  gi_wp2_with fail
  obtain ⟨S, hS⟩ : ∃ S, w3.heap.size = S := ⟨_, rfl⟩
  obtain ⟨w5, hw5⟩ : ∃ w5, ((w3.alloc (.cells #[.int .i64 (n : Int), .int .i64 (n : Int), .slice (some ⟨bo, fo, none⟩) (n * n) co] 25)).alloc (.cells #[.slice (some ⟨bo, fo, none⟩) (n * n) co] 23)).alloc (.cells #[.int .i64 (n : Int)] 3) = w5 := ⟨_, rfl⟩
  have x5 : Ext w3 w5 := hw5 ▸ (((Ext.refl w3).alloc _).alloc _).alloc _
  have hs5 : w5.heap.size = S + 1 + 1 + 1 := by rw [← hw5, ← hS]; simp
  have p5 : Blk w5 (S + 1) 23 #[.slice (some ⟨bo, fo, none⟩) (n * n) co] := hw5 ▸ (Blk.at_ (by rw [alloc_size, hS])).ext ((Ext.refl _).alloc _)
  have p6 : Blk w5 (S + 1 + 1) 3 #[.int .i64 (n : Int)] := hw5 ▸ Blk.at_ (by rw [alloc_size, alloc_size, hS])
  have X13 := hid ((((Ext.refl w1).alloc (.cells #[.int .u64 1] 22)).alloc (.cells #[.slice (some ⟨T, 0, none⟩) 1 1] 23)).trans x3)
  have hbx := ((show Blk ((w1.alloc (.cells #[.int .u64 1] 22)).alloc (.cells #[.slice (some ⟨T, 0, none⟩) 1 1] 23)) (T + 1) 23 #[.slice (some ⟨T, 0, none⟩) 1 1] from Blk.at_ (by rw [alloc_size, HTT.out])).ext x3)
  have hTS : T + 1 < S := by have := hbx.lt; omega
  have hi1 : Ints .u64 w5 (.slice (some ⟨T, 0, none⟩) 1 1) [1] := (((Ints.at1 (t := 22) HTT.out.symm).ext ((Ext.refl _).alloc _)).ext x3).ext x5
  have J0 := hid (show MinS p n xs w5 w5 (T + 1) [] from ⟨_, _, [1], hbx.ext x5, hi1, (IsOwn.none hp2.1).congr fun v => by simp, (Ext.refl w5).grownBy _⟩)
  have hboT := hid (ints_off hbx HO.out (by rw [oneL_len]; exact Nat.mul_pos hn.1 hn.1) bo rfl)
  have hHO := hid fun j (hj : j < n * n) => (show w5.cell? ⟨bo, fo + j, none⟩ = some (.int .u64 ((oneL n).getD j 0)) from ((x5.cells bo (fo + j) hbo).trans (HCO.out j hj)))
  rw [hw5]
  simp only [hS]
  rw [hS] at hbo
  have X15 := hid (X13.out.trans x5)
  have hst := chunk_stops_in Fence.wide 6 trivial rfl (by omega) (S + 1) (S + 1 + 1) bo fo (n * n) co n n rfl hn.2 hn o1 w5 (by omega) (by omega) (p5.cell 0) (p6.cell 0)
  clear hw5 hS g0 g1 g2 hbx hi1 p5 p6 x5 x3 hB1 hB2 HA3 HO HCO
  refine wpIn_rangeFunc_ownF rfl (by omega) (gf := 68) (lb := #[.pointer (some ⟨S + 1, 0, none⟩), .pointer (some ⟨S + 1 + 1, 0, none⟩)]) rfl trivial (enters_of Try.func68 (by kernel_rfl) rfl)
    hst KeepsRow.trans (fun W l o o' hl _ _ _ => KeepsRow.put (n := w5.heap.size) (by omega) (by omega) W l o' hl) (Below.refl _ _) (fun _ => rfl)
    (fun (pre : List {x : Nat // x < n}) W => MinS p n xs w5 W (T + 1) (pre.map fun z : {x : Nat // x < n} => z.1))
    (fun _ _ _ => False)
    (fun pre W W' row hs hg hr => MinS.own (W := W) (W' := W') (l := pre.map fun z : {x : Nat // x < n} => z.1) hs hg hr)
    (fun _ _ _ _ _ hs _ _ => hs)
    J0.out
    (fun x => { tmps := #[.int .u64 p, .agg #[.int .i64 (n : Int), .int .i64 (n : Int), .slice a xs.length cap], .pointer (some ⟨H, 0, none⟩), .pointer (some ⟨H + 1, 0, none⟩), .pointer (some ⟨H + 1 + 1, 0, none⟩), .pointer (some ⟨H + 1 + 1 + 1, 0, none⟩), .pointer (some ⟨T + 1, 0, none⟩), .pointer (some ⟨S, 0, none⟩), .int .i64 0, pieceV bo fo n x.1, undef, undef, .int .u64 p, .agg #[.int .i64 (n : Int), .int .i64 (n : Int), .slice a xs.length cap], .bool true, .bool false, .slice (some ⟨T, 0, none⟩) 1 1, .tuple #[.agg #[.int .i64 (n : Int), .int .i64 (n : Int), .slice (some ⟨bo, fo, none⟩) (n * n) co], .int .i64 0], .pointer (some ⟨H + 1, 0, none⟩), .int .i64 (n : Int), .tuple #[.agg #[.int .i64 (n : Int), .int .i64 (n : Int), .slice (some ⟨bo, fo, none⟩) (n * n) co], .int .i64 0], .agg #[.int .i64 (n : Int), .int .i64 (n : Int), .slice (some ⟨bo, fo, none⟩) (n * n) co], .int .i64 0, .pointer (some ⟨S, 2, none⟩), .slice (some ⟨bo, fo, none⟩) (n * n) co, .pointer (some ⟨S, 1, none⟩), .int .i64 (n : Int), .func (.func 68) #[] #[.pointer (some ⟨S + 1, 0, none⟩), .pointer (some ⟨S + 1 + 1, 0, none⟩)], pieceV bo fo n x.1, undef, undef, undef, undef, undef, undef, undef, undef, undef, undef, undef, undef, undef, undef, undef, undef, undef, undef, undef, undef, undef], defers := [] }) ?assign ?body ?done ?stop
  case assign =>
    intro l x W K hK
    gi_wp2
    exact hK
  case body =>
    rintro l pre ⟨x, hx⟩ W ⟨aL, cL, L, q1, q2, q3, q4⟩ hlt
    dsimp only
    have hpc : Ints .u64 W (pieceV bo fo n x) (unitL n x) := by
      refine ⟨some ⟨bo, fo + x * n, none⟩, n, by rw [unitL, tab_len]; rfl, by rw [unitL, tab_len]; omega, by omega, fun _ => ⟨bo, fo + x * n, rfl, ?_, fun j hj => ?_⟩⟩
      · have := q4.size; omega
      · rw [unitL, tab_len] at hj
        rw [grown_cell q4 (by omega) hboT.out, Nat.add_assoc, hHO.out _ (at_lt hx hj), ← row_unit hx, rowOf, tab_get _ hj]
    have hE5 : Ext w1 W := grown_ext q4 X15.out (by have := HTT.out; omega)
    obtain ⟨gx, hgx⟩ := OwnL.any (HF.out.has hp2.1) n xs (unitL n x)
    have hul : (unitL n x).length = n := tab_len _ _
    have hur : Rng p (unitL n x) := tab_rng fun k _ => by split <;> omega
    have CO := hid ((callsIn_wide (n := 4)).2 (krOf p n _ _ xs (unitL n x) gx W Hok.out HF.out (Hv.out.ext (X1.out.trans hE5)) hpc hul hur hgx))
    have hLl := q3.len (HF.out.has hp2.1)
    have hgl := hgx.len (HF.out.has hp2.1)
    have CL := hid fun (W' : World) (z : Value) (hW : Ext W W') (hz : Ints .u64 W' z gx) => (callsIn_wide (n := 4)).2 (pLcm_yes p _ z L gx W' Hok.out.hp HF.out (q2.ext hW) hz q3.isp hgx.isp (by omega) (by omega))
    have Q1 := hid q1; have Q3 := hid q3; have Q4 := hid q4; have HGX := hid hgx
    have e0 := (B1.out.ext hE5).cell 0; have e1 := (B2.out.ext hE5).cell 0; have e2 := (B2.out.ext hE5).cell 1; have e3 := (B2.out.ext hE5).cell 2
    have BB1 := hid (B1.out.ext hE5)
    unfold matV pieceV at CO
    unfold pieceV
    clear q1 q2 q3 q4 hpc hgx hul hur
    gi_wp2_with fail
    refine (CallsIn.inRound l CO.out).mono ?_
    rintro _ w6 ⟨z6, rfl, hz6, x6⟩
    have HZ6 := hid hz6
    obtain ⟨a6, c6, rfl, -, -, -⟩ := hz6
    have B6 := hid (Q1.out.ext x6)
    have d0 := (BB1.out.ext x6).cell 0; have d1 := B6.out.cell 0
    clear e0 e1 e2 e3
    gi_wp2_with fail
    refine (CallsIn.inRound l (CL.out w6 _ x6 HZ6.out)).mono ?_
    rintro _ w7 ⟨z7, L7, rfl, hz7, hp7, -, h7, x7⟩
    have HZ7 := hid hz7; have HP7 := hid hp7; have H7 := hid h7
    obtain ⟨a7, c7, rfl, -, -, -⟩ := hz7
    have B7 := hid (B6.out.ext x7)
    have f7 := B7.out.frozen 0; have g7 := B7.out.cell 0
    clear d0 d1 hp7 h7
    gi_wp2_with fail
    clear f7 g7
    obtain ⟨l0, l1, G7, c8, hG7, heq⟩ := H7.out Q3.out.ne HGX.out.ne
    have hg7 : W.grownBy (w7.setCell ⟨T + 1, 0, none⟩ (.slice a7 L7.length c7)) (some (T + 1)) := ((x6.trans x7).grownBy _).trans (setCell_grown _ _ _)
    have hWs := Q4.out.size
    refine ⟨(ko_ext (x6.trans x7)).trans (KeepsOthers.setCell _ _ _), KeepsRow.grown hg7 (by omega) (by omega) (by omega) (by omega), a7, c7, L7, B7.out.set_ 0 _, HZ7.out.setOther (ints_off B7.out HZ7.out (List.length_pos_iff.2 l0)) 0 _, (Q3.out.lcm (HF.out.has hp2.1) HGX.out.unit HP7.out l0 l1 hG7 heq).congr fun v => ?_, Q4.out.trans hg7⟩
    rw [List.map_append, List.map_cons, List.map_nil]
    simp only [List.mem_append, List.mem_singleton]
    constructor
    · rintro (⟨y, hy, rfl⟩ | rfl)
      · exact ⟨y, .inl hy, rfl⟩
      · exact ⟨x, .inr rfl, rfl⟩
    · rintro ⟨y, hy | rfl, rfl⟩
      · exact .inl ⟨y, hy, rfl⟩
      · exact .inr rfl
  case done =>
    rintro D ys W hD hys ⟨aL, cL, L, q1, q2, q3, q4⟩ hK
    have hLh : L = h := (q3.congr (V' := fun v => ∃ i, i < n ∧ v = uniF i) fun v => by
      rw [show (ys.map fun z : {x : Nat // x < n} => z.1) = List.range n from hys]
      simp only [List.mem_range]).one hp2.1 HH.out
    subst hLh
    have hLp := List.length_pos_iff.2 q3.ne
    have hE5 : Ext w1 W := grown_ext q4 X15.out (by have := HTT.out; omega)
    have R3 := hid (B3.out.ext hE5); have R4 := hid (B4.out.ext hE5)
    have d1 := q1.cell 0; have d3 := R3.out.cell 0; have f3' := R3.out.frozen 0; have d4 := R4.out.cell 0; have f4' := R4.out.frozen 0
    have Q2 := hid q2
    have hWs := q4.size
    clear q1 q2 q3 hys
    gi_wp2_with fail
    clear d1 d3 f3' d4 f4'
    have D1 := (R3.out.set_ 0 (.slice aL L.length cL)).grown (setCell_grown _ ⟨H + 1 + 1 + 1, 0, none⟩ (.int .i64 0)) (by simp)
    have D2 := (R4.out.grown (setCell_grown W ⟨H + 1 + 1, 0, none⟩ (.slice aL L.length cL)) (by simp)).set_ 0 (.int .i64 0)
    have I1 := (Q2.out.setOther (ints_off R3.out Q2.out hLp) 0 (.slice aL L.length cL))
    have I2 := I1.setOther (ints_off2 (R4.out.grown (setCell_grown W ⟨H + 1 + 1, 0, none⟩ (.slice aL L.length cL)) (by simp)) (errno_off 0) I1 hLp) 0 (.int .i64 0)
    have ko : KeepsOthers W ((W.setCell ⟨H + 1 + 1, 0, none⟩ (.slice aL L.length cL)).setCell ⟨H + 1 + 1 + 1, 0, none⟩ (.int .i64 0)) := (KeepsOthers.setCell _ _ _).trans (KeepsOthers.setCell _ _ _)
    have hK9 := ko.same D _ hK rfl
    have hHH := HHH.out
    have hE9 : Ext w ((W.setCell ⟨H + 1 + 1, 0, none⟩ (.slice aL L.length cL)).setCell ⟨H + 1 + 1 + 1, 0, none⟩ (.int .i64 0)) := ((X1.out.trans hE5).setCell (by show w.heap.size ≤ H + 1 + 1; omega) _).setCell (by show w.heap.size ≤ H + 1 + 1 + 1; omega) _
    obtain ⟨w9, hw9⟩ : ∃ w9, ((W.setCell ⟨H + 1 + 1, 0, none⟩ (.slice aL L.length cL)).setCell ⟨H + 1 + 1 + 1, 0, none⟩ (.int .i64 0)) = w9 := ⟨_, rfl⟩
    rw [hw9] at D1 D2 I2 hK9 hE9 ⊢
    have hDa : D ≠ H + 1 + 1 := by omega
    have hDb : D ≠ H + 1 + 1 + 1 := by omega
    have D1' : Blk (w9.putObj D (.deferred none)) (H + 1 + 1) 23 #[.slice aL L.length cL] := (World.putObj_heap_other (fun e => hDa e.symm)).trans D1
    have D2' : Blk (w9.putObj D (.deferred none)) (H + 1 + 1 + 1) 29 #[.int .i64 0] := (World.putObj_heap_other (fun e => hDb e.symm)).trans D2
    refine ⟨by simp, .inl ⟨_, _, rfl, run_takeDeferred hK9, ?_⟩⟩
    refine ⟨_, results_cell_cell rfl _ _ (.slice aL L.length cL) (.int .i64 0) (H + 1 + 1) (H + 1 + 1 + 1) rfl (load_row D1') rfl (load_errno D2'), ?_⟩
    exact ⟨_, rfl, I2.grown (grownBy_putObj' w9 D _) (ints_not_def hK9 I2 hLp), hE9.grown (grownBy_putObj' w9 D _) (fun k e => by injection e with e; have : D = k := e; omega)⟩
  case stop =>
    rintro D c pre W _ _ h _
    exact h.elim
end Go.Proofs.Ythmmakkldkjnlaa
/- Package krylov: Same; slices.Equal of numbers. -/
namespace Go.Proofs.Ythmmakkldkjnlaa
open Go.RowKit

set_option maxHeartbeats 1000000 in
theorem equal_any (v u : Value) (xs ys : List Int) (w : World) (hv : Ints .u64 w v xs) (hu : Ints .u64 w u ys) :
    Calls Try.prog 42 #[v, u] w (Ret (.bool (decide (xs = ys))) w) := by
  obtain ⟨a, cap, rfl, h1, h2, h3⟩ := hv
  obtain ⟨a', cap', rfl, k1, k2, k3⟩ := hu
  have H3 := hid h3; have K3 := hid k3
  clear h3 k3
  obtain ⟨D, hD⟩ : ∃ D, decide (xs = ys) = D := ⟨_, rfl⟩
  rw [hD]
  by_cases hl : xs.length = ys.length
  · have b1 : ((xs.length : Int) != (ys.length : Int)) = false := by rw [hl]; simp
    have HD := hid hD
    have Hl := hid hl
    obtain ⟨L, hL⟩ : ∃ L, ys.length = L := ⟨_, rfl⟩
    have HL := hid hL
    rw [hl] at H3 h1 b1 ⊢
    rw [hL] at H3 K3 h1 k1 b1 ⊢
    clear hl hL hD
    go_enter Try.func42, Try.ntmps42
    go_wp2_with fail
    go_loopw [13] (fun i wr => ∃ k : Nat, i = .int .i64 k ∧ k ≤ L ∧ Hid (∀ j, j < k → xs.getD j 0 = ys.getD j 0) ∧ Ext w wr) (fun i _ => L - (intOf i).toNat)
    case atStart => exact ⟨0, rfl, Nat.zero_le _, hid (by simp), (by repeat (first | exact Ext.refl _ | assumption | refine Ext.drew ?_ | refine Ext.drewN ?_ _ | refine Ext.alloc ?_ _ | refine Ext.trans ?_ (by assumption)))⟩
    case round =>
      obtain ⟨k, rfl, hk, hall, hw⟩ := hrel
      by_cases hlt : k < L
      · obtain ⟨b, off, rfl, hb, hc⟩ := H3.out (by omega)
        obtain ⟨b', off', rfl, hb', hc'⟩ := K3.out (by omega)
        have g1 := (hw.cells _ _ hb).trans (hc k hlt)
        have g2 := (hw.cells _ _ hb').trans (hc' k hlt)
        obtain ⟨x, ex⟩ : ∃ x, xs.getD k 0 = x := ⟨_, rfl⟩
        obtain ⟨y, ey⟩ : ∃ y, ys.getD k 0 = y := ⟨_, rfl⟩
        rw [ex] at g1; rw [ey] at g2
        have Ex := hid ex; have Ey := hid ey
        clear hc hc' ex ey
        by_cases hxy : x = y
        · have b3 : (x != y) = false := by simp [hxy]
          have Hxy := hid hxy
          clear hxy
          go_wp2_with fail
          go_quiet (fail)
          go_wp2_with fail
          go_roundw
          case rel => exact ⟨k + 1, by go_num, by omega, hid (fun j hj => by
            by_cases e : j = k
            · rw [e, Ex.out, Ey.out]; exact Hxy.out
            · exact hall.out j (by omega)), hw.drewN _⟩
          case measure => simp [intOf]; omega
        · have b3 : (x != y) = true := by simp [hxy]
          have Hxy := hid hxy
          clear hxy
          go_wp2_with fail
          go_quiet (fail)
          go_wp2_with fail
          go_ret
          refine ⟨ret_bool ?_, hw.drewN _⟩
          rw [← HD.out]
          symm
          exact decide_eq_false (fun e => Hxy.out (by rw [← Ex.out, ← Ey.out, e]))
      · obtain rfl : L = k := by omega
        go_wp2_with fail
        go_ret
        refine ⟨ret_bool ?_, hw⟩
        rw [← HD.out]
        symm
        exact decide_eq_true (list_ext Hl.out fun j hj => hall.out j (by rw [← HL.out, ← Hl.out]; exact hj))
  · have b1 : ((xs.length : Int) != (ys.length : Int)) = true := by simp; omega
    have e : D = false := by rw [← hD]; exact decide_eq_false (fun e => hl (by rw [e]))
    subst e
    clear hl hD
    go_enter Try.func42, Try.ntmps42
    go_wp2_with fail
    go_ret
    exact ⟨rfl, (by repeat (first | exact Ext.refl _ | assumption | refine Ext.drew ?_ | refine Ext.drewN ?_ _ | refine Ext.alloc ?_ _ | refine Ext.trans ?_ (by assumption)))⟩

set_option maxHeartbeats 1000000 in
theorem krSame_no (p r c : Int) (vf v : Value) (xs : List Int) (w : World) (h0 : 0 ≤ p) (h1 : p ≤ 18446744073709551615) (hv : Ints .u64 w v xs) (hx : U64s xs) (h : squareB p r c xs = false) :
    Calls Try.prog 16 #[.int .u64 p, vf, matV r c v] w (Ret (.bool false) w) := by
  have C1 := hid fun (W : World) (hW : Ext w W) => krMin_no p r c v xs W h0 h1 (hv.ext hW) hx h
  obtain ⟨a, cap, rfl, -, -, -⟩ := hv
  clear hx h
  unfold matV at C1
  unfold matV
  go_enter Try.func16, Try.ntmps16
  go_wp2_with (go_at_call 9; refine (C1.out _ (by repeat (first | exact Ext.refl _ | assumption | refine Ext.drew ?_ | refine Ext.drewN ?_ _ | refine Ext.alloc ?_ _ | refine Ext.trans ?_ (by assumption)))).mono ?_; rintro _ w1 ⟨rfl, x1⟩)
  go_ret
  exact ⟨ret_bool (by simp), Ext.trans (by repeat (first | exact Ext.refl _ | assumption | refine Ext.drew ?_ | refine Ext.drewN ?_ _ | refine Ext.alloc ?_ _ | refine Ext.trans ?_ (by assumption))) x1⟩
set_option maxHeartbeats 1000000 in
theorem krSame (p : Int) (n : Nat) (vf v : Value) (f xs h : List Int) (w : World) (ok : MatOk p n n xs) (hf : Fld p) (hfv : Ints .u64 w vf f) (hv : Ints .u64 w v xs) (hh : MinL p n xs h) :
    Calls Try.prog 16 #[.int .u64 p, vf, matV n n v] w (Ret (.bool (decide (f = h))) w) := by
  have C1 := hid fun (W : World) (hW : Ext w W) => krMin p n v xs h W ok hf (hv.ext hW) hh
  have C2 := hid fun (W : World) (z : Value) (hW : Ext w W) (hz : Ints .u64 W z h) => equal_any vf z f h W (hfv.ext hW) hz
  obtain ⟨D, hD⟩ : ∃ D, decide (f = h) = D := ⟨_, rfl⟩
  rw [hD] at C2 ⊢
  obtain ⟨a, cap, rfl, -, -, -⟩ := hv
  obtain ⟨a', cap', rfl, -, -, -⟩ := hfv
  clear hh ok hf hD
  unfold matV at C1
  unfold matV
  have hA := hid ((Ext.refl w).alloc (.cells #[.int .i64 (n : Int), .int .i64 (n : Int), .slice a xs.length cap] 25))
  go_enter Try.func16, Try.ntmps16
  go_wp2_with (first
    | (go_at_call 9; refine (C1.out _ (by repeat (first | exact Ext.refl _ | assumption | refine Ext.drew ?_ | refine Ext.drewN ?_ _ | refine Ext.alloc ?_ _ | refine Ext.trans ?_ (by assumption)))).mono ?_; rintro _ w1 ⟨z1, rfl, hi1, x1⟩; have HI := hid hi1; obtain ⟨a1, c1, rfl, -, -, -⟩ := hi1)
    | (go_at_call 42; refine (C2.out _ _ (hA.out.trans x1) HI.out).mono ?_; rintro _ w2 ⟨rfl, x2⟩))
  go_ret
  exact ⟨ret_bool (by simp), (hA.out.trans x1).trans x2⟩
end Go.Proofs.Ythmmakkldkjnlaa
/- The first look of layer 9's laws: it answers true. -/
namespace Go.Proofs.Ythmmakkldkjnlaa
open Go.RowKit Go.Maps

/-- one of the rows that Powers answers -/
theorem pows_at {w' : World} {g : Nat} {us : List Value} {L : List (List Int)} {j : Nat} (h1 : us.length = L.length) (h2 : Blk w' g 23 us.toArray) (h3 : ∀ j, j < L.length → Ints .u64 w' (us.getD j undef) (L.getD j [])) (hj : j < L.length) :
    ∃ a c, (∀ W, Ext w' W → W.cell? ⟨g, j, none⟩ = some (.slice a (L.getD j []).length c)) ∧ Ints .u64 w' (.slice a (L.getD j []).length c) (L.getD j []) := by
  have h := h3 j hj
  have h0 := h
  obtain ⟨a, c, e, -, -, -⟩ := h
  refine ⟨a, c, fun W hW => ?_, e ▸ h0⟩
  rw [(h2.ext hW).cell j, List.getElem?_toArray, List.getElem?_eq_getElem (by rw [h1]; exact hj), ← e, List.getD, List.getElem?_eq_getElem (by rw [h1]; exact hj)]
  rfl
theorem e93 : compL 7 2 [1, 0, 1] = xs9 := by decide
theorem e94 : powsL 7 2 xs9 [1, 2] 2 = [[1, 2], [2, 6]] := by decide
theorem e95 : pdoL 7 2 xs9 [1, 0, 1] [3, 4] = [0, 0] := by decide
theorem e96 : decide (([1, 0, 1] : List Int) = [1, 0, 1]) = true := by decide
theorem e97 : decide ((2 : Int) = 2 ∧ (2 : Int) = 2 ∧ xs9 = xs9) = true := by decide
set_option maxRecDepth 100000 in
set_option maxHeartbeats 2000000 in
theorem awake09 (w : World) : Calls Try.prog 4 #[] w (Ret (.bool true) w) := by
  have C1 := hid fun (W : World) (v : Value) (hv : Ints .u64 W v xs9) => (show Calls Try.prog 9 #[.int .u64 7, .agg #[.int .i64 2, .int .i64 2, v]] W (RetE 0 [1, 0, 1] W) from krMin 7 2 v xs9 [1, 0, 1] W ok9 fld7 hv min9)
  have C2 := hid fun (W : World) (v u : Value) (hv : Ints .u64 W v xs9) (hu : Ints .u64 W u [0, 0]) => (show Calls Try.prog 8 #[.int .u64 7, .agg #[.int .i64 2, .int .i64 2, v], u] W (RetE 0 [1] W) from krOf 7 2 v u xs9 [0, 0] [1] W ok9 fld7 hv hu rfl (by unfold Rng; decide) own9)
  have C3 := hid fun (W : World) (u : Value) (hu : Ints .u64 W u [1, 0, 1]) => (show Calls Try.prog 10 #[.int .u64 7, u] W (RetN 2 2 xs9 W) from e93 ▸ krCompanion 7 2 u [1, 0, 1] W (by decide) hu min9.isp rfl (by decide) rfl)
  have C4 := hid fun (W : World) (v u : Value) (hv : Ints .u64 W v xs9) (hu : Ints .u64 W u [1, 2]) => (show Calls Try.prog 6 #[.int .u64 7, .agg #[.int .i64 2, .int .i64 2, v], u, .int .i64 2] W (RetPows [[1, 2], [2, 6]] W) from e94 ▸ krPowers 7 2 2 v u xs9 [1, 2] W ok9 hv hu rfl (by unfold Rng; decide) (by decide))
  have C5 := hid fun (W : World) (f v u : Value) (hf : Ints .u64 W f [1, 0, 1]) (hv : Ints .u64 W v xs9) (hu : Ints .u64 W u [3, 4]) => (show Calls Try.prog 7 #[.int .u64 7, f, .agg #[.int .i64 2, .int .i64 2, v], u] W (RetE 0 [0, 0] W) from e95 ▸ krDo 7 2 f v u [1, 0, 1] xs9 [3, 4] W ok9 hf min9.isp (by decide) hv hu rfl (by unfold Rng; decide))
  have C6 := hid fun (W : World) (f v : Value) (hf : Ints .u64 W f [1, 0, 1]) (hv : Ints .u64 W v xs9) => (show Calls Try.prog 16 #[.int .u64 7, f, .agg #[.int .i64 2, .int .i64 2, v]] W (Ret (.bool true) W) from e96 ▸ krSame 7 2 f v [1, 0, 1] xs9 [1, 0, 1] W ok9 fld7 hf hv min9)
  have C7 := hid fun (W : World) (v u : Value) (hv : Ints .u64 W v xs9) (hu : Ints .u64 W u xs9) => (show Calls Try.prog 22 #[.agg #[.int .i64 2, .int .i64 2, v], .agg #[.int .i64 2, .int .i64 2, u]] W (Ret (.bool true) W) from e97 ▸ rmSame 2 2 2 2 v u xs9 xs9 W hv hu)
  have IM0 := (show Ints .u64 ((w.alloc (.cells #[.int .u64 0, .int .u64 1, .int .u64 6, .int .u64 0] 22)).alloc (.cells #[.int .i64 2, .int .i64 2, .slice (some ⟨w.heap.size, 0, none⟩) 4 4] 25)) (.slice (some ⟨w.heap.size, 0, none⟩) 4 4) xs9 from (Ints.lit (k := .u64) (w := w) (t := 22) xs9 (by decide) rfl).alloc (.cells #[.int .i64 2, .int .i64 2, .slice (some ⟨w.heap.size, 0, none⟩) 4 4] 25))
  have HA0 := (show Blk ((w.alloc (.cells #[.int .u64 0, .int .u64 1, .int .u64 6, .int .u64 0] 22)).alloc (.cells #[.int .i64 2, .int .i64 2, .slice (some ⟨w.heap.size, 0, none⟩) 4 4] 25)) (w.heap.size + 1) 25 #[.int .i64 2, .int .i64 2, .slice (some ⟨w.heap.size, 0, none⟩) 4 4] from Blk.at_ (w := w.alloc (.cells #[.int .u64 0, .int .u64 1, .int .u64 6, .int .u64 0] 22)) (t := 25) (cs := #[.int .i64 2, .int .i64 2, .slice (some ⟨w.heap.size, 0, none⟩) 4 4]) (g := w.heap.size + 1) (by rw [alloc_size]))
  have hx0 : Ext w ((w.alloc (.cells #[.int .u64 0, .int .u64 1, .int .u64 6, .int .u64 0] 22)).alloc (.cells #[.int .i64 2, .int .i64 2, .slice (some ⟨w.heap.size, 0, none⟩) 4 4] 25)) := (((Ext.refl w).alloc _)).alloc _
  unfold RetE at C1 C2 C5
  unfold RetN matV at C3
  unfold RetPows at C4
  go_enter Try.func4, Try.ntmps4
  go_upto_region 2 with fail
  obtain ⟨W0, e0⟩ : ∃ W, ((w.alloc (.cells #[.int .u64 0, .int .u64 1, .int .u64 6, .int .u64 0] 22)).alloc (.cells #[.int .i64 2, .int .i64 2, .slice (some ⟨w.heap.size, 0, none⟩) 4 4] 25)) = W := ⟨_, rfl⟩
  rw [e0] at IM0 HA0 hx0
  rw [e0]
  have IM := hid IM0; have HA := hid HA0; have hW0 := hid hx0
  clear e0 IM0 HA0 hx0
  obtain ⟨ha_0, ha_1, ha_2⟩ := HA.out.at3
  go_wp2_with fail
  refine (C1.out _ _ IM.out).mono ?_
  rintro _ w1 ⟨v1, rfl, i1, xw1⟩
  clear ha_0 ha_1 ha_2
  have I1 := hid i1
  obtain ⟨a1, k1, rfl, _, _, kk⟩ := i1
  clear kk
  obtain ⟨ha_0, ha_1, ha_2⟩ := (HA.out.ext xw1).at3
  go_wp2_with fail
  have z3 := (Ext.refl w1).alloc (.cells #[.int .u64 0, .int .u64 0] 22)
  refine (C2.out _ _ _ (IM.out.ext (xw1.trans z3)) (Ints.lit (k := .u64) (w := w1) (t := 22) [0, 0] (by decide) rfl)).mono ?_
  rintro _ w2 ⟨v2, rfl, i2, xw2⟩
  clear ha_0 ha_1 ha_2
  have I2 := hid i2
  obtain ⟨a2, k2, rfl, _, _, kk⟩ := i2
  clear kk
  go_wp2_with fail
  have z5 := (Ext.refl w2).alloc (.cells #[.int .u64 1, .int .u64 0, .int .u64 1] 22)
  refine (C3.out _ _ (Ints.lit (k := .u64) (w := w2) (t := 22) [1, 0, 1] (by decide) rfl)).mono ?_
  rintro _ w3 ⟨v3, rfl, i3, xw3⟩
  have I3 := hid i3
  obtain ⟨a3, k3, rfl, _, _, kk⟩ := i3
  clear kk
  have e3 : xs9.length = 4 := rfl
  rw [e3] at I3
  rw [e3]
  clear e3
  have z7 := (Ext.refl w3).alloc (.cells #[.int .i64 2, .int .i64 2, .slice a3 4 k3] 25)
  have HN := hid (Blk.new w3 25 #[.int .i64 2, .int .i64 2, .slice a3 4 k3])
  obtain ⟨ha_0, ha_1, ha_2⟩ := (HA.out.ext (xw1.trans (z3.trans (xw2.trans (z5.trans (xw3.trans z7)))))).at3
  go_wp2_with fail
  have z8 := (Ext.refl (w3.alloc (.cells #[.int .i64 2, .int .i64 2, .slice a3 4 k3] 25))).alloc (.cells #[.int .u64 1, .int .u64 2] 22)
  refine (C4.out _ _ _ (IM.out.ext (xw1.trans (z3.trans (xw2.trans (z5.trans (xw3.trans (z7.trans z8))))))) (Ints.lit (k := .u64) (w := (w3.alloc (.cells #[.int .i64 2, .int .i64 2, .slice a3 4 k3] 25))) (t := 22) [1, 2] (by decide) (by rw [alloc_size]))).mono ?_
  rintro _ w4 ⟨gp, us, rfl, p1, p2, p3, xw4⟩
  clear ha_0 ha_1 ha_2
  obtain ⟨a4, k4, c4, i4⟩ := pows_at (j := 1) p1 p2 p3 (by decide)
  have I4 := hid i4; have CP := hid c4
  clear p1 p2 p3 i4 c4
  obtain ⟨ha_0, ha_1, ha_2⟩ := (HA.out.ext (xw1.trans (z3.trans (xw2.trans (z5.trans (xw3.trans (z7.trans (z8.trans xw4)))))))).at3
  go_wp2_with fail
  have z10 := (Ext.refl w4).alloc (.cells #[.int .u64 3, .int .u64 4] 22)
  refine (C5.out _ _ _ _ (I1.out.ext (z3.trans (xw2.trans (z5.trans (xw3.trans (z7.trans (z8.trans (xw4.trans z10)))))))) (IM.out.ext (xw1.trans (z3.trans (xw2.trans (z5.trans (xw3.trans (z7.trans (z8.trans (xw4.trans z10))))))))) (Ints.lit (k := .u64) (w := w4) (t := 22) [3, 4] (by decide) rfl)).mono ?_
  rintro _ w5 ⟨v5, rfl, i5, xw5⟩
  clear ha_0 ha_1 ha_2
  have I5 := hid i5
  obtain ⟨a5, k5, rfl, _, _, kk⟩ := i5
  clear kk
  go_wp2_with fail
  have z12 := (Ext.refl w5).alloc (.cells #[.int .u64 1, .int .u64 0, .int .u64 1] 22)
  refine (same_yes _ _ _ _ (I1.out.ext (z3.trans (xw2.trans (z5.trans (xw3.trans (z7.trans (z8.trans (xw4.trans (z10.trans (xw5.trans z12)))))))))) (Ints.lit (k := .u64) (w := w5) (t := 22) [1, 0, 1] (by decide) rfl)).mono ?_
  rintro _ w6 ⟨rfl, xw6⟩
  go_wp2_with fail
  have z14 := (Ext.refl w6).alloc (.cells #[.int .u64 1] 22)
  refine (same_yes _ _ _ _ (I2.out.ext (z5.trans (xw3.trans (z7.trans (z8.trans (xw4.trans (z10.trans (xw5.trans (z12.trans (xw6.trans z14)))))))))) (Ints.lit (k := .u64) (w := w6) (t := 22) [1] (by decide) rfl)).mono ?_
  rintro _ w7 ⟨rfl, xw7⟩
  obtain ⟨ha_0, ha_1, ha_2⟩ := (HA.out.ext (xw1.trans (z3.trans (xw2.trans (z5.trans (xw3.trans (z7.trans (z8.trans (xw4.trans (z10.trans (xw5.trans (z12.trans (xw6.trans (z14.trans xw7)))))))))))))).at3
  obtain ⟨hn_0, hn_1, hn_2⟩ := (HN.out.ext (z8.trans (xw4.trans (z10.trans (xw5.trans (z12.trans (xw6.trans (z14.trans xw7)))))))).at3
  go_wp2_with fail
  refine (C7.out _ _ _ (I3.out.ext (z7.trans (z8.trans (xw4.trans (z10.trans (xw5.trans (z12.trans (xw6.trans (z14.trans xw7))))))))) (IM.out.ext (xw1.trans (z3.trans (xw2.trans (z5.trans (xw3.trans (z7.trans (z8.trans (xw4.trans (z10.trans (xw5.trans (z12.trans (xw6.trans (z14.trans xw7))))))))))))))).mono ?_
  rintro _ w8 ⟨rfl, xw8⟩
  clear ha_0 ha_1 ha_2 hn_0 hn_1 hn_2
  have cp := CP.out _ (z10.trans (xw5.trans (z12.trans (xw6.trans (z14.trans (xw7.trans xw8))))))
  go_wp2_with fail
  have z17 := (Ext.refl w8).alloc (.cells #[.int .u64 2, .int .u64 6] 22)
  refine (same_yes _ _ _ _ (I4.out.ext (z10.trans (xw5.trans (z12.trans (xw6.trans (z14.trans (xw7.trans (xw8.trans z17)))))))) (Ints.lit (k := .u64) (w := w8) (t := 22) [2, 6] (by decide) rfl)).mono ?_
  rintro _ w9 ⟨rfl, xw9⟩
  clear cp
  go_wp2_with fail
  have z19 := (Ext.refl w9).alloc (.cells #[.int .u64 0, .int .u64 0] 22)
  refine (same_yes _ _ _ _ (I5.out.ext (z12.trans (xw6.trans (z14.trans (xw7.trans (xw8.trans (z17.trans (xw9.trans z19)))))))) (Ints.lit (k := .u64) (w := w9) (t := 22) [0, 0] (by decide) rfl)).mono ?_
  rintro _ w10 ⟨rfl, xw10⟩
  obtain ⟨ha_0, ha_1, ha_2⟩ := (HA.out.ext (xw1.trans (z3.trans (xw2.trans (z5.trans (xw3.trans (z7.trans (z8.trans (xw4.trans (z10.trans (xw5.trans (z12.trans (xw6.trans (z14.trans (xw7.trans (xw8.trans (z17.trans (xw9.trans (z19.trans xw10))))))))))))))))))).at3
  go_wp2_with fail
  refine (C6.out _ _ _ (I1.out.ext (z3.trans (xw2.trans (z5.trans (xw3.trans (z7.trans (z8.trans (xw4.trans (z10.trans (xw5.trans (z12.trans (xw6.trans (z14.trans (xw7.trans (xw8.trans (z17.trans (xw9.trans (z19.trans xw10)))))))))))))))))) (IM.out.ext (xw1.trans (z3.trans (xw2.trans (z5.trans (xw3.trans (z7.trans (z8.trans (xw4.trans (z10.trans (xw5.trans (z12.trans (xw6.trans (z14.trans (xw7.trans (xw8.trans (z17.trans (xw9.trans (z19.trans xw10)))))))))))))))))))).mono ?_
  rintro _ w11 ⟨rfl, xw11⟩
  clear ha_0 ha_1 ha_2
  go_wp2_with fail
  go_ret
  exact ⟨rfl, (hW0.out.trans (xw1.trans (z3.trans (xw2.trans (z5.trans (xw3.trans (z7.trans (z8.trans (xw4.trans (z10.trans (xw5.trans (z12.trans (xw6.trans (z14.trans (xw7.trans (xw8.trans (z17.trans (xw9.trans (z19.trans (xw10.trans xw11))))))))))))))))))))⟩
end Go.Proofs.Ythmmakkldkjnlaa
