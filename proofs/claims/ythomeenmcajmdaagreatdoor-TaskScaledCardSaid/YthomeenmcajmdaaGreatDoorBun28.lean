import Derived.Test.YthomeenmcajmdaaGreatDoorBun27
import Derived.Test.YthomeenmcajmdaaGreatDoorBun23
import Derived.Test.YthomeenmcajmdaaGreatDoorCollect
import Derived.Test.YthomeenmcajmdaaGreatDoorBun04
import Derived.RangeFuncCalls
import Derived.Maps.OwnIn
import Derived.Test.YthomeenmcajmdaaGreatDoorBun25
import Derived.Test.YthomeenmcajmdaaGreatDoorPNorm
import Derived.Test.YthomeenmcajmdaaGreatDoorConcat
import Derived.Test.YthomeenmcajmdaaGreatDoorKr3
import Derived.Test.YthomeenmcajmdaaGreatDoorGcd
import Derived.Test.YthomeenmcajmdaaGreatDoorBun24
import Derived.Test.YthomeenmcajmdaaGreatDoorChunk
namespace Go.Proofs.YthomeenmcajmdaaGreatDoor
open Go.RowKit Go.Maps Go.Shelf
attribute [local go_sem] Oper.semAt_some
def colOf (n : Nat) (us : List Int) (k : Nat) : List Int := tab n fun j => us.getD (j * n + k) 0
theorem flat_get (n : Nat) (f : Nat → List Int) (hf : ∀ k, (f k).length = n) : ∀ (L : List Nat) (k j : Nat), k < L.length → j < n → ((L.map f).flatten).getD (k * n + j) 0 = (f (L.getD k 0)).getD j 0
  | [], _, _, h, _ => absurd h (Nat.not_lt_zero _)
  | a :: L, 0, j, _, hj => by
    rw [List.map_cons, List.flatten_cons, Nat.zero_mul, Nat.zero_add]
    simp only [List.getD, List.getElem?_append, hf, hj, if_true, List.getElem?_cons_zero, Option.getD_some]
  | a :: L, k + 1, j, h, hj => by
    have := flat_get n f hf L k j (by simpa using h) hj
    rw [List.map_cons, List.flatten_cons, List.getD_cons_succ, ← this]
    have h1 : ¬ (k + 1) * n + j < n := by rw [Nat.succ_mul]; omega
    have h2 : (k + 1) * n + j - n = k * n + j := by rw [Nat.succ_mul]; omega
    simp only [List.getD, List.getElem?_append, hf, h1, if_false, h2]
theorem IsInv.col {p : Int} {n : Nat} {xs us : List Int} (ok : MatOk p n n xs) (hf : Fld p) (hr : (takeL p n n xs).U.length = n) (h : IsInv p n xs us) {k : Nat} (hk : k < n) : IsX p n n xs (rowOf n (oneL n) k) (colOf n us k) := by
  have hp := (rightB_true ok.hp).1
  have ho := takeL_ok (m := n) (n := n) hp hf ok.hx
  have hfc := (freeC_lt (n := n) ho.cols_nodup fun c hc => ho.cols_lt hc)
  rw [ho.lk, hr] at hfc
  have hge : n ≤ freeC n (takeL p n n xs).cols := Nat.le_of_not_lt fun hlt => by have := hfc.1 hlt; omega
  refine ⟨tab_len _ _, tab_rng fun _ _ => h.rng.getD hp _, ?_, fun j hj hc => absurd (freeC_low (n := n) (by omega)) hc⟩
  refine list_ext (by rw [timesL_len]; exact (tab_len _ _).symm) fun i hi => ?_
  rw [timesL_len] at hi
  rw [times_get hi]
  have h1 := congrArg (fun l : List Int => l.getD (i * n + k) 0) h.one
  simp only [mulL, oneL] at h1
  rw [grid_get _ hi hk, grid_get _ hi hk] at h1
  have h2 : (rowOf n (oneL n) k).getD i 0 = if k = i then 1 else 0 := by
    rw [rowOf, tab_get _ hi, oneL, grid_get _ hk hi]
  rw [h2, show (if k = i then (1 : Int) else 0) = if i = k then 1 else 0 by
    by_cases e : i = k
    · rw [if_pos e, if_pos e.symm]
    · rw [if_neg e, if_neg fun h => e h.symm], ← h1]
  unfold dv appF
  refine congrArg (· % p) (sm_congr fun j hj => ?_)
  show (rowOf n xs i).getD j 0 * (colOf n us k).getD j 0 = xs.getD (i * n + j) 0 * us.getD (j * n + k) 0
  rw [show (rowOf n xs i).getD j 0 = xs.getD (i * n + j) 0 from tab_get _ hj, show (colOf n us k).getD j 0 = us.getD (j * n + k) 0 from tab_get _ hj]
structure InvS (wL W : World) (G n : Nat) (tv : Value) (l : List Int) : Prop where
  box : Blk W G 26 #[.int .i64 (n : Int), .int .i64 (n : Int), tv]
  row : W.ownsRow wL.heap.size 22 1 tv l.length (l.map (Value.int .u64))
  ext : wL.grownBy W (some G)
  lt : G < wL.heap.size
theorem InvS.ext' {wL W W' : World} {G n : Nat} {tv : Value} {l : List Int} (h : InvS wL W G n tv l) (x : Ext W W') : InvS wL W' G n tv l :=
  ⟨h.box.ext x, ownsRow_ext h.row x, h.ext.trans (x.grownBy _), h.lt⟩
theorem InvS.own {wL W W' : World} {G n : Nat} {tv : Value} {l : List Int} (h : InvS wL W G n tv l) {row : Option Nat} (hg : W.grownBy W' row) (hr : ∀ r, row = some r → wL.heap.size ≤ r ∧ ∃ o : Obj, W.heap[r]? = some o ∧ o.isCells = false) : InvS wL W' G n tv l :=
  ⟨h.box.grown hg (fun e => by have := (hr G e).1; have := h.lt; omega), h.row.kept hg (by
    rcases h.row.2 with ⟨rfl, _⟩ | ⟨g, cap, cur, rfl, _, hb, _⟩
    · exact .inl rfl
    · refine .inr fun e => ?_
      obtain ⟨_, o, ho, hc⟩ := hr g (by rw [← e]; rfl)
      rw [hb] at ho
      cases ho; cases hc), grown_new h.ext hg fun q e => (hr q e).1, h.lt⟩
theorem InvS.put {wL W W' : World} {G n : Nat} {tv tv' : Value} {l x : List Int} (h : InvS wL W G n tv l) (hown : W'.ownsRow wL.heap.size 22 1 tv' (l.length + x.length) (l.map (Value.int .u64) ++ x.map (Value.int .u64))) (hg : W.grownBy W' tv.ownBlock) :
    InvS wL (W'.setCell ⟨G, 2, none⟩ tv') G n tv' (l ++ x) := by
  have ne : tv.ownBlock ≠ some G := fun e => by have := (h.row.lt G e).1; have := h.lt; omega
  have B := h.box.grown hg ne
  refine ⟨B.set_ 2 tv', ?_, (grown_new h.ext hg fun q e => (h.row.lt q e).1).trans (setCell_grown _ ⟨G, 2, none⟩ tv'), h.lt⟩
  rw [List.length_append, List.map_append]
  exact own_put hown B (by decide) _ _
theorem ints_not_def {W : World} {D : Nat} {d : Option (List Deferred)} (hK : W.heap[D]? = some (.deferred d)) {v : Value} {xs : List Int} (hi : Ints .u64 W v xs) (hl : 0 < xs.length) : ∀ b, v.ownBlock = some b → (some D : Option Nat) ≠ some b := fun b hb e => by
  obtain ⟨a', cap, rfl, -, -, h3⟩ := hi
  obtain ⟨b', off, rfl, -, hc⟩ := h3 hl
  have e1 : b' = b := by have h : some b' = some b := hb; injection h
  have e2 : D = b := by injection e
  obtain ⟨o, h1, h2⟩ := cells_of (hc 0 hl)
  rw [show (⟨b', off + 0, none⟩ : Addr).block = D from by rw [e2, ← e1], hK] at h1
  cases h1; cases h2
end Go.Proofs.YthomeenmcajmdaaGreatDoor
namespace Go.Proofs.YthomeenmcajmdaaGreatDoor
open Go.RowKit Go.Maps
def colsP (p : Int) (n : Nat) (xs b : List Int) : List Int := turnL n n (powsL p n xs b n).flatten
theorem pows_flat {p : Int} {n : Nat} {xs b : List Int} (hb : b.length = n) {i k : Nat} (hi : i < n) (hk : k < n) : (powsL p n xs b n).flatten.getD (k * n + i) 0 = (powL p n xs k b).getD i 0 := by
  have := flat_get n (fun k => powL p n xs k b) (fun k => powL_len hb k) (List.range n) k i (by simpa using hk) hi
  rw [show (List.range n).getD k 0 = k by simp [List.getD, hk]] at this
  exact this
theorem pows_flat_len {p : Int} {n : Nat} {xs b : List Int} (hb : b.length = n) : ∀ m, (powsL p n xs b m).flatten.length = m * n
  | 0 => by simp [powsL]
  | m + 1 => by
    have h := pows_flat_len (p := p) (xs := xs) hb m
    unfold powsL at h ⊢
    rw [List.range_succ, List.map_append, List.flatten_append, List.length_append, h, Nat.add_mul]
    simp [powL_len hb]
theorem pows_flat_rng {p : Int} {n : Nat} {xs b : List Int} (hp : 2 ≤ p) (hr : Rng p b) (m : Nat) : Rng p (powsL p n xs b m).flatten := fun x hx => by
  obtain ⟨l, hl, hxl⟩ := List.mem_flatten.1 hx
  obtain ⟨k, -, rfl⟩ := List.mem_map.1 hl
  exact powL_rng hp hr k x hxl
theorem colsP_pow {p : Int} {n : Nat} {xs b : List Int} (hb : b.length = n) : PowC p n xs b (colsP p n xs b) := fun i k hi hk => by
  unfold colsP turnL
  rw [grid_get _ hi hk, pows_flat hb hi hk]
theorem flat_ok {p : Int} {n : Nat} {xs b : List Int} (ok : MatOk p n n xs) (hb : b.length = n) (hr : Rng p b) : MatOk p n n (powsL p n xs b n).flatten :=
  ⟨ok.hp, pows_flat_rng (rightB_true ok.hp).1 hr n, ok.hm, ok.hn, pows_flat_len hb n⟩
theorem colsP_ok {p : Int} {n : Nat} {xs b : List Int} (ok : MatOk p n n xs) (hb : b.length = n) (hr : Rng p b) : MatOk p n n (colsP p n xs b) := (flat_ok ok hb hr).turn
theorem first_rows {W : World} {g m n : Nat} {t : TypeId} {us : List Value} {ls : List (List Int)} (hB : Blk W g t us.toArray) (hl : us.length = ls.length) (hi : ∀ j, j < ls.length → Ints .u64 W (us.getD j undef) (ls.getD j [])) (hm : ls.length = m) (hn : n ≤ m) (hm2 : m ≤ 1000) :
    ∃ zs, Vals W (.slice (some ⟨g, 0, none⟩) n m) (zs.map slV) ∧ RowsU W zs (ls.take n) ∧ zs.length = n := by
  have hex : ∀ j, ∃ z : Option Addr × Nat × Nat, j < m → us.getD j undef = slV z := fun j => by
    by_cases hj : j < m
    · obtain ⟨a, cap, e, -⟩ := hi j (by omega)
      exact ⟨⟨a, _, cap⟩, fun _ => e⟩
    · exact ⟨⟨none, 0, 0⟩, fun h => absurd h hj⟩
  let f : Nat → Option Addr × Nat × Nat := fun j => Classical.choose (hex j)
  have hf : ∀ j, j < m → us.getD j undef = slV (f j) := fun j => Classical.choose_spec (hex j)
  have hzl : ((List.range n).map f).length = n := by simp
  have hz : ∀ (j : Nat) (x : Option Addr × Nat × Nat), ((List.range n).map f)[j]? = some x → j < n ∧ x = f j := fun j x hj => by
    have h1 := (List.getElem?_eq_some_iff.1 hj).1
    rw [hzl] at h1
    refine ⟨h1, ?_⟩
    simp [h1] at hj
    exact hj.symm
  refine ⟨(List.range n).map f, ⟨some ⟨g, 0, none⟩, m, by simp, by simp; omega, by omega, fun _ => ⟨g, 0, rfl, hB.lt, fun j x hj => ?_⟩⟩, ⟨by simp; omega, fun j x hj => ?_⟩, hzl⟩
  · rw [List.getElem?_map, Option.map_eq_some_iff] at hj
    obtain ⟨y, hy, rfl⟩ := hj
    obtain ⟨h1, rfl⟩ := hz j y hy
    rw [Nat.zero_add, hB.cell, ← hf j (by omega), List.getElem?_toArray, List.getD, List.getElem?_eq_getElem (show j < us.length by omega)]
    rfl
  · obtain ⟨h1, rfl⟩ := hz j x hj
    rw [← hf j (by omega)]
    have := hi j (by omega)
    rwa [show (ls.take n).getD j [] = ls.getD j [] by simp [List.getD, h1]]
end Go.Proofs.YthomeenmcajmdaaGreatDoor
namespace Go.Proofs.YthomeenmcajmdaaGreatDoor
open Go.RowKit Go.Maps
set_option maxRecDepth 100000 in
set_option maxHeartbeats 2000000 in
theorem krOf (p : Int) (n : Nat) (v u : Value) (xs b g : List Int) (w : World) (ok : MatOk p n n xs) (hf : Fld p) (hv : Ints .u64 w v xs) (hu : Ints .u64 w u b) (hb : b.length = n) (hr : Rng p b) (hg : OwnL p n xs b g) :
    Calls Tryz.prog 116 #[.int .u64 p, matV n n v, u] w (RetE 0 g w) := by
  have hp2 := rightB_true ok.hp
  have hn := ok.hn
  have C1 := hid fun (W : World) (hW : Ext w W) => krBeside p n n v u xs b W (by omega) (by omega) (hv.ext hW) ok.u64 (hu.ext hW) (hr.u64 hp2.2)
  rw [besideB_ok ok hb hr] at C1
  have C2 := hid fun (W : World) (hW : Ext w W) => (show Calls Tryz.prog 140 #[.int .u64 p, matV n n v, u, .int .i64 ((n : Int) + 1)] W (RetPows (powsL p n xs b (n + 1)) W) from krPowers p n (n + 1) v u xs b W ok (hv.ext hW) (hu.ext hW) hb hr (by omega))
  have hpn := powsL_len p n xs b (n + 1)
  have htk : (powsL p n xs b (n + 1)).take n = powsL p n xs b n := by simp [powsL, ← List.map_take, List.take_range, Nat.min_eq_left]
  have hfl := pows_flat_len (p := p) (xs := xs) hb n
  have C3 := hid fun (W : World) (gp : Nat) (us : List Value) (hB : Blk W gp 24 us.toArray) (hl : us.length = (powsL p n xs b (n + 1)).length) (hi : ∀ j, j < (powsL p n xs b (n + 1)).length → Ints .u64 W (us.getD j undef) ((powsL p n xs b (n + 1)).getD j [])) =>
    (show Calls Tryz.prog 141 #[.slice (some ⟨gp, 0, none⟩) n (n + 1)] W fun e w' => ∃ a c, e = .returned (.slice a (n * n) c) ∧ Ints .u64 w' (.slice a (n * n) c) (powsL p n xs b n).flatten ∧ Ext W w' from by
      obtain ⟨zs, z1, z2, z3⟩ := first_rows hB hl hi hpn (show n ≤ n + 1 by omega) (by omega)
      rw [htk] at z2
      refine (concat_any _ zs _ W z1 z2 (by omega) (fun l hl => ?_) (by rw [hfl]; exact Nat.mul_pos hn.1 hn.1)).mono fun e w' h => ?_
      · obtain ⟨k, -, rfl⟩ := List.mem_map.1 hl
        rw [powL_len hb]; exact hn.2
      · obtain ⟨a, c, rfl, ho, hx⟩ := h
        have := own_ints ho
        rw [hfl] at this
        exact ⟨a, c, by rw [hfl], this, hx⟩)
  have C4 := hid fun (W : World) (z : Value) (hz : Ints .u64 W z (powsL p n xs b n).flatten) => (show Calls Tryz.prog 110 #[.int .u64 p, matV n n z] W (RetN n n (colsP p n xs b) W) from mxTurn_yes p n n z _ W (flat_ok ok hb hr) hz)
  have hcok := colsP_ok ok hb hr
  have hpow := colsP_pow (p := p) (xs := xs) hb
  have hto := takeL_ok (m := n) (n := n) hp2.1 hf hcok.hx
  have hfree := freeC_lt (n := n) hto.cols_nodup fun c hc => hto.cols_lt hc
  rw [hto.lk] at hfree
  have hcl := hcok.hl
  by_cases hk : (takeL p n n (colsP p n xs b)).U.length < n
  · obtain ⟨x, hx⟩ := IsK.of hcok hf hk
    have hxg := hpow.kernel hcok hf hr hg hx
    have C5 := hid fun (W : World) (z : Value) (hz : Ints .u64 W z (colsP p n xs b)) => svKernel_yes p n n z _ x W hcok hf hz hx hk
    have C6 := hid fun (W : World) (z : Value) (hz : Ints .u64 W z x) => (pNorm_yes p z x W ok.hp hz (hx.rng.u64 hp2.2) (by rw [hx.len]; omega)).mono fun e w' h => (show RetE 0 g W e w' from by
      obtain ⟨v', zs, rfl, h1, h2, h3, h4⟩ := h
      have ht := trimL_pol hx.rng
      have : zs = g := by rw [← hxg]; exact h2.inj ht.1 (by rw [h3, ht.2])
      exact ⟨v', rfl, this ▸ h1, h4⟩)
    obtain ⟨a, cap, rfl, k1, k2, k3⟩ := hv
    obtain ⟨a', cap', rfl, k1', k2', k3'⟩ := hu
    rw [hb] at C1 C2
    rw [hb]
    unfold matV at C1 C2 C4 C5
    unfold matV
    unfold RetPows at C2
    have hA := hid (Blk.new w 26 #[.int .i64 (n : Int), .int .i64 (n : Int), .slice a xs.length cap])
    obtain ⟨b0, b1, b2⟩ := hA.out.at3
    obtain ⟨L, hL⟩ : ∃ L, powsL p n xs b (n + 1) = L := ⟨_, rfl⟩
    rw [hL] at C2 C3 hpn
    rw [hpn] at C2 C3
    obtain ⟨N, hN⟩ : ∃ N, n + 1 = N := ⟨_, rfl⟩
    rw [hN] at C2 C3
    have hN1 : n ≤ N := by omega
    have hN2 : (n : Int) ≤ (N : Int) := by omega
    have hN3 : n < N := by omega
    have hN4 : N ≤ 65 := by omega
    have HNN := hid hN
    obtain ⟨FL, hFL⟩ : ∃ FL, (powsL p n xs b n).flatten = FL := ⟨_, rfl⟩
    rw [hFL] at C3 C4 hfl
    obtain ⟨CL, hCL⟩ : ∃ CL, colsP p n xs b = CL := ⟨_, rfl⟩
    rw [hCL] at C4 C5 hcl
    clear hCL hFL hL htk hto hpow hcok hfree hf hk hx hxg hg ok hr k3 k3' hb hp2 hfl hpn hN
    go_enter Tryz.func116, Tryz.ntmps116
    go_wp2_with (first
      | (go_at_call 139; refine (C1.out _ (by repeat (first | exact Ext.refl _ | assumption | refine Ext.drew ?_ | refine Ext.drewN ?_ _ | refine Ext.alloc ?_ _ | refine Ext.trans ?_ (by assumption)))).mono ?_; rintro _ w1 ⟨rfl, x1⟩; have HA1 := hid (hA.out.ext x1); obtain ⟨d0, d1, d2⟩ := HA1.out.at3)
      | (go_at_call 140; refine (C2.out _ (Ext.trans (by repeat (first | exact Ext.refl _ | assumption | refine Ext.drew ?_ | refine Ext.drewN ?_ _ | refine Ext.alloc ?_ _ | refine Ext.trans ?_ (by assumption))) x1)).mono ?_; rintro _ w2 ⟨gp, us, rfl, p1, p2, p3, x2⟩; have P3 := hid p3; clear p3)
      | (go_at_call 141; refine (C3.out _ _ _ p2 p1 P3.out).mono ?_; rintro _ w3 ⟨a3, c3, rfl, q3, x3⟩)
      | (go_at_call 110; refine (C4.out _ _ q3).mono ?_; rintro _ w4 ⟨z4, rfl, q4, x4⟩; unfold matV; have Q4 := hid q4; obtain ⟨a4, c4, rfl, -, -, -⟩ := q4
         rw [hcl] at Q4)
      | (go_at_call 142; refine (C5.out _ _ (Q4.out.alloc _)).mono ?_; rintro _ w5 ⟨z5, rfl, q5, x5⟩; have Q5 := hid q5; obtain ⟨a5, c5, rfl, -, -, -⟩ := q5)
      | (go_at_call 143; refine (C6.out _ _ Q5.out).mono ?_; rintro _ w6 ⟨z6, rfl, q6, x6⟩; have Q6 := hid q6; obtain ⟨a6, c6, rfl, -, -, -⟩ := q6))
    have e1 : Ext w w4 := ((((Ext.refl w).alloc _).trans x1).trans x2).trans (x3.trans x4)
    have e2 : Ext w w6 := (e1.alloc _).trans (x5.trans x6)
    go_ret2
    exact ⟨_, rfl, Q6.out, e2⟩
  · have hfull := hpow.full hcok hf hr hg (by rw [hfree]; exact hk)
    obtain ⟨x, hx, hxg⟩ := hpow.sol hcok hf hr hb hg hfull
    have hxl := hx.len
    have C5 := hid fun (W : World) (z : Value) (hz : Ints .u64 W z (colsP p n xs b)) => svKernel_no p n n z _ W hcok hf hz hk
    have C6 := hid fun (W : World) (z z' : Value) (hz : Ints .u64 W z (colsP p n xs b)) (hz' : Ints .u64 W z' (powL p n xs n b)) => svSolve_yes p n n z z' _ _ x W hcok hf hz hz' (powL_len hb n) (powL_rng hp2.1 hr n) hx
    have C7 := hid fun (W : World) (z : Value) (hz : Ints .u64 W z x) => krFrom0 p z x W ok.hp hz hx.rng (by omega)
    have hng : negL p x ++ [1] = g := by rw [← hxg]; unfold negL; rw [hxl]
    have hnl := negL_len p x
    rw [hxl] at C7 hnl
    have hpg := powsL_get (p := p) (n := n) (xs := xs) (v := b) (show n < n + 1 by omega)
    obtain ⟨i0, hi, hz0, hz1, hz2⟩ := info_parts info_u64p
    obtain ⟨a, cap, rfl, k1, k2, k3⟩ := hv
    obtain ⟨a', cap', rfl, k1', k2', k3'⟩ := hu
    rw [hb] at C1 C2
    rw [hb]
    unfold matV at C1 C2 C4 C5 C6
    unfold matV
    unfold RetPows at C2
    have hA := hid (Blk.new w 26 #[.int .i64 (n : Int), .int .i64 (n : Int), .slice a xs.length cap])
    obtain ⟨b0, b1, b2⟩ := hA.out.at3
    obtain ⟨L, hL⟩ : ∃ L, powsL p n xs b (n + 1) = L := ⟨_, rfl⟩
    rw [hL] at C2 C3 hpn hpg
    rw [hpn] at C2 C3
    obtain ⟨N, hN⟩ : ∃ N, n + 1 = N := ⟨_, rfl⟩
    rw [hN] at C2 C3
    have hN1 : n ≤ N := by omega
    have hN2 : (n : Int) ≤ (N : Int) := by omega
    have hN3 : n < N := by omega
    have hN5 : (n : Int) < (N : Int) := by omega
    have hN4 : N ≤ 65 := by omega
    have HNN := hid hN
    obtain ⟨FL, hFL⟩ : ∃ FL, (powsL p n xs b n).flatten = FL := ⟨_, rfl⟩
    rw [hFL] at C3 C4 hfl
    obtain ⟨CL, hCL⟩ : ∃ CL, colsP p n xs b = CL := ⟨_, rfl⟩
    rw [hCL] at C4 C5 C6 hcl
    obtain ⟨PN, hPN⟩ : ∃ PN, powL p n xs n b = PN := ⟨_, rfl⟩
    rw [hPN] at C6 hpg
    obtain ⟨NL, hNL⟩ : ∃ NL, negL p x = NL := ⟨_, rfl⟩
    rw [hNL] at C7 hng hnl
    have HNG := hid hng; have HPG := hid hpg; have HNL := hid hnl; have HXL := hid hxl
    clear hCL hFL hL htk hto hpow hcok hfree hf hk hx hxg hg ok hr k3 k3' hb hp2 hfl hpn hN hfull hng hpg hnl hxl hPN hNL
    go_enter Tryz.func116, Tryz.ntmps116
    go_wp2_with (first
      | (go_at_call 139; refine (C1.out _ (by repeat (first | exact Ext.refl _ | assumption | refine Ext.drew ?_ | refine Ext.drewN ?_ _ | refine Ext.alloc ?_ _ | refine Ext.trans ?_ (by assumption)))).mono ?_; rintro _ w1 ⟨rfl, x1⟩; have HA1 := hid (hA.out.ext x1); obtain ⟨d0, d1, d2⟩ := HA1.out.at3)
      | (go_at_call 140; refine (C2.out _ (Ext.trans (by repeat (first | exact Ext.refl _ | assumption | refine Ext.drew ?_ | refine Ext.drewN ?_ _ | refine Ext.alloc ?_ _ | refine Ext.trans ?_ (by assumption))) x1)).mono ?_; rintro _ w2 ⟨gp, us, rfl, p1, p2, p3, x2⟩; have P3 := hid p3; have P2 := hid p2; have P1 := hid p1; clear p3 p2 p1)
      | (go_at_call 141; refine (C3.out _ _ _ P2.out P1.out P3.out).mono ?_; rintro _ w3 ⟨a3, c3, rfl, q3, x3⟩)
      | (go_at_call 110; refine (C4.out _ _ q3).mono ?_; rintro _ w4 ⟨z4, rfl, q4, x4⟩; unfold matV; have Q4 := hid q4; obtain ⟨a4, c4, rfl, -, -, -⟩ := q4
         rw [hcl] at Q4)
      | (go_at_call 142; refine (C5.out _ _ (Q4.out.alloc _)).mono ?_; rintro _ w5 ⟨z5, rfl, q5, x5⟩; have Q5 := hid q5; obtain ⟨a5, c5, rfl, -, -, -⟩ := q5
         have e1 : Ext w4 w5 := ((Ext.refl w4).alloc _).trans x5
         have HB5 := hid ((Blk.new w4 26 #[.int .i64 (n : Int), .int .i64 (n : Int), .slice a4 (n * n) c4]).ext x5)
         obtain ⟨u0, u1, u2⟩ := HB5.out.at3
         have hus := (P3.out n hN3).ext ((x3.trans x4).trans e1)
         rw [HPG.out] at hus
         have cn := (P2.out.ext ((x3.trans x4).trans e1)).cell n
         obtain ⟨un, hun⟩ : ∃ un, us.getD n undef = un := ⟨_, rfl⟩
         rw [List.getElem?_toArray, List.getElem?_eq_getElem (by rw [P1.out]; exact hN3), show us[n]'(by rw [P1.out]; exact hN3) = un by rw [← hun, List.getD, List.getElem?_eq_getElem (by rw [P1.out]; exact hN3)]; rfl] at cn
         rw [hun] at hus
         have HUS := hid hus
         obtain ⟨an, can, rfl, -, -, -⟩ := hus
         clear hun
         have fs := hid fun (W : World) (hW : Ext w5 W) => (show (W.cell? ⟨w4.heap.size, 0, none⟩ = some (.int .i64 (n : Int)) ∧ W.cell? ⟨w4.heap.size, 1, none⟩ = some (.int .i64 (n : Int)) ∧ W.cell? ⟨w4.heap.size, 2, none⟩ = some (.slice a4 (n * n) c4)) ∧ W.cell? ⟨gp, n, none⟩ = some (.slice an PN.length can) from
           ⟨(HB5.out.ext hW).at3, (hW.cells _ _ (cell_lt cn)).trans cn⟩)))
    go_region_held3 (fun w' => (w'.cell? ⟨w4.heap.size, 0, none⟩ = some (.int .i64 (n : Int)) ∧ w'.cell? ⟨w4.heap.size, 1, none⟩ = some (.int .i64 (n : Int)) ∧ w'.cell? ⟨w4.heap.size, 2, none⟩ = some (.slice a4 (n * n) c4)) ∧ w'.cell? ⟨gp, n, none⟩ = some (.slice an PN.length can))
      (first | assumption | exact fs.out _ ((Ext.refl w5).drew) | exact fs.out _ (((Ext.refl w5).drew).trans x6))
      ((first
        | (go_at_call 91; refine (C6.out _ _ _ ((Q4.out.alloc _).ext (x5.trans ((Ext.refl w5).drew))) (HUS.out.ext ((Ext.refl w5).drew))).mono ?_; rintro _ w6 ⟨z6, rfl, q6, x6⟩; have Q6 := hid q6; obtain ⟨a6, c6, rfl, -, -, -⟩ := q6)))
    go_wp2_with (first
      | (go_at_call 144; refine (C7.out _ _ Q6.out).mono ?_; rintro _ w7 ⟨g7, rfl, o7, x7⟩; have O7 := hid o7; have hs7 := x7.size; clear o7)
      | (at_builtin; refine wpList_append_own _ rfl _ _ 24 rfl w6.heap.size 22 i0 (.int .u64 0) 1 8 Tryz.underlying24 hi hz0 hz1 hz2 rfl (by decide) (.slice (some ⟨g7, 0, none⟩) n n) n (NL.map (Value.int .u64)) rfl (O7.out.alloc _) ⟨w7.heap.size, 0, none⟩ 1 1 [.int .u64 1] rfl rfl (cells_new _ _ _ (by simp)) (by simp [Value.oneCell']) (by simp only [maxLen]; omega) (by omega) (by simp; omega) ?_; intro v8 w8 hown8 hgrow8 hnil8))
    have e3 : Ext w w4 := ((((Ext.refl w).alloc _).trans x1).trans x2).trans (x3.trans x4)
    have e4 : Ext w w6 := (e3.trans e1).trans (((Ext.refl w5).drew).trans x6)
    have e5 : Ext w w8 := ((e4.trans x7).alloc _).grown hgrow8 (fun k e => by have := (O7.out.lt k e).1; have := e4.size; omega)
    have h8 : w8.ownsRow w6.heap.size 22 1 v8 (n + 1) (g.map (Value.int .u64)) := by rw [← HNG.out, List.map_append]; exact hown8
    go_ret2
    exact ⟨_, rfl, own_ints h8, e5⟩
end Go.Proofs.YthomeenmcajmdaaGreatDoor
namespace Go.Proofs.YthomeenmcajmdaaGreatDoor
open Go.RowKit Go.Maps Go.Shelf
attribute [local go_sem] Oper.semAt_some
theorem results_cell_cell {P : Program} {fn : Func} {p q : Tmp} {ty ty2 : TypeId} (h : fn.results = #[.cell p ty, .cell q ty2]) (tmps : Array Value) (w : World) (x y : Value) (g g2 : Nat)
    (hp : tmps.getD p undef = .pointer (some ⟨g, 0, none⟩)) (hx : (loadVar ty ⟨g, 0, none⟩).run P w = .ok x w) (hq : tmps.getD q undef = .pointer (some ⟨g2, 0, none⟩)) (hy : (loadVar ty2 ⟨g2, 0, none⟩).run P w = .ok y w) :
    (results fn tmps).run P w = .ok (.tuple #[x, y]) w := by
  have hp' : tmps[p]?.getD undef = .pointer (some ⟨g, 0, none⟩) := by simpa using hp
  have hq' : tmps[q]?.getD undef = .pointer (some ⟨g2, 0, none⟩) := by simpa using hq
  simp [results, h, hp', hq', asAddr, hx, hy, Result.andThen]
theorem load_row {w : World} {g : Nat} {t : TypeId} {x : Value} (h : Blk w g t #[x]) : (loadVar 24 ⟨g, 0, none⟩).run Tryz.prog w = .ok x w := by
  have h1 : (isAgg 24).run Tryz.prog w = .ok false w := Tryz.isAgg24 w
  have h2 : w.cell? ⟨g, 0, none⟩ = some x := h.cell 0
  unfold loadVar
  simp only [Sem.run_bind, h1, Result.andThen_ok]
  simp [go_sem, h2]
theorem ints_off2 {W : World} {g : Nat} {t : TypeId} {cs : Array Value} (hB : Blk W g t cs) (hcs : ∀ (j : Nat) (k : Int), cs[j]? ≠ some (.int .u64 k)) {v : Value} {xs : List Int} (hi : Ints .u64 W v xs) (hl : 0 < xs.length) : ∀ b, v.ownBlock = some b → b ≠ g := fun b hb e => by
  obtain ⟨a', cap, rfl, h1, h2, h3⟩ := hi
  obtain ⟨b', off, rfl, hb', hc⟩ := h3 hl
  have e1 : b' = b := by simpa [Value.ownBlock] using hb
  subst e1; subst e
  have hc0 := hc 0 hl
  rw [hB.cell] at hc0
  exact hcs _ _ hc0
theorem errno_off (x : Int) : ∀ (j : Nat) (k : Int), (#[Value.int .i64 x] : Array Value)[j]? ≠ some (.int .u64 k) := fun j k h => by
  cases j with
  | zero => simp at h
  | succ j => simp at h
theorem ints_off {W : World} {g : Nat} {t : TypeId} {a : Option Addr} {l c : Nat} (hB : Blk W g t #[.slice a l c]) {v : Value} {xs : List Int} (hi : Ints .u64 W v xs) (hl : 0 < xs.length) : ∀ b, v.ownBlock = some b → b ≠ g := fun b hb e => by
  obtain ⟨a', cap, rfl, h1, h2, h3⟩ := hi
  obtain ⟨b', off, rfl, hb', hc⟩ := h3 hl
  have e1 : b' = b := by simpa [Value.ownBlock] using hb
  subst e1; subst e
  have hc0 := hc 0 hl
  rw [hB.cell] at hc0
  cases off with
  | zero => simp at hc0
  | succ k => simp at hc0
theorem ints_cells {W : World} {v : Value} {xs : List Int} (hi : Ints .u64 W v xs) (hl : 0 < xs.length) {row : Option Nat} (hr : ∀ r, row = some r → ∃ o : Obj, W.heap[r]? = some o ∧ o.isCells = false) : ∀ b, v.ownBlock = some b → row ≠ some b := fun b hb e => by
  obtain ⟨a', cap, rfl, h1, h2, h3⟩ := hi
  obtain ⟨b', off, rfl, hb', hc⟩ := h3 hl
  have e1 : b' = b := by simpa [Value.ownBlock] using hb
  subst e1
  obtain ⟨o, ho, hcl⟩ := hr b' e
  obtain ⟨o', ho', hcl'⟩ := cells_of (hc 0 hl)
  rw [ho] at ho'
  cases ho'; rw [hcl] at hcl'; cases hcl'
theorem row_unit {n x : Nat} (hx : x < n) : rowOf n (oneL n) x = unitL n x := tab_congr fun k hk => by
  rw [oneL, grid_get _ hx hk]
  by_cases e : x = k
  · rw [if_pos e, if_pos e.symm]
  · rw [if_neg e, if_neg (fun h => e h.symm)]
def MinS (p : Int) (n : Nat) (xs : List Int) (w5 W : World) (G : Nat) (l : List Nat) : Prop := ∃ a c L, Blk W G 24 #[.slice a L.length c] ∧ Ints .u64 W (.slice a L.length c) L ∧ IsOwn p n (atF n xs) (fun v => ∃ x, x ∈ l ∧ v = uniF x) L ∧ w5.grownBy W (some G)
theorem MinS.own {p : Int} {n : Nat} {xs : List Int} {w5 W W' : World} {G : Nat} {l : List Nat} (h : MinS p n xs w5 W G l) {row : Option Nat} (hg : W.grownBy W' row) (hr : ∀ r, row = some r → w5.heap.size ≤ r ∧ ∃ o : Obj, W.heap[r]? = some o ∧ o.isCells = false) : MinS p n xs w5 W' G l := by
  obtain ⟨a, c, L, h1, h2, h3, h4⟩ := h
  exact ⟨a, c, L, h1.grown hg (cells_ne h1 fun r e => (hr r e).2), h2.grown hg (ints_cells h2 (List.length_pos_iff.2 h3.ne) fun r e => (hr r e).2), h3, grown_new h4 hg fun q e => (hr q e).1⟩
set_option maxRecDepth 100000 in
set_option maxHeartbeats 2000000 in
theorem krMin (p : Int) (n : Nat) (v : Value) (xs h : List Int) (w : World) (ok : MatOk p n n xs) (hf : Fld p) (hv : Ints .u64 w v xs) (hh : MinL p n xs h) :
    Calls Tryz.prog 90 #[.int .u64 p, matV n n v] w (RetE 0 h w) := by
  have hp2 := rightB_true ok.hp
  have hn := ok.hn
  have C1 := hid fun (W : World) (hW : Ext w W) => (callsIn_wide (n := 6)).2 (krSquare p n n v xs W (by omega) (by omega) (hv.ext hW) ok.u64)
  rw [squareB_ok ok] at C1
  have C2 := hid fun (W : World) => (callsIn_wide (n := 6)).2 (mxOne_yes n W hn)
  have Hok := hid ok; have HF := hid hf; have Hv := hid hv; have HH := hid hh
  obtain ⟨a, cap, rfl, k1, k2, k3⟩ := hv
  unfold matV at C1
  unfold matV
  have hb4 := hid (show Blk ((((w.alloc (.cells #[.int .u64 p] 22)).alloc (.cells #[.int .i64 (n : Int), .int .i64 (n : Int), .slice a xs.length cap] 26)).alloc (.cells #[.slice none 0 0] 24)).alloc (.cells #[.int .i64 0] 31)) w.heap.size 22 #[.int .u64 p] ∧
    Blk ((((w.alloc (.cells #[.int .u64 p] 22)).alloc (.cells #[.int .i64 (n : Int), .int .i64 (n : Int), .slice a xs.length cap] 26)).alloc (.cells #[.slice none 0 0] 24)).alloc (.cells #[.int .i64 0] 31)) (w.heap.size + 1) 26 #[.int .i64 (n : Int), .int .i64 (n : Int), .slice a xs.length cap] ∧
    Blk ((((w.alloc (.cells #[.int .u64 p] 22)).alloc (.cells #[.int .i64 (n : Int), .int .i64 (n : Int), .slice a xs.length cap] 26)).alloc (.cells #[.slice none 0 0] 24)).alloc (.cells #[.int .i64 0] 31)) (w.heap.size + 1 + 1) 24 #[.slice none 0 0] ∧
    Blk ((((w.alloc (.cells #[.int .u64 p] 22)).alloc (.cells #[.int .i64 (n : Int), .int .i64 (n : Int), .slice a xs.length cap] 26)).alloc (.cells #[.slice none 0 0] 24)).alloc (.cells #[.int .i64 0] 31)) (w.heap.size + 1 + 1 + 1) 31 #[.int .i64 0] ∧
    Ext w ((((w.alloc (.cells #[.int .u64 p] 22)).alloc (.cells #[.int .i64 (n : Int), .int .i64 (n : Int), .slice a xs.length cap] 26)).alloc (.cells #[.slice none 0 0] 24)).alloc (.cells #[.int .i64 0] 31)) from
    ⟨(Blk.new w _ _).ext (((Ext.refl _).alloc _).alloc _ |>.alloc _), (Blk.at_ (by rw [alloc_size])).ext (((Ext.refl _).alloc _).alloc _), (Blk.at_ (by rw [alloc_size, alloc_size])).ext ((Ext.refl _).alloc _), Blk.at_ (by rw [alloc_size, alloc_size, alloc_size]), ((((Ext.refl w).alloc _).alloc _).alloc _).alloc _⟩)
  have c0 := hb4.out.1.cell 0; have c1 := hb4.out.2.1.cell 0; have c2 := hb4.out.2.1.cell 1; have c3 := hb4.out.2.1.cell 2
  refine (callsIn_wide (n := 7)).1 ?_
  have f1 : Fence.wide.fn 78 := trivial
  have f2 : Fence.wide.fn 102 := trivial
  have f3 : Fence.wide.fn 115 := trivial
  have f4 : Fence.wide.fn 114 := trivial
  have f5 : Fence.wide.fn 116 := trivial
  have f6 : Fence.wide.fn 117 := trivial
  clear k3 ok hf hh
  refine callsIn_of_wp_marks Tryz.func90 rfl trivial ?_ rfl
  simp only [Tryz.ntmps90, List.size_toArray, List.length_cons, List.length_nil, Nat.reduceAdd, Nat.reduceSub, Array.replicate_succ, Array.replicate_zero, List.push_toArray, List.append_toArray, List.nil_append, List.cons_append]
  gi_wp2_with fail
  refine (C1.out _ hb4.out.2.2.2.2).mono ?_
  rintro _ w1 ⟨rfl, x1⟩
  have B1 := hid (hb4.out.1.ext x1); have B2 := hid (hb4.out.2.1.ext x1); have B3 := hid (hb4.out.2.2.1.ext x1); have B4 := hid (hb4.out.2.2.2.1.ext x1); have X1 := hid (hb4.out.2.2.2.2.trans x1)
  clear c0 c1 c2 c3
  have hs1 := B4.out.lt
  obtain ⟨H, hH⟩ : ∃ H, w.heap.size = H := ⟨_, rfl⟩
  obtain ⟨T, hT⟩ : ∃ T, w1.heap.size = T := ⟨_, rfl⟩
  have HHH := hid hH; have HTT := hid hT
  rw [hH] at B1 B2 B3 B4 hs1
  rw [hT] at hs1
  simp only [hH]
  clear hH
  have hB1 := hid (B1.out.ext (((Ext.refl w1).alloc (.cells #[.int .u64 1] 22)).alloc (.cells #[.slice (some ⟨T, 0, none⟩) 1 1] 24)))
  have hB2 := hid (B2.out.ext (((Ext.refl w1).alloc (.cells #[.int .u64 1] 22)).alloc (.cells #[.slice (some ⟨T, 0, none⟩) 1 1] 24)))
  have e1 := hB2.out.cell 0
  gi_wp2_with fail
  refine (C2.out _).mono ?_
  rintro _ w3 ⟨ov, rfl, ho, x3⟩
  unfold matV
  have HO := hid ho
  obtain ⟨ao, co, rfl, o1, o2, o3⟩ := ho
  obtain ⟨bo, fo, rfl, hbo, hco⟩ := o3 (by rw [oneL_len]; exact Nat.mul_pos hn.1 hn.1)
  rw [oneL_len] at o1 HO hco
  rw [oneL_len]
  have HCO := hid hco
  have HA3 := hid (Blk.new w3 26 #[.int .i64 (n : Int), .int .i64 (n : Int), .slice (some ⟨bo, fo, none⟩) (n * n) co])
  obtain ⟨g0, g1, g2⟩ := HA3.out.at3
  clear hco o3 e1
  gi_wp2_with fail
  refine ((callsIn_wide (n := 6)).2 (chunk_any (some ⟨bo, fo, none⟩) (n * n) co n hn.1 _)).mono ?_
  rintro _ _ ⟨rfl, rfl⟩
  gi_wp2_with fail
  obtain ⟨S, hS⟩ : ∃ S, w3.heap.size = S := ⟨_, rfl⟩
  obtain ⟨w5, hw5⟩ : ∃ w5, ((w3.alloc (.cells #[.int .i64 (n : Int), .int .i64 (n : Int), .slice (some ⟨bo, fo, none⟩) (n * n) co] 26)).alloc (.cells #[.slice (some ⟨bo, fo, none⟩) (n * n) co] 24)).alloc (.cells #[.int .i64 (n : Int)] 3) = w5 := ⟨_, rfl⟩
  have x5 : Ext w3 w5 := hw5 ▸ (((Ext.refl w3).alloc _).alloc _).alloc _
  have hs5 : w5.heap.size = S + 1 + 1 + 1 := by rw [← hw5, ← hS]; simp
  have p5 : Blk w5 (S + 1) 24 #[.slice (some ⟨bo, fo, none⟩) (n * n) co] := hw5 ▸ (Blk.at_ (by rw [alloc_size, hS])).ext ((Ext.refl _).alloc _)
  have p6 : Blk w5 (S + 1 + 1) 3 #[.int .i64 (n : Int)] := hw5 ▸ Blk.at_ (by rw [alloc_size, alloc_size, hS])
  have X13 := hid ((((Ext.refl w1).alloc (.cells #[.int .u64 1] 22)).alloc (.cells #[.slice (some ⟨T, 0, none⟩) 1 1] 24)).trans x3)
  have hbx := ((show Blk ((w1.alloc (.cells #[.int .u64 1] 22)).alloc (.cells #[.slice (some ⟨T, 0, none⟩) 1 1] 24)) (T + 1) 24 #[.slice (some ⟨T, 0, none⟩) 1 1] from Blk.at_ (by rw [alloc_size, HTT.out])).ext x3)
  have hTS : T + 1 < S := by have := hbx.lt; omega
  have hi1 : Ints .u64 w5 (.slice (some ⟨T, 0, none⟩) 1 1) [1] := (((Ints.at1 (t := 22) HTT.out.symm).ext ((Ext.refl _).alloc _)).ext x3).ext x5
  have J0 := hid (show MinS p n xs w5 w5 (T + 1) [] from ⟨_, _, [1], hbx.ext x5, hi1, (IsOwn.none hp2.1).congr fun v => by simp, (Ext.refl w5).grownBy _⟩)
  have hboT := hid (ints_off hbx HO.out (by rw [oneL_len]; exact Nat.mul_pos hn.1 hn.1) bo rfl)
  have hHO := hid fun j (hj : j < n * n) => (show w5.cell? ⟨bo, fo + j, none⟩ = some (.int .u64 ((oneL n).getD j 0)) from ((x5.cells bo (fo + j) hbo).trans (HCO.out j hj)))
  rw [hw5]
  simp only [hS]
  rw [hS] at hbo
  have X15 := hid (X13.out.trans x5)
  have hst := chunk_stops_in Fence.wide 6 trivial rfl (by omega) (S + 1) (S + 1 + 1) bo fo (n * n) co n n rfl hn.2 hn o1 w5 (by omega) (by omega) (p5.cell 0) (p6.cell 0)
  clear hw5 hS g0 g1 g2 hbx hi1 p5 p6 x5 x3 hB1 hB2 HA3 HO HCO
  refine wpIn_rangeFunc_ownF rfl (by omega) (gf := 102) (lb := #[.pointer (some ⟨S + 1, 0, none⟩), .pointer (some ⟨S + 1 + 1, 0, none⟩)]) rfl trivial (enters_of Tryz.func102 (by kernel_rfl) rfl)
    hst KeepsRow.trans (fun W l o o' hl _ _ _ => KeepsRow.put (n := w5.heap.size) (by omega) (by omega) W l o' hl) (Below.refl _ _) (fun _ => rfl)
    (fun (pre : List {x : Nat // x < n}) W => MinS p n xs w5 W (T + 1) (pre.map fun z : {x : Nat // x < n} => z.1))
    (fun _ _ _ => False)
    (fun pre W W' row hs hg hr => MinS.own (W := W) (W' := W') (l := pre.map fun z : {x : Nat // x < n} => z.1) hs hg hr)
    (fun _ _ _ _ _ hs _ _ => hs)
    J0.out
    (fun x => { tmps := #[.int .u64 p, .agg #[.int .i64 (n : Int), .int .i64 (n : Int), .slice a xs.length cap], .pointer (some ⟨H, 0, none⟩), .pointer (some ⟨H + 1, 0, none⟩), .pointer (some ⟨H + 1 + 1, 0, none⟩), .pointer (some ⟨H + 1 + 1 + 1, 0, none⟩), .pointer (some ⟨T + 1, 0, none⟩), .pointer (some ⟨S, 0, none⟩), .int .i64 0, pieceV bo fo n x.1, undef, undef, .int .u64 p, .agg #[.int .i64 (n : Int), .int .i64 (n : Int), .slice a xs.length cap], .bool true, .bool false, .slice (some ⟨T, 0, none⟩) 1 1, .tuple #[.agg #[.int .i64 (n : Int), .int .i64 (n : Int), .slice (some ⟨bo, fo, none⟩) (n * n) co], .int .i64 0], .pointer (some ⟨H + 1, 0, none⟩), .int .i64 (n : Int), .tuple #[.agg #[.int .i64 (n : Int), .int .i64 (n : Int), .slice (some ⟨bo, fo, none⟩) (n * n) co], .int .i64 0], .agg #[.int .i64 (n : Int), .int .i64 (n : Int), .slice (some ⟨bo, fo, none⟩) (n * n) co], .int .i64 0, .pointer (some ⟨S, 2, none⟩), .slice (some ⟨bo, fo, none⟩) (n * n) co, .pointer (some ⟨S, 1, none⟩), .int .i64 (n : Int), .func (.func 102) #[] #[.pointer (some ⟨S + 1, 0, none⟩), .pointer (some ⟨S + 1 + 1, 0, none⟩)], pieceV bo fo n x.1, undef, undef, undef, undef, undef, undef, undef, undef, undef, undef, undef, undef, undef, undef, undef, undef, undef, undef, undef, undef, undef], defers := [] }) ?assign ?body ?done ?stop
  case assign =>
    intro l x W K hK
    gi_wp2
    exact hK
  case body =>
    rintro l pre ⟨x, hx⟩ W ⟨aL, cL, L, q1, q2, q3, q4⟩ hlt
    dsimp only
    have hpc : Ints .u64 W (pieceV bo fo n x) (unitL n x) := by
      refine ⟨some ⟨bo, fo + x * n, none⟩, n, by rw [unitL, tab_len]; rfl, by rw [unitL, tab_len]; omega, by omega, fun _ => ⟨bo, fo + x * n, rfl, ?_, fun j hj => ?_⟩⟩
      · have := q4.size; omega
      · rw [unitL, tab_len] at hj
        rw [grown_cell q4 (by omega) hboT.out, Nat.add_assoc, hHO.out _ (at_lt hx hj), ← row_unit hx, rowOf, tab_get _ hj]
    have hE5 : Ext w1 W := grown_ext q4 X15.out (by have := HTT.out; omega)
    obtain ⟨gx, hgx⟩ := OwnL.any (HF.out.has hp2.1) n xs (unitL n x)
    have hul : (unitL n x).length = n := tab_len _ _
    have hur : Rng p (unitL n x) := tab_rng fun k _ => by split <;> omega
    have CO := hid ((callsIn_wide (n := 4)).2 (krOf p n _ _ xs (unitL n x) gx W Hok.out HF.out (Hv.out.ext (X1.out.trans hE5)) hpc hul hur hgx))
    have hLl := q3.len (HF.out.has hp2.1)
    have hgl := hgx.len (HF.out.has hp2.1)
    have CL := hid fun (W' : World) (z : Value) (hW : Ext W W') (hz : Ints .u64 W' z gx) => (callsIn_wide (n := 4)).2 (pLcm_yes p _ z L gx W' Hok.out.hp HF.out (q2.ext hW) hz q3.isp hgx.isp (by omega) (by omega))
    have Q1 := hid q1; have Q3 := hid q3; have Q4 := hid q4; have HGX := hid hgx
    have e0 := (B1.out.ext hE5).cell 0; have e1 := (B2.out.ext hE5).cell 0; have e2 := (B2.out.ext hE5).cell 1; have e3 := (B2.out.ext hE5).cell 2
    have BB1 := hid (B1.out.ext hE5)
    unfold matV pieceV at CO
    unfold pieceV
    clear q1 q2 q3 q4 hpc hgx hul hur
    gi_wp2_with fail
    refine (CallsIn.inRound l CO.out).mono ?_
    rintro _ w6 ⟨z6, rfl, hz6, x6⟩
    have HZ6 := hid hz6
    obtain ⟨a6, c6, rfl, -, -, -⟩ := hz6
    have B6 := hid (Q1.out.ext x6)
    have d0 := (BB1.out.ext x6).cell 0; have d1 := B6.out.cell 0
    clear e0 e1 e2 e3
    gi_wp2_with fail
    refine (CallsIn.inRound l (CL.out w6 _ x6 HZ6.out)).mono ?_
    rintro _ w7 ⟨z7, L7, rfl, hz7, hp7, -, h7, x7⟩
    have HZ7 := hid hz7; have HP7 := hid hp7; have H7 := hid h7
    obtain ⟨a7, c7, rfl, -, -, -⟩ := hz7
    have B7 := hid (B6.out.ext x7)
    have f7 := B7.out.frozen 0; have g7 := B7.out.cell 0
    clear d0 d1 hp7 h7
    gi_wp2_with fail
    clear f7 g7
    obtain ⟨l0, l1, G7, c8, hG7, heq⟩ := H7.out Q3.out.ne HGX.out.ne
    have hg7 : W.grownBy (w7.setCell ⟨T + 1, 0, none⟩ (.slice a7 L7.length c7)) (some (T + 1)) := ((x6.trans x7).grownBy _).trans (setCell_grown _ _ _)
    have hWs := Q4.out.size
    refine ⟨(ko_ext (x6.trans x7)).trans (KeepsOthers.setCell _ _ _), KeepsRow.grown hg7 (by omega) (by omega) (by omega) (by omega), a7, c7, L7, B7.out.set_ 0 _, HZ7.out.setOther (ints_off B7.out HZ7.out (List.length_pos_iff.2 l0)) 0 _, (Q3.out.lcm (HF.out.has hp2.1) HGX.out.unit HP7.out l0 l1 hG7 heq).congr fun v => ?_, Q4.out.trans hg7⟩
    rw [List.map_append, List.map_cons, List.map_nil]
    simp only [List.mem_append, List.mem_singleton]
    constructor
    · rintro (⟨y, hy, rfl⟩ | rfl)
      · exact ⟨y, .inl hy, rfl⟩
      · exact ⟨x, .inr rfl, rfl⟩
    · rintro ⟨y, hy | rfl, rfl⟩
      · exact .inl ⟨y, hy, rfl⟩
      · exact .inr rfl
  case done =>
    rintro D ys W hD hys ⟨aL, cL, L, q1, q2, q3, q4⟩ hK
    have hLh : L = h := (q3.congr (V' := fun v => ∃ i, i < n ∧ v = uniF i) fun v => by
      rw [show (ys.map fun z : {x : Nat // x < n} => z.1) = List.range n from hys]
      simp only [List.mem_range]).one hp2.1 HH.out
    subst hLh
    have hLp := List.length_pos_iff.2 q3.ne
    have hE5 : Ext w1 W := grown_ext q4 X15.out (by have := HTT.out; omega)
    have R3 := hid (B3.out.ext hE5); have R4 := hid (B4.out.ext hE5)
    have d1 := q1.cell 0; have d3 := R3.out.cell 0; have f3' := R3.out.frozen 0; have d4 := R4.out.cell 0; have f4' := R4.out.frozen 0
    have Q2 := hid q2
    have hWs := q4.size
    clear q1 q2 q3 hys
    gi_wp2_with fail
    clear d1 d3 f3' d4 f4'
    have D1 := (R3.out.set_ 0 (.slice aL L.length cL)).grown (setCell_grown _ ⟨H + 1 + 1 + 1, 0, none⟩ (.int .i64 0)) (by simp)
    have D2 := (R4.out.grown (setCell_grown W ⟨H + 1 + 1, 0, none⟩ (.slice aL L.length cL)) (by simp)).set_ 0 (.int .i64 0)
    have I1 := (Q2.out.setOther (ints_off R3.out Q2.out hLp) 0 (.slice aL L.length cL))
    have I2 := I1.setOther (ints_off2 (R4.out.grown (setCell_grown W ⟨H + 1 + 1, 0, none⟩ (.slice aL L.length cL)) (by simp)) (errno_off 0) I1 hLp) 0 (.int .i64 0)
    have ko : KeepsOthers W ((W.setCell ⟨H + 1 + 1, 0, none⟩ (.slice aL L.length cL)).setCell ⟨H + 1 + 1 + 1, 0, none⟩ (.int .i64 0)) := (KeepsOthers.setCell _ _ _).trans (KeepsOthers.setCell _ _ _)
    have hK9 := ko.same D _ hK rfl
    have hHH := HHH.out
    have hE9 : Ext w ((W.setCell ⟨H + 1 + 1, 0, none⟩ (.slice aL L.length cL)).setCell ⟨H + 1 + 1 + 1, 0, none⟩ (.int .i64 0)) := ((X1.out.trans hE5).setCell (by show w.heap.size ≤ H + 1 + 1; omega) _).setCell (by show w.heap.size ≤ H + 1 + 1 + 1; omega) _
    obtain ⟨w9, hw9⟩ : ∃ w9, ((W.setCell ⟨H + 1 + 1, 0, none⟩ (.slice aL L.length cL)).setCell ⟨H + 1 + 1 + 1, 0, none⟩ (.int .i64 0)) = w9 := ⟨_, rfl⟩
    rw [hw9] at D1 D2 I2 hK9 hE9 ⊢
    have hDa : D ≠ H + 1 + 1 := by omega
    have hDb : D ≠ H + 1 + 1 + 1 := by omega
    have D1' : Blk (w9.putObj D (.deferred none)) (H + 1 + 1) 24 #[.slice aL L.length cL] := (World.putObj_heap_other (fun e => hDa e.symm)).trans D1
    have D2' : Blk (w9.putObj D (.deferred none)) (H + 1 + 1 + 1) 31 #[.int .i64 0] := (World.putObj_heap_other (fun e => hDb e.symm)).trans D2
    refine ⟨by simp, .inl ⟨_, _, rfl, run_takeDeferred hK9, ?_⟩⟩
    refine ⟨_, results_cell_cell rfl _ _ (.slice aL L.length cL) (.int .i64 0) (H + 1 + 1) (H + 1 + 1 + 1) rfl (load_row D1') rfl (load_errno D2'), ?_⟩
    exact ⟨_, rfl, I2.grown (grownBy_putObj' w9 D _) (ints_not_def hK9 I2 hLp), hE9.grown (grownBy_putObj' w9 D _) (fun k e => by injection e with e; have : D = k := e; omega)⟩
  case stop =>
    rintro D c pre W _ _ h _
    exact h.elim
end Go.Proofs.YthomeenmcajmdaaGreatDoor
