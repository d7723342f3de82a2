/- What the texts Kr7, Kr9 show, in one text. -/
import Derived.Test.YtfpmcajndgkgeaaBun30
import Derived.Test.YtfpmcajndgkgeaaBun20
import Derived.Test.YtfpmcajndgkgeaaSv9
import Derived.Test.YtfpmcajndgkgeaaBun27
import Derived.Test.YtfpmcajndgkgeaaBun12
import Derived.Maps.AppendAt
import Derived.Deep.RegionHeld3
import Derived.Test.YtfpmcajndgkgeaaRound
/- Package krylov: Companion. -/
namespace Go.Proofs.Ytfpmcajndgkgeaa
open Go.RowKit Go.Maps

/-- a polynomial's companion -/
def compL (p : Int) (n : Nat) (f : List Int) : List Int := grid n n fun r k => if r = n - 1 then (0 - f.getD k 0) % p else if k = r + 1 then 1 else 0
theorem compL_len (p : Int) (n : Nat) (f : List Int) : (compL p n f).length = n * n := grid_len _ _ _
/-- may it have one? -/
def compB (p : Int) (f : List Int) : Bool := decide (2 ≤ f.length ∧ f.length ≤ 65) && (decide (lead f = 1) && rightPB p f)
theorem compB_of {p : Int} {f : List Int} (hx : U64s f) (h : compB p f = true) : ∃ n, f.length = n + 1 ∧ (1 ≤ n ∧ n ≤ 64) ∧ f.getD n 0 = 1 ∧ rightB p = true ∧ Pol p f := by
  unfold compB at h
  simp only [Bool.and_eq_true, decide_eq_true_eq] at h
  obtain ⟨h1, h2, h3⟩ := h
  obtain ⟨h4, h5, -⟩ := (rightPB_iff hx).1 h3
  refine ⟨f.length - 1, by omega, by omega, h2, h4, h5⟩

set_option maxRecDepth 100000 in
set_option maxHeartbeats 1000000 in
theorem krCompanion_no (p : Int) (vf : Value) (f : List Int) (w : World) (h0 : 0 ≤ p) (h1 : p ≤ 18446744073709551615) (hfv : Ints .u64 w vf f) (hfx : U64s f) (hl : f.length ≤ 1000000) (h : compB p f = false) :
    Calls Try.prog 30 #[.int .u64 p, vf] w (Ret noMat w) := by
  have C1 := hid fun (W : World) (hW : Ext w W) => polRight_any p vf f W h0 h1 (hfv.ext hW) hfx
  obtain ⟨P, hP⟩ : ∃ P, rightPB p f = P := ⟨_, rfl⟩
  unfold compB lead at h
  rw [hP] at C1 h
  obtain ⟨a, cap, rfl, k1, k2, k3⟩ := hfv
  obtain ⟨N, hN⟩ : ∃ N, f.length = N := ⟨_, rfl⟩
  rw [hN] at C1 k1 k3 hl h
  rw [hN]
  have K3 := hid k3
  clear hP hfx k3 hN
  have hA := hid (Blk.new w 25 #[.int .i64 0, .int .i64 0, .slice none 0 0])
  have r0 := hA.out.cell 0; have r1 := hA.out.cell 1; have r2 := hA.out.cell 2; have f0 := hA.out.frozen 0; have f1 := hA.out.frozen 1; have f2 := hA.out.frozen 2
  have fin := hA.out.cell 0
  clear fin
  by_cases e1 : N < 2
  · have hw0 : IntKind.i64.wrap ((N : Int) - 1) = (N : Int) - 1 := by rw [IntKind.wrap_i64]; omega
    have t1 : decide ((N : Int) - 1 < 1) = true := decide_eq_true (by omega)
    clear h C1
    go_enter Try.func30, Try.ntmps30
    go_wp2_with fail
    refine bodyPost_ret (results_cell_row_tmp rfl _ _ w.heap.size 25 _ (0, 0) _ rfl hA.out Try.underlying25 rfl (by kernel_rfl)) rfl ?_
    exact ⟨rfl, (by repeat (first | exact Ext.refl _ | assumption | refine Ext.drew ?_ | refine Ext.drewN ?_ _ | refine Ext.alloc ?_ _ | refine Ext.trans ?_ (by assumption)))⟩
  · obtain ⟨n, hn⟩ : ∃ n, N = n + 1 := ⟨N - 1, by omega⟩
    have hw0 : IntKind.i64.wrap ((N : Int) - 1) = (n : Int) := by rw [IntKind.wrap_i64]; omega
    have t1 : decide ((n : Int) < 1) = false := decide_eq_false (by omega)
    have t1' : decide (n < 1) = false := decide_eq_false (by omega)
    by_cases e2 : 64 < n
    · have t2 : decide ((64 : Int) < (n : Int)) = true := decide_eq_true (by omega)
      have t2' : decide (64 < n) = true := decide_eq_true (by omega)
      clear h C1 hn
      go_enter Try.func30, Try.ntmps30
      go_wp2_with fail
      refine bodyPost_ret (results_cell_row_tmp rfl _ _ w.heap.size 25 _ (0, 0) _ rfl hA.out Try.underlying25 rfl (by kernel_rfl)) rfl ?_
      exact ⟨rfl, (by repeat (first | exact Ext.refl _ | assumption | refine Ext.drew ?_ | refine Ext.drewN ?_ _ | refine Ext.alloc ?_ _ | refine Ext.trans ?_ (by assumption)))⟩
    · have t2 : decide ((64 : Int) < (n : Int)) = false := decide_eq_false (by omega)
      have t2' : decide (64 < n) = false := decide_eq_false (by omega)
      obtain ⟨b, off, rfl, hb, hc⟩ := K3.out (by omega)
      have hcn := hc n (by omega)
      rw [decide_eq_true (by omega), Bool.true_and, show N - 1 = n by omega] at h
      have hb1 : (0 : Int) ≤ (n : Int) := by omega
      have hb2 : (n : Int) < (N : Int) := by omega
      have hb3 : n < N := by omega
      obtain ⟨x, hx⟩ : ∃ x, f.getD n 0 = x := ⟨_, rfl⟩
      rw [hx] at hcn h
      clear hc K3 hx hn e1 e2
      by_cases e3 : x = 1
      · rw [decide_eq_true e3, Bool.true_and] at h
        subst h
        have t3 : (x != 1) = false := by simp [e3]
        have hcn2 : (w.alloc (.cells #[.int .i64 0, .int .i64 0, .slice none 0 0] 25)).cell? ⟨b, off + n, none⟩ = some (.int .u64 x) := (((Ext.refl w).alloc _).cells _ _ hb).trans hcn
        clear e3
        go_enter Try.func30, Try.ntmps30
        go_wp2_with (go_at_call 41; refine (C1.out _ (by repeat (first | exact Ext.refl _ | assumption | refine Ext.drew ?_ | refine Ext.drewN ?_ _ | refine Ext.alloc ?_ _ | refine Ext.trans ?_ (by assumption)))).mono ?_; rintro _ _ ⟨rfl, rfl⟩)
        refine bodyPost_ret (results_cell_row_tmp rfl _ _ w.heap.size 25 _ (0, 0) _ rfl hA.out Try.underlying25 rfl (by kernel_rfl)) rfl ?_
        exact ⟨rfl, (by repeat (first | exact Ext.refl _ | assumption | refine Ext.drew ?_ | refine Ext.drewN ?_ _ | refine Ext.alloc ?_ _ | refine Ext.trans ?_ (by assumption)))⟩
      · have t3 : (x != 1) = true := by simp [e3]
        clear h C1 e3
        go_enter Try.func30, Try.ntmps30
        go_wp2_with fail
        refine bodyPost_ret (results_cell_row_tmp rfl _ _ w.heap.size 25 _ (0, 0) _ rfl hA.out Try.underlying25 rfl (by kernel_rfl)) rfl ?_
        exact ⟨rfl, (by repeat (first | exact Ext.refl _ | assumption | refine Ext.drew ?_ | refine Ext.drewN ?_ _ | refine Ext.alloc ?_ _ | refine Ext.trans ?_ (by assumption)))⟩
end Go.Proofs.Ytfpmcajndgkgeaa
/- Package krylov: Companion, of a polynomial that has one. -/
namespace Go.Proofs.Ytfpmcajndgkgeaa
open Go.RowKit Go.Maps

/-- the first rows of a companion, one behind the other -/
def rowC (n i : Nat) : List Int := (List.replicate n (0 : Int)).set (i + 1) 1
theorem rowC_len (n i : Nat) : (rowC n i).length = n := by simp [rowC]
def rowsC (n k : Nat) : List Int := ((List.range k).map (rowC n)).flatten
theorem rowsC_len (n : Nat) : ∀ k, (rowsC n k).length = k * n
  | 0 => by simp [rowsC]
  | k + 1 => by
    have h := rowsC_len n k
    unfold rowsC at h ⊢
    rw [List.range_succ, List.map_append, List.flatten_append, List.length_append, h, Nat.add_mul]
    simp [rowC_len]
theorem rowsC_succ (n k : Nat) : rowsC n (k + 1) = rowsC n k ++ rowC n k := by
  unfold rowsC
  rw [List.range_succ, List.map_append, List.flatten_append]
  simp
theorem rowsC_get {n : Nat} : ∀ {k i j : Nat}, i < k → j < n → (rowsC n k).getD (i * n + j) 0 = (rowC n i).getD j 0
  | 0, _, _, h, _ => absurd h (Nat.not_lt_zero _)
  | k + 1, i, j, h, hj => by
    rw [rowsC_succ]
    rcases Nat.lt_or_ge i k with c | c
    · have := at_lt c hj
      simp only [List.getD]
      rw [List.getElem?_append_left (by rw [rowsC_len]; exact this)]
      exact rowsC_get c hj
    · obtain rfl : i = k := by omega
      simp only [List.getD]
      rw [List.getElem?_append_right (by rw [rowsC_len]; omega), rowsC_len, Nat.add_sub_cancel_left]
theorem comp_rows {p : Int} {n m : Nat} {f : List Int} (hm : n = m + 1) (hf : n ≤ f.length) : rowsC n m ++ negL p (f.take n) = compL p n f := by
  have hnl : (negL p (f.take n)).length = n := by rw [negL_len, List.length_take]; omega
  refine grid_of (by rw [List.length_append, rowsC_len, hnl, hm, Nat.add_mul, Nat.one_mul]) fun i k hi hk => ?_
  rcases Nat.lt_or_ge i m with c | c
  · have h1 := at_lt c hk
    have e : (rowsC n m ++ negL p (f.take n)).getD (i * n + k) 0 = (rowsC n m).getD (i * n + k) 0 := by
      simp only [List.getD]
      rw [List.getElem?_append_left (by rw [rowsC_len]; exact h1)]
    rw [e, rowsC_get c hk, if_neg (by omega), rowC, set_get _ _ _ _ (by rw [List.length_replicate]; omega), replicate_get]
    by_cases e2 : k = i + 1
    · rw [if_pos e2, if_pos e2.symm]
    · rw [if_neg e2, if_neg (fun h => e2 h.symm)]
  · obtain rfl : i = m := by omega
    have e : (rowsC n i ++ negL p (f.take n)).getD (i * n + k) 0 = (negL p (f.take n)).getD k 0 := by
      simp only [List.getD]
      rw [List.getElem?_append_right (by rw [rowsC_len]; omega), rowsC_len, Nat.add_sub_cancel_left]
    rw [e, if_pos (by omega)]
    unfold negL
    rw [tab_get _ (by rw [List.length_take]; omega)]
    simp [List.getD, hk]

set_option maxRecDepth 100000 in
set_option maxHeartbeats 2000000 in
theorem krCompanion (p : Int) (n : Nat) (vf : Value) (f : List Int) (w : World) (hp : rightB p = true) (hfv : Ints .u64 w vf f) (hf : Pol p f) (hl : f.length = n + 1) (hn : 1 ≤ n ∧ n ≤ 64) (hm : f.getD n 0 = 1) :
    Calls Try.prog 30 #[.int .u64 p, vf] w (RetN n n (compL p n f) w) := by
  have hp2 := rightB_true hp
  have C1 := hid fun (W : World) (hW : Ext w W) => polRight_yes p vf f W hp (hfv.ext hW) hf (by omega)
  have hft : (f.take n).length = n := by rw [List.length_take]; omega
  have C2 := hid fun (W : World) (z : Value) (hz : Ints .u64 W z (f.take n)) => krFrom0 p z (f.take n) W hp hz (hf.rng.take n) (by rw [hft]; exact hn.2)
  rw [hft] at C2
  have Hfv := hid hfv
  obtain ⟨a, cap, rfl, k1, k2, k3⟩ := hfv
  obtain ⟨N, hN⟩ : ∃ N, f.length = N := ⟨_, rfl⟩
  rw [hN] at C1 k1 k3 hl Hfv
  rw [hN]
  obtain ⟨b, off, rfl, hb, hc⟩ := k3 (by omega)
  have hcn := hc n (by omega)
  rw [hm] at hcn
  have HTK := hid fun (W : World) (hW : Ext w W) => (show Ints .u64 W (.slice (some ⟨b, off, none⟩) n cap) (f.take n) from by
    have h1 := (Hfv.out.ext hW)
    rw [← hN] at h1
    have h2 := h1.take' n (by omega)
    exact h2)
  obtain ⟨m, hnm⟩ : ∃ m, n = m + 1 := ⟨n - 1, by omega⟩
  have HCR := hid (comp_rows (p := p) (f := f) hnm (by omega))
  obtain ⟨NL, hNL⟩ : ∃ NL, negL p (f.take n) = NL := ⟨_, rfl⟩
  have hNLl : NL.length = n := by rw [← hNL, negL_len, hft]
  rw [hNL] at C2 HCR
  obtain ⟨CL, hCL⟩ : ∃ CL, compL p n f = CL := ⟨_, rfl⟩
  have hCLl : CL.length = n * n := by rw [← hCL, compL_len]
  rw [hCL] at HCR ⊢
  obtain ⟨i0, hi, hz0, hz1, hz2⟩ := info_parts info_u64p
  have hw0 : IntKind.i64.wrap ((N : Int) - 1) = (n : Int) := by rw [IntKind.wrap_i64]; omega
  have hw1 : IntKind.i64.wrap ((n : Int) - 1) = (m : Int) := by rw [IntKind.wrap_i64]; omega
  have t1 : decide ((n : Int) < 1) = false := decide_eq_false (by omega)
  have t1' : decide (n < 1) = false := decide_eq_false (by omega)
  have t2 : decide ((64 : Int) < (n : Int)) = false := decide_eq_false (by omega)
  have t2' : decide (64 < n) = false := decide_eq_false (by omega)
  have hb1 : (0 : Int) ≤ (n : Int) := by omega
  have hb2 : (n : Int) < (N : Int) := by omega
  have hb3 : n < N := by omega
  have hb4 : n ≤ cap := by omega
  have HNM := hid hnm; have HL := hid hl; have HNLl := hid hNLl; have HCLl := hid hCLl
  have hmk := make_ints (P := Try.prog) 23 22 .u64 8 (by omega) (by kernel_rfl) (by kernel_rfl) n n (Nat.le_refl _) (by omega)
  have hb2x := hid (boxes2 w 25 25 #[.int .i64 0, .int .i64 0, .slice none 0 0] #[.int .i64 (n : Int), .int .i64 (n : Int), .slice none 0 0])
  clear k3 hc hm hl hnm hNL hCL hNLl hCLl hf hft hp hN
  go_enter Try.func30, Try.ntmps30
  go_wp2_with (go_at_call 41; refine (C1.out _ (by repeat (first | exact Ext.refl _ | assumption | refine Ext.drew ?_ | refine Ext.drewN ?_ _ | refine Ext.alloc ?_ _ | refine Ext.trans ?_ (by assumption)))).mono ?_; rintro _ _ ⟨rfl, rfl⟩)
  obtain ⟨H, hH⟩ : ∃ H, w.heap.size = H := ⟨_, rfl⟩
  obtain ⟨wL, hwL⟩ : ∃ wL, (w.alloc (.cells #[.int .i64 0, .int .i64 0, .slice none 0 0] 25)).alloc (.cells #[.int .i64 (n : Int), .int .i64 (n : Int), .slice none 0 0] 25) = wL := ⟨_, rfl⟩
  have hsL : wL.heap.size = H + 1 + 1 := by rw [← hwL, ← hH]; simp
  rw [hH, hwL] at hb2x
  have xL : Ext w wL := hb2x.out.2.2
  have I0 := hid (show InvS wL wL (H + 1) n (.slice none 0 0) (rowsC n 0) from ⟨hb2x.out.2.1, World.ownsRow_nil _ _ _ _, (Ext.refl wL).grownBy _, by omega⟩)
  rw [hH, hwL]
  have HH := hid hH
  clear hwL hH
  go_loopw [38] (fun iv wr => ∃ (k : Nat) (tv : Value), iv = .int .i64 k ∧ k ≤ m ∧ Hid (InvS wL wr (H + 1) n tv (rowsC n k))) (fun iv _ => m - (intOf iv).toNat)
  case atStart => exact ⟨0, _, rfl, Nat.zero_le _, I0⟩
  case round =>
    obtain ⟨k, tv, rfl, hk, S⟩ := hrel
    clear I0
    have hnm := HNM.out
    have hwr := S.out.ext.size
    by_cases hlt : k < m
    · have hg := made_get (n := n) (i := k + 1) (by omega)
      have hw2 : IntKind.i64.wrap ((k : Int) + 1) = (k : Int) + 1 := by rw [IntKind.wrap_i64]; omega
      have hw3 : (k : Int) + 1 < (n : Int) := by omega
      have hrl := rowsC_len n k
      have hrb : (rowsC n k).length ≤ 4096 := by rw [hrl]; exact Nat.mul_le_mul (show k ≤ 64 by omega) hn.2
      obtain ⟨L, eL⟩ : ∃ L, rowsC n k = L := ⟨_, rfl⟩
      have ES := hid (rowsC_succ n k)
      rw [eL] at S ES hrb
      obtain ⟨q, eq⟩ : ∃ q, L.length = q := ⟨_, rfl⟩
      have hrow := S.out.row
      rw [eq] at hrow hrb
      obtain ⟨at', ct', rfl, -⟩ := own_slice hrow
      have HROW := hid hrow; have EQ := hid eq
      obtain ⟨wm, hwm⟩ : ∃ wm, wr.alloc (.cells ((madeCells #[Value.int .u64 0] n).setIfInBounds (k + 1) (.int .u64 1)) 22) = wm := ⟨_, rfl⟩
      have xm : Ext wr wm := hwm ▸ (Ext.refl wr).alloc _
      have hrm : WRow wm wr.heap.size 0 (rowC n k) := hwm ▸ WRow.made1 rfl
      have Sm := hid (S.out.ext' xm)
      have c2 := Sm.out.box.cell 2
      rw [← hwm] at c2
      have hcs : ∀ j u, ((rowC n k).map (Value.int .u64))[j]? = some u → wm.cell? ((⟨wr.heap.size, 0, none⟩ : Addr).add j) = some u := fun j u hu => by
        rw [List.getElem?_map] at hu
        obtain ⟨z, hz, rfl⟩ := Option.map_eq_some_iff.1 hu
        obtain ⟨hj, e⟩ := List.getElem?_eq_some_iff.1 hz
        have := (hrm.2 j hj).1
        rw [List.getD, hz, Option.getD_some] at this
        rw [show ((⟨wr.heap.size, 0, none⟩ : Addr).add j) = ⟨wr.heap.size, 0 + j, none⟩ from Go.WideShapes.add_plain _ _ _]
        exact this
      have hnc : ∀ u ∈ (rowC n k).map (Value.int .u64), u.oneCell' = true := fun u hu => by
        obtain ⟨z, _, rfl⟩ := List.mem_map.1 hu
        rfl
      have hnl : ((rowC n k).map (Value.int .u64)).length = n * 1 := by rw [List.length_map, rowC_len, Nat.mul_one]
      have HCS := hid hcs; have HNC := hid hnc; have HNLL := hid hnl; have XM := hid xm; have HWM := hid hwm
      have hsm := xm.size
      clear hcs hnc hnl hrm eL eq hrow hrl hwm xm hnm
      go_wp2_with (first
        | (at_builtin
           rw [HWM.out]
           refine wpList_append_own _ rfl _ _ 23 rfl wL.heap.size 22 i0 (.int .u64 0) 1 8 Try.underlying23 hi hz0 hz1 hz2 rfl (by decide) (.slice at' q ct') q (L.map (Value.int .u64)) rfl (ownsRow_ext HROW.out XM.out) ⟨wr.heap.size, 0, none⟩ n n ((rowC n k).map (Value.int .u64)) rfl HNLL.out HCS.out HNC.out (by simp only [maxLen]; omega) (by omega) (by omega) ?_
           intro v6 w6 hown6 hgrow6 hnil6
           clear hnil6 c2
           have ne6 : (Value.slice at' q ct').ownBlock ≠ some (H + 1) := fun e => by have := (HROW.out.lt (H + 1) e).1; omega
           have hb6 := Sm.out.box.grown hgrow6 ne6
           have t6 := hb6.cell 2
           have f6 := hb6.frozen 2
           have HO6 := hid hown6
           obtain ⟨a6, c6, rfl, -⟩ := own_slice hown6
           clear hown6 hb6)
        | fail)
      have S6 := Sm.out.put (x := rowC n k) (by rw [EQ.out, rowC_len]; exact HO6.out) hgrow6
      rw [← ES.out] at S6
      go_roundw
      case rel => exact ⟨k + 1, _, by go_num, by omega, hid S6⟩
      case measure => simp [intOf]; omega
    · obtain rfl : m = k := by omega
      have hrl := rowsC_len n m
      have hrb : (rowsC n m).length ≤ 4096 := by rw [hrl]; exact Nat.mul_le_mul (show m ≤ 64 by omega) hn.2
      obtain ⟨L, eL⟩ : ∃ L, rowsC n m = L := ⟨_, rfl⟩
      rw [eL] at S hrb HCR
      obtain ⟨q, eq⟩ : ∃ q, L.length = q := ⟨_, rfl⟩
      have hrow := S.out.row
      rw [eq] at hrow hrb
      obtain ⟨at', ct', rfl, -⟩ := own_slice hrow
      have HROW := hid hrow; have EQ := hid eq
      have hmx : Try.prog.follows .mixedOrders = true := by kernel_rfl
      have HW := hid HH.out
      have XW := hid (grown_ext S.out.ext xL (by have := HH.out; omega))
      have hq1 : q + n = n * n := by
        have h1 := congrArg List.length HCR.out
        rw [List.length_append, eq, HNLl.out, HCLl.out] at h1
        exact h1
      have HQ := hid hq1
      clear hrow hrl eL eq hnm hq1
      go_wp2_with fail
      refine wp_region_held_drew (S := fun W' => Ext w W') hmx XW.out.drew (fun hHeld => ?_)
      have X0 : Ext wr wr.drew := (Ext.refl wr).drew
      refine wpAnyH_take (i := 0) (v := .pointer (some ⟨H + 1, 2, none⟩)) rfl (by kernel_rfl) (by kernel_rfl) (by kernel_rfl) (fun _ _ _ h => h) (Or.inl ⟨by rfl, ?_⟩) hHeld ?_
      · intro W' hSw
        go_simp
      refine wpAnyH_take (i := 2) (v := .int .u64 p) rfl (by kernel_rfl) (by kernel_rfl) (by kernel_rfl) (fun _ _ _ h => h) (Or.inl ⟨by rfl, ?_⟩) hHeld ?_
      · intro W' hSw
        go_simp
      refine wpAnyH_take (i := 3) (v := .slice (some ⟨b, off, none⟩) N cap) rfl (by kernel_rfl) (by kernel_rfl) (by kernel_rfl) (fun _ _ _ h => h) (Or.inl ⟨by rfl, ?_⟩) hHeld ?_
      · intro W' hSw
        go_simp
      refine wpAnyH_take (i := 4) (v := .int .i64 (n : Int)) rfl (by kernel_rfl) (by kernel_rfl) (by kernel_rfl) (fun _ _ _ h => h) (Or.inl ⟨by rfl, ?_⟩) hHeld ?_
      · intro W' hSw
        go_simp
      refine wpAnyH_take (i := 5) (v := .slice (some ⟨b, off, none⟩) n cap) rfl (by kernel_rfl) (by kernel_rfl) (by kernel_rfl) (fun _ _ _ h => h) (Or.inl ⟨by rfl, ?_⟩) hHeld ?_
      · intro W' hSw
        go_simp
      refine wpAnyH_ready (rs := [1, 6]) (by kernel_rfl) (by simp) ?_
      refine AllReadyH.cons rfl (fun K hK => ?_) ?_
      · have o2 := (S.out.box.ext X0).cell 2
        go_simp
        clear o2
        refine hK.out _ _ hHeld (fun hHeld => ?_)
        clear hK K
        refine held_step 6 (by kernel_rfl) rfl (fun K hK => ?_)
        go_simp
        go_wp2_with fail
        refine (C2.out _ _ (HTK.out _ (XW.out.trans X0))).mono ?_
        rintro _ w5 ⟨g5, rfl, o5, x5⟩
        have O5 := hid o5
        have X5 : Ext wr w5 := X0.trans x5
        clear o5
        go_wp2_with fail
        refine hK.out _ _ (XW.out.trans X5) (fun hHeld => ?_)
        clear hK K
        refine held_step 7 (by kernel_rfl) rfl (fun K hK => ?_)
        have S5 := hid (S.out.ext' X5)
        have hs5 := X5.size
        obtain ⟨a5, c5', e5, -, -, -, hcs⟩ := own_slice O5.out
        injection e5 with e5a e5b e5c
        clear e5b e5c
        subst e5a
        obtain ⟨g5', e6, -, -, hcs⟩ := hcs (by omega)
        injection e6 with e6
        injection e6 with e6a
        subst e6a
        have hnw : ∀ j u, (NL.map (Value.int .u64))[j]? = some u → w5.cell? ((⟨g5, 0, none⟩ : Addr).add j) = some u := fun j u hu => by
          obtain ⟨hj, e⟩ := List.getElem?_eq_some_iff.1 hu
          rw [List.length_map, HNLl.out] at hj
          have := hcs j hj
          rw [List.getD, hu, Option.getD_some] at this
          rw [show ((⟨g5, 0, none⟩ : Addr).add j) = ⟨g5, 0 + j, none⟩ from Go.WideShapes.add_plain _ _ _, Nat.zero_add]
          exact this
        have hnc : ∀ u ∈ NL.map (Value.int .u64), u.oneCell' = true := fun u hu => by
          obtain ⟨z, _, rfl⟩ := List.mem_map.1 hu
          rfl
        refine step_append_at _ rfl (.tmp 54) (.tmp 59) 23 rfl wL.heap.size 22 i0 (.int .u64 0) 1 8 Try.underlying23 hi hz0 hz1 hz2 rfl (by decide) (.slice at' q ct') q (L.map (Value.int .u64)) (by simp [Act.eval]) (ownsRow_ext HROW.out X5) ⟨g5, 0, none⟩ n n (NL.map (Value.int .u64)) (by simp [Act.eval]) (by rw [List.length_map, HNLl.out, Nat.mul_one]) hnw hnc (by simp only [maxLen]; omega) (by omega) (by omega) ?_
        intro v6 w6 hown6 hgrow6 hat6
        clear hnw hnc hcs hat6
        have ne6 : (Value.slice at' q ct').ownBlock ≠ some (H + 1) := fun e => by have := (HROW.out.lt (H + 1) e).1; omega
        have HB6 := hid (S5.out.box.grown hgrow6 ne6)
        have HG6 := hid hgrow6
        have hw6 : Ext w w6 := (XW.out.trans X5).grown hgrow6 (fun k e => by have := (HROW.out.lt k e).1; have := xL.size; omega)
        have HO6 := hid hown6
        obtain ⟨a6, c6, rfl, -⟩ := own_slice hown6
        clear hown6 hgrow6
        refine hK.out _ _ hw6 (fun hHeld => ?_)
        clear hK K
        refine wpAnyH_take (i := 8) (v := .pointer (some ⟨H + 1, 2, none⟩)) rfl (by kernel_rfl) (by kernel_rfl) (by kernel_rfl) (fun _ _ _ h => h) (Or.inl ⟨by rfl, ?_⟩) hHeld ?_
        · intro W' hSw
          go_simp
        refine held_step 9 (by kernel_rfl) rfl (fun K hK => ?_)
        have o6 := HB6.out.cell 2; have f6 := HB6.out.frozen 2
        go_simp
        have hhs := HH.out
        refine hK.out _ _ (hw6.setCell (p := ⟨H + 1, 2, none⟩) (by show w.heap.size ≤ H + 1; omega) (.slice a6 (q + n) c6)) (fun hHeld => ?_)
        clear hK K o6 f6
        refine wpAnyH_done (by kernel_rfl) ?_ _
        have S7 := S5.out.put (x := NL) (by rw [EQ.out, HNLl.out]; exact HO6.out) HG6.out
        rw [HCR.out] at S7
        have HS7 := hid S7
        have hrow7 := S7.row
        obtain ⟨w7, hw7⟩ : ∃ w7, w6.setCell ⟨H + 1, 2, none⟩ (.slice a6 (q + n) c6) = w7 := ⟨_, rfl⟩
        rw [hw7] at HS7
        have R7 := hid ((hb2x.out.1).grown HS7.out.ext (fun e => by injection e with e; have : H + 1 = H := e; omega))
        have X7 := hid (grown_ext HS7.out.ext xL (by have := HH.out; omega))
        rw [hw7]
        have s0 := HS7.out.box.cell 0; have s1 := HS7.out.box.cell 1; have s2 := HS7.out.box.cell 2
        have r0 := R7.out.cell 0; have r1 := R7.out.cell 1; have r2 := R7.out.cell 2; have f0 := R7.out.frozen 0; have f1 := R7.out.frozen 1; have f2 := R7.out.frozen 2
        clear S7 hrow7 hw7
        go_wp2_with fail
        clear s0 s1 s2 r0 r1 r2 f0 f1 f2
        have hF := ((R7.out.set_ 0 (.int .i64 (n : Int))).set_ 1 (.int .i64 (n : Int))).set_ 2 (.slice a6 (q + n) c6)
        have hI := own_set3 HS7.out.row R7.out (.int .i64 (n : Int)) (.int .i64 (n : Int)) (.slice a6 (q + n) c6)
        have hE := ((X7.out.setCell (p := ⟨H, 0, none⟩) (by show w.heap.size ≤ H; omega) (.int .i64 (n : Int))).setCell (p := ⟨H, 1, none⟩) (by show w.heap.size ≤ H; omega) (.int .i64 (n : Int))).setCell (p := ⟨H, 2, none⟩) (by show w.heap.size ≤ H; omega) (.slice a6 (q + n) c6)
        refine bodyPost_ret (results_cell_row_tmp rfl _ _ H 25 _ (0, 0) _ rfl hF Try.underlying25 rfl (by kernel_rfl)) rfl ?_
        exact ⟨_, rfl, hI, hE⟩
      refine AllReadyH.cons rfl (fun K hK => ?_) AllReadyH.nil
      · skip
        go_simp
        go_wp2_with fail
        refine (C2.out _ _ (HTK.out _ (XW.out.trans X0))).mono ?_
        rintro _ w5 ⟨g5, rfl, o5, x5⟩
        have O5 := hid o5
        have X5 : Ext wr w5 := X0.trans x5
        clear o5
        go_wp2_with fail
        refine hK.out _ _ (XW.out.trans X5) (fun hHeld => ?_)
        clear hK K
        refine held_step 1 (by kernel_rfl) rfl (fun K hK => ?_)
        have o2 := (S.out.box.ext X5).cell 2
        go_simp
        clear o2
        refine hK.out _ _ hHeld (fun hHeld => ?_)
        clear hK K
        refine held_step 7 (by kernel_rfl) rfl (fun K hK => ?_)
        have S5 := hid (S.out.ext' X5)
        have hs5 := X5.size
        obtain ⟨a5, c5', e5, -, -, -, hcs⟩ := own_slice O5.out
        injection e5 with e5a e5b e5c
        clear e5b e5c
        subst e5a
        obtain ⟨g5', e6, -, -, hcs⟩ := hcs (by omega)
        injection e6 with e6
        injection e6 with e6a
        subst e6a
        have hnw : ∀ j u, (NL.map (Value.int .u64))[j]? = some u → w5.cell? ((⟨g5, 0, none⟩ : Addr).add j) = some u := fun j u hu => by
          obtain ⟨hj, e⟩ := List.getElem?_eq_some_iff.1 hu
          rw [List.length_map, HNLl.out] at hj
          have := hcs j hj
          rw [List.getD, hu, Option.getD_some] at this
          rw [show ((⟨g5, 0, none⟩ : Addr).add j) = ⟨g5, 0 + j, none⟩ from Go.WideShapes.add_plain _ _ _, Nat.zero_add]
          exact this
        have hnc : ∀ u ∈ NL.map (Value.int .u64), u.oneCell' = true := fun u hu => by
          obtain ⟨z, _, rfl⟩ := List.mem_map.1 hu
          rfl
        refine step_append_at _ rfl (.tmp 54) (.tmp 59) 23 rfl wL.heap.size 22 i0 (.int .u64 0) 1 8 Try.underlying23 hi hz0 hz1 hz2 rfl (by decide) (.slice at' q ct') q (L.map (Value.int .u64)) (by simp [Act.eval]) (ownsRow_ext HROW.out X5) ⟨g5, 0, none⟩ n n (NL.map (Value.int .u64)) (by simp [Act.eval]) (by rw [List.length_map, HNLl.out, Nat.mul_one]) hnw hnc (by simp only [maxLen]; omega) (by omega) (by omega) ?_
        intro v6 w6 hown6 hgrow6 hat6
        clear hnw hnc hcs hat6
        have ne6 : (Value.slice at' q ct').ownBlock ≠ some (H + 1) := fun e => by have := (HROW.out.lt (H + 1) e).1; omega
        have HB6 := hid (S5.out.box.grown hgrow6 ne6)
        have HG6 := hid hgrow6
        have hw6 : Ext w w6 := (XW.out.trans X5).grown hgrow6 (fun k e => by have := (HROW.out.lt k e).1; have := xL.size; omega)
        have HO6 := hid hown6
        obtain ⟨a6, c6, rfl, -⟩ := own_slice hown6
        clear hown6 hgrow6
        refine hK.out _ _ hw6 (fun hHeld => ?_)
        clear hK K
        refine wpAnyH_take (i := 8) (v := .pointer (some ⟨H + 1, 2, none⟩)) rfl (by kernel_rfl) (by kernel_rfl) (by kernel_rfl) (fun _ _ _ h => h) (Or.inl ⟨by rfl, ?_⟩) hHeld ?_
        · intro W' hSw
          go_simp
        refine held_step 9 (by kernel_rfl) rfl (fun K hK => ?_)
        have o6 := HB6.out.cell 2; have f6 := HB6.out.frozen 2
        go_simp
        have hhs := HH.out
        refine hK.out _ _ (hw6.setCell (p := ⟨H + 1, 2, none⟩) (by show w.heap.size ≤ H + 1; omega) (.slice a6 (q + n) c6)) (fun hHeld => ?_)
        clear hK K o6 f6
        refine wpAnyH_done (by kernel_rfl) ?_ _
        have S7 := S5.out.put (x := NL) (by rw [EQ.out, HNLl.out]; exact HO6.out) HG6.out
        rw [HCR.out] at S7
        have HS7 := hid S7
        have hrow7 := S7.row
        obtain ⟨w7, hw7⟩ : ∃ w7, w6.setCell ⟨H + 1, 2, none⟩ (.slice a6 (q + n) c6) = w7 := ⟨_, rfl⟩
        rw [hw7] at HS7
        have R7 := hid ((hb2x.out.1).grown HS7.out.ext (fun e => by injection e with e; have : H + 1 = H := e; omega))
        have X7 := hid (grown_ext HS7.out.ext xL (by have := HH.out; omega))
        rw [hw7]
        have s0 := HS7.out.box.cell 0; have s1 := HS7.out.box.cell 1; have s2 := HS7.out.box.cell 2
        have r0 := R7.out.cell 0; have r1 := R7.out.cell 1; have r2 := R7.out.cell 2; have f0 := R7.out.frozen 0; have f1 := R7.out.frozen 1; have f2 := R7.out.frozen 2
        clear S7 hrow7 hw7
        go_wp2_with fail
        clear s0 s1 s2 r0 r1 r2 f0 f1 f2
        have hF := ((R7.out.set_ 0 (.int .i64 (n : Int))).set_ 1 (.int .i64 (n : Int))).set_ 2 (.slice a6 (q + n) c6)
        have hI := own_set3 HS7.out.row R7.out (.int .i64 (n : Int)) (.int .i64 (n : Int)) (.slice a6 (q + n) c6)
        have hE := ((X7.out.setCell (p := ⟨H, 0, none⟩) (by show w.heap.size ≤ H; omega) (.int .i64 (n : Int))).setCell (p := ⟨H, 1, none⟩) (by show w.heap.size ≤ H; omega) (.int .i64 (n : Int))).setCell (p := ⟨H, 2, none⟩) (by show w.heap.size ≤ H; omega) (.slice a6 (q + n) c6)
        refine bodyPost_ret (results_cell_row_tmp rfl _ _ H 25 _ (0, 0) _ rfl hF Try.underlying25 rfl (by kernel_rfl)) rfl ?_
        exact ⟨_, rfl, hI, hE⟩
end Go.Proofs.Ytfpmcajndgkgeaa
