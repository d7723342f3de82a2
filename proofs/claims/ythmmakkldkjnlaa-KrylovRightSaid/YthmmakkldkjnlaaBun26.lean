/- What the texts Kr7, Kr9, KrR2, KrR3, KrR5 show, in one text. -/
import Derived.Test.YthmmakkldkjnlaaBun16
import Derived.Test.YthmmakkldkjnlaaBun22
import Derived.Test.YthmmakkldkjnlaaSv9
import Derived.Test.YthmmakkldkjnlaaBun05
import Derived.Test.YthmmakkldkjnlaaBun17
import Derived.Maps.AppendAt
import Derived.Deep.RegionHeld3
import Derived.Test.YthmmakkldkjnlaaRound
import Derived.Test.YthmmakkldkjnlaaBun13
import Derived.Deep.RegionLaw
import Derived.Test.YthmmakkldkjnlaaKrR4
/- Package krylov: Companion. -/
namespace Go.Proofs.Ythmmakkldkjnlaa
open Go.RowKit Go.Maps

/-- a polynomial's companion -/
def compL (p : Int) (n : Nat) (f : List Int) : List Int := grid n n fun r k => if r = n - 1 then (0 - f.getD k 0) % p else if k = r + 1 then 1 else 0
theorem compL_len (p : Int) (n : Nat) (f : List Int) : (compL p n f).length = n * n := grid_len _ _ _
/-- may it have one? -/
def compB (p : Int) (f : List Int) : Bool := decide (2 ≤ f.length ∧ f.length ≤ 65) && (decide (lead f = 1) && rightPB p f)
theorem compB_of {p : Int} {f : List Int} (hx : U64s f) (h : compB p f = true) : ∃ n, f.length = n + 1 ∧ (1 ≤ n ∧ n ≤ 64) ∧ f.getD n 0 = 1 ∧ rightB p = true ∧ Pol p f := by
  unfold compB at h
  simp only [Bool.and_eq_true, decide_eq_true_eq] at h
  obtain ⟨h1, h2, h3⟩ := h
  obtain ⟨h4, h5, -⟩ := (rightPB_iff hx).1 h3
  refine ⟨f.length - 1, by omega, by omega, h2, h4, h5⟩

set_option maxRecDepth 100000 in
set_option maxHeartbeats 1000000 in
theorem krCompanion_no (p : Int) (vf : Value) (f : List Int) (w : World) (h0 : 0 ≤ p) (h1 : p ≤ 18446744073709551615) (hfv : Ints .u64 w vf f) (hfx : U64s f) (hl : f.length ≤ 1000000) (h : compB p f = false) :
    Calls Try.prog 10 #[.int .u64 p, vf] w (Ret noMat w) := by
  have C1 := hid fun (W : World) (hW : Ext w W) => polRight_any p vf f W h0 h1 (hfv.ext hW) hfx
  obtain ⟨P, hP⟩ : ∃ P, rightPB p f = P := ⟨_, rfl⟩
  unfold compB lead at h
  rw [hP] at C1 h
  obtain ⟨a, cap, rfl, k1, k2, k3⟩ := hfv
  obtain ⟨N, hN⟩ : ∃ N, f.length = N := ⟨_, rfl⟩
  rw [hN] at C1 k1 k3 hl h
  rw [hN]
  have K3 := hid k3
  clear hP hfx k3 hN
  have hA := hid (Blk.new w 25 #[.int .i64 0, .int .i64 0, .slice none 0 0])
  have r0 := hA.out.cell 0; have r1 := hA.out.cell 1; have r2 := hA.out.cell 2; have f0 := hA.out.frozen 0; have f1 := hA.out.frozen 1; have f2 := hA.out.frozen 2
  have fin := hA.out.cell 0
  clear fin
  by_cases e1 : N < 2
  · have hw0 : IntKind.i64.wrap ((N : Int) - 1) = (N : Int) - 1 := by rw [IntKind.wrap_i64]; omega
    have t1 : decide ((N : Int) - 1 < 1) = true := decide_eq_true (by omega)
    clear h C1
    go_enter Try.func10, Try.ntmps10
    go_wp2_with fail
    refine bodyPost_ret (results_cell_row_tmp rfl _ _ w.heap.size 25 _ (0, 0) _ rfl hA.out Try.underlying25 rfl (by kernel_rfl)) rfl ?_
    exact ⟨rfl, (by repeat (first | exact Ext.refl _ | assumption | refine Ext.drew ?_ | refine Ext.drewN ?_ _ | refine Ext.alloc ?_ _ | refine Ext.trans ?_ (by assumption)))⟩
  · obtain ⟨n, hn⟩ : ∃ n, N = n + 1 := ⟨N - 1, by omega⟩
    have hw0 : IntKind.i64.wrap ((N : Int) - 1) = (n : Int) := by rw [IntKind.wrap_i64]; omega
    have t1 : decide ((n : Int) < 1) = false := decide_eq_false (by omega)
    have t1' : decide (n < 1) = false := decide_eq_false (by omega)
    by_cases e2 : 64 < n
    · have t2 : decide ((64 : Int) < (n : Int)) = true := decide_eq_true (by omega)
      have t2' : decide (64 < n) = true := decide_eq_true (by omega)
      clear h C1 hn
      go_enter Try.func10, Try.ntmps10
      go_wp2_with fail
      refine bodyPost_ret (results_cell_row_tmp rfl _ _ w.heap.size 25 _ (0, 0) _ rfl hA.out Try.underlying25 rfl (by kernel_rfl)) rfl ?_
      exact ⟨rfl, (by repeat (first | exact Ext.refl _ | assumption | refine Ext.drew ?_ | refine Ext.drewN ?_ _ | refine Ext.alloc ?_ _ | refine Ext.trans ?_ (by assumption)))⟩
    · have t2 : decide ((64 : Int) < (n : Int)) = false := decide_eq_false (by omega)
      have t2' : decide (64 < n) = false := decide_eq_false (by omega)
      obtain ⟨b, off, rfl, hb, hc⟩ := K3.out (by omega)
      have hcn := hc n (by omega)
      rw [decide_eq_true (by omega), Bool.true_and, show N - 1 = n by omega] at h
      have hb1 : (0 : Int) ≤ (n : Int) := by omega
      have hb2 : (n : Int) < (N : Int) := by omega
      have hb3 : n < N := by omega
      obtain ⟨x, hx⟩ : ∃ x, f.getD n 0 = x := ⟨_, rfl⟩
      rw [hx] at hcn h
      clear hc K3 hx hn e1 e2
      by_cases e3 : x = 1
      · rw [decide_eq_true e3, Bool.true_and] at h
        subst h
        have t3 : (x != 1) = false := by simp [e3]
        have hcn2 : (w.alloc (.cells #[.int .i64 0, .int .i64 0, .slice none 0 0] 25)).cell? ⟨b, off + n, none⟩ = some (.int .u64 x) := (((Ext.refl w).alloc _).cells _ _ hb).trans hcn
        clear e3
        go_enter Try.func10, Try.ntmps10
        go_wp2_with (go_at_call 27; refine (C1.out _ (by repeat (first | exact Ext.refl _ | assumption | refine Ext.drew ?_ | refine Ext.drewN ?_ _ | refine Ext.alloc ?_ _ | refine Ext.trans ?_ (by assumption)))).mono ?_; rintro _ _ ⟨rfl, rfl⟩)
        refine bodyPost_ret (results_cell_row_tmp rfl _ _ w.heap.size 25 _ (0, 0) _ rfl hA.out Try.underlying25 rfl (by kernel_rfl)) rfl ?_
        exact ⟨rfl, (by repeat (first | exact Ext.refl _ | assumption | refine Ext.drew ?_ | refine Ext.drewN ?_ _ | refine Ext.alloc ?_ _ | refine Ext.trans ?_ (by assumption)))⟩
      · have t3 : (x != 1) = true := by simp [e3]
        clear h C1 e3
        go_enter Try.func10, Try.ntmps10
        go_wp2_with fail
        refine bodyPost_ret (results_cell_row_tmp rfl _ _ w.heap.size 25 _ (0, 0) _ rfl hA.out Try.underlying25 rfl (by kernel_rfl)) rfl ?_
        exact ⟨rfl, (by repeat (first | exact Ext.refl _ | assumption | refine Ext.drew ?_ | refine Ext.drewN ?_ _ | refine Ext.alloc ?_ _ | refine Ext.trans ?_ (by assumption)))⟩
end Go.Proofs.Ythmmakkldkjnlaa
/- Package krylov: Companion, of a polynomial that has one. -/
namespace Go.Proofs.Ythmmakkldkjnlaa
open Go.RowKit Go.Maps

/-- the first rows of a companion, one behind the other -/
def rowC (n i : Nat) : List Int := (List.replicate n (0 : Int)).set (i + 1) 1
theorem rowC_len (n i : Nat) : (rowC n i).length = n := by simp [rowC]
def rowsC (n k : Nat) : List Int := ((List.range k).map (rowC n)).flatten
theorem rowsC_len (n : Nat) : ∀ k, (rowsC n k).length = k * n
  | 0 => by simp [rowsC]
  | k + 1 => by
    have h := rowsC_len n k
    unfold rowsC at h ⊢
    rw [List.range_succ, List.map_append, List.flatten_append, List.length_append, h, Nat.add_mul]
    simp [rowC_len]
theorem rowsC_succ (n k : Nat) : rowsC n (k + 1) = rowsC n k ++ rowC n k := by
  unfold rowsC
  rw [List.range_succ, List.map_append, List.flatten_append]
  simp
theorem rowsC_get {n : Nat} : ∀ {k i j : Nat}, i < k → j < n → (rowsC n k).getD (i * n + j) 0 = (rowC n i).getD j 0
  | 0, _, _, h, _ => absurd h (Nat.not_lt_zero _)
  | k + 1, i, j, h, hj => by
    rw [rowsC_succ]
    rcases Nat.lt_or_ge i k with c | c
    · have := at_lt c hj
      simp only [List.getD]
      rw [List.getElem?_append_left (by rw [rowsC_len]; exact this)]
      exact rowsC_get c hj
    · obtain rfl : i = k := by omega
      simp only [List.getD]
      rw [List.getElem?_append_right (by rw [rowsC_len]; omega), rowsC_len, Nat.add_sub_cancel_left]
theorem comp_rows {p : Int} {n m : Nat} {f : List Int} (hm : n = m + 1) (hf : n ≤ f.length) : rowsC n m ++ negL p (f.take n) = compL p n f := by
  have hnl : (negL p (f.take n)).length = n := by rw [negL_len, List.length_take]; omega
  refine grid_of (by rw [List.length_append, rowsC_len, hnl, hm, Nat.add_mul, Nat.one_mul]) fun i k hi hk => ?_
  rcases Nat.lt_or_ge i m with c | c
  · have h1 := at_lt c hk
    have e : (rowsC n m ++ negL p (f.take n)).getD (i * n + k) 0 = (rowsC n m).getD (i * n + k) 0 := by
      simp only [List.getD]
      rw [List.getElem?_append_left (by rw [rowsC_len]; exact h1)]
    rw [e, rowsC_get c hk, if_neg (by omega), rowC, set_get _ _ _ _ (by rw [List.length_replicate]; omega), replicate_get]
    by_cases e2 : k = i + 1
    · rw [if_pos e2, if_pos e2.symm]
    · rw [if_neg e2, if_neg (fun h => e2 h.symm)]
  · obtain rfl : i = m := by omega
    have e : (rowsC n i ++ negL p (f.take n)).getD (i * n + k) 0 = (negL p (f.take n)).getD k 0 := by
      simp only [List.getD]
      rw [List.getElem?_append_right (by rw [rowsC_len]; omega), rowsC_len, Nat.add_sub_cancel_left]
    rw [e, if_pos (by omega)]
    unfold negL
    rw [tab_get _ (by rw [List.length_take]; omega)]
    simp [List.getD, hk]

set_option maxRecDepth 100000 in
set_option maxHeartbeats 2000000 in
theorem krCompanion (p : Int) (n : Nat) (vf : Value) (f : List Int) (w : World) (hp : rightB p = true) (hfv : Ints .u64 w vf f) (hf : Pol p f) (hl : f.length = n + 1) (hn : 1 ≤ n ∧ n ≤ 64) (hm : f.getD n 0 = 1) :
    Calls Try.prog 10 #[.int .u64 p, vf] w (RetN n n (compL p n f) w) := by
  have hp2 := rightB_true hp
  have C1 := hid fun (W : World) (hW : Ext w W) => polRight_yes p vf f W hp (hfv.ext hW) hf (by omega)
  have hft : (f.take n).length = n := by rw [List.length_take]; omega
  have C2 := hid fun (W : World) (z : Value) (hz : Ints .u64 W z (f.take n)) => krFrom0 p z (f.take n) W hp hz (hf.rng.take n) (by rw [hft]; exact hn.2)
  rw [hft] at C2
  have Hfv := hid hfv
  obtain ⟨a, cap, rfl, k1, k2, k3⟩ := hfv
  obtain ⟨N, hN⟩ : ∃ N, f.length = N := ⟨_, rfl⟩
  rw [hN] at C1 k1 k3 hl Hfv
  rw [hN]
  obtain ⟨b, off, rfl, hb, hc⟩ := k3 (by omega)
  have hcn := hc n (by omega)
  rw [hm] at hcn
  have HTK := hid fun (W : World) (hW : Ext w W) => (show Ints .u64 W (.slice (some ⟨b, off, none⟩) n cap) (f.take n) from by
    have h1 := (Hfv.out.ext hW)
    rw [← hN] at h1
    have h2 := h1.take' n (by omega)
    exact h2)
  obtain ⟨m, hnm⟩ : ∃ m, n = m + 1 := ⟨n - 1, by omega⟩
  have HCR := hid (comp_rows (p := p) (f := f) hnm (by omega))
  obtain ⟨NL, hNL⟩ : ∃ NL, negL p (f.take n) = NL := ⟨_, rfl⟩
  have hNLl : NL.length = n := by rw [← hNL, negL_len, hft]
  rw [hNL] at C2 HCR
  obtain ⟨CL, hCL⟩ : ∃ CL, compL p n f = CL := ⟨_, rfl⟩
  have hCLl : CL.length = n * n := by rw [← hCL, compL_len]
  rw [hCL] at HCR ⊢
  obtain ⟨i0, hi, hz0, hz1, hz2⟩ := info_parts info_u64p
  have hw0 : IntKind.i64.wrap ((N : Int) - 1) = (n : Int) := by rw [IntKind.wrap_i64]; omega
  have hw1 : IntKind.i64.wrap ((n : Int) - 1) = (m : Int) := by rw [IntKind.wrap_i64]; omega
  have t1 : decide ((n : Int) < 1) = false := decide_eq_false (by omega)
  have t1' : decide (n < 1) = false := decide_eq_false (by omega)
  have t2 : decide ((64 : Int) < (n : Int)) = false := decide_eq_false (by omega)
  have t2' : decide (64 < n) = false := decide_eq_false (by omega)
  have hb1 : (0 : Int) ≤ (n : Int) := by omega
  have hb2 : (n : Int) < (N : Int) := by omega
  have hb3 : n < N := by omega
  have hb4 : n ≤ cap := by omega
  have HNM := hid hnm; have HL := hid hl; have HNLl := hid hNLl; have HCLl := hid hCLl
  have hmk := make_ints (P := Try.prog) 23 22 .u64 8 (by omega) (by kernel_rfl) (by kernel_rfl) n n (Nat.le_refl _) (by omega)
  have hb2x := hid (boxes2 w 25 25 #[.int .i64 0, .int .i64 0, .slice none 0 0] #[.int .i64 (n : Int), .int .i64 (n : Int), .slice none 0 0])
  clear k3 hc hm hl hnm hNL hCL hNLl hCLl hf hft hp hN
  go_enter Try.func10, Try.ntmps10
  go_wp2_with (go_at_call 27; refine (C1.out _ (by repeat (first | exact Ext.refl _ | assumption | refine Ext.drew ?_ | refine Ext.drewN ?_ _ | refine Ext.alloc ?_ _ | refine Ext.trans ?_ (by assumption)))).mono ?_; rintro _ _ ⟨rfl, rfl⟩)
  obtain ⟨H, hH⟩ : ∃ H, w.heap.size = H := ⟨_, rfl⟩
  obtain ⟨wL, hwL⟩ : ∃ wL, (w.alloc (.cells #[.int .i64 0, .int .i64 0, .slice none 0 0] 25)).alloc (.cells #[.int .i64 (n : Int), .int .i64 (n : Int), .slice none 0 0] 25) = wL := ⟨_, rfl⟩
  have hsL : wL.heap.size = H + 1 + 1 := by rw [← hwL, ← hH]; simp
  rw [hH, hwL] at hb2x
  have xL : Ext w wL := hb2x.out.2.2
  have I0 := hid (show InvS wL wL (H + 1) n (.slice none 0 0) (rowsC n 0) from ⟨hb2x.out.2.1, World.ownsRow_nil _ _ _ _, (Ext.refl wL).grownBy _, by omega⟩)
  rw [hH, hwL]
  have HH := hid hH
  clear hwL hH
  go_loopw [38] (fun iv wr => ∃ (k : Nat) (tv : Value), iv = .int .i64 k ∧ k ≤ m ∧ Hid (InvS wL wr (H + 1) n tv (rowsC n k))) (fun iv _ => m - (intOf iv).toNat)
  case atStart => exact ⟨0, _, rfl, Nat.zero_le _, I0⟩
  case round =>
    obtain ⟨k, tv, rfl, hk, S⟩ := hrel
    clear I0
    have hnm := HNM.out
    have hwr := S.out.ext.size
    by_cases hlt : k < m
    · have hg := made_get (n := n) (i := k + 1) (by omega)
      have hw2 : IntKind.i64.wrap ((k : Int) + 1) = (k : Int) + 1 := by rw [IntKind.wrap_i64]; omega
      have hw3 : (k : Int) + 1 < (n : Int) := by omega
      have hrl := rowsC_len n k
      have hrb : (rowsC n k).length ≤ 4096 := by rw [hrl]; exact Nat.mul_le_mul (show k ≤ 64 by omega) hn.2
      obtain ⟨L, eL⟩ : ∃ L, rowsC n k = L := ⟨_, rfl⟩
      have ES := hid (rowsC_succ n k)
      rw [eL] at S ES hrb
      obtain ⟨q, eq⟩ : ∃ q, L.length = q := ⟨_, rfl⟩
      have hrow := S.out.row
      rw [eq] at hrow hrb
      obtain ⟨at', ct', rfl, -⟩ := own_slice hrow
      have HROW := hid hrow; have EQ := hid eq
      obtain ⟨wm, hwm⟩ : ∃ wm, wr.alloc (.cells ((madeCells #[Value.int .u64 0] n).setIfInBounds (k + 1) (.int .u64 1)) 22) = wm := ⟨_, rfl⟩
      have xm : Ext wr wm := hwm ▸ (Ext.refl wr).alloc _
      have hrm : WRow wm wr.heap.size 0 (rowC n k) := hwm ▸ WRow.made1 rfl
      have Sm := hid (S.out.ext' xm)
      have c2 := Sm.out.box.cell 2
      rw [← hwm] at c2
      have hcs : ∀ j u, ((rowC n k).map (Value.int .u64))[j]? = some u → wm.cell? ((⟨wr.heap.size, 0, none⟩ : Addr).add j) = some u := fun j u hu => by
        rw [List.getElem?_map] at hu
        obtain ⟨z, hz, rfl⟩ := Option.map_eq_some_iff.1 hu
        obtain ⟨hj, e⟩ := List.getElem?_eq_some_iff.1 hz
        have := (hrm.2 j hj).1
        rw [List.getD, hz, Option.getD_some] at this
        rw [show ((⟨wr.heap.size, 0, none⟩ : Addr).add j) = ⟨wr.heap.size, 0 + j, none⟩ from Go.WideShapes.add_plain _ _ _]
        exact this
      have hnc : ∀ u ∈ (rowC n k).map (Value.int .u64), u.oneCell' = true := fun u hu => by
        obtain ⟨z, _, rfl⟩ := List.mem_map.1 hu
        rfl
      have hnl : ((rowC n k).map (Value.int .u64)).length = n * 1 := by rw [List.length_map, rowC_len, Nat.mul_one]
      have HCS := hid hcs; have HNC := hid hnc; have HNLL := hid hnl; have XM := hid xm; have HWM := hid hwm
      have hsm := xm.size
      clear hcs hnc hnl hrm eL eq hrow hrl hwm xm hnm
      go_wp2_with (first
        | (at_builtin
           rw [HWM.out]
           refine wpList_append_own _ rfl _ _ 23 rfl wL.heap.size 22 i0 (.int .u64 0) 1 8 Try.underlying23 hi hz0 hz1 hz2 rfl (by decide) (.slice at' q ct') q (L.map (Value.int .u64)) rfl (ownsRow_ext HROW.out XM.out) ⟨wr.heap.size, 0, none⟩ n n ((rowC n k).map (Value.int .u64)) rfl HNLL.out HCS.out HNC.out (by simp only [maxLen]; omega) (by omega) (by omega) ?_
           intro v6 w6 hown6 hgrow6 hnil6
           clear hnil6 c2
           have ne6 : (Value.slice at' q ct').ownBlock ≠ some (H + 1) := fun e => by have := (HROW.out.lt (H + 1) e).1; omega
           have hb6 := Sm.out.box.grown hgrow6 ne6
           have t6 := hb6.cell 2
           have f6 := hb6.frozen 2
           have HO6 := hid hown6
           obtain ⟨a6, c6, rfl, -⟩ := own_slice hown6
           clear hown6 hb6)
        | fail)
      have S6 := Sm.out.put (x := rowC n k) (by rw [EQ.out, rowC_len]; exact HO6.out) hgrow6
      rw [← ES.out] at S6
      go_roundw
      case rel => exact ⟨k + 1, _, by go_num, by omega, hid S6⟩
      case measure => simp [intOf]; omega
    · obtain rfl : m = k := by omega
      have hrl := rowsC_len n m
      have hrb : (rowsC n m).length ≤ 4096 := by rw [hrl]; exact Nat.mul_le_mul (show m ≤ 64 by omega) hn.2
      obtain ⟨L, eL⟩ : ∃ L, rowsC n m = L := ⟨_, rfl⟩
      rw [eL] at S hrb HCR
      obtain ⟨q, eq⟩ : ∃ q, L.length = q := ⟨_, rfl⟩
      have hrow := S.out.row
      rw [eq] at hrow hrb
      obtain ⟨at', ct', rfl, -⟩ := own_slice hrow
      have HROW := hid hrow; have EQ := hid eq
      have hmx : Try.prog.follows .mixedOrders = true := by kernel_rfl
      have HW := hid HH.out
      have XW := hid (grown_ext S.out.ext xL (by have := HH.out; omega))
      have hq1 : q + n = n * n := by
        have h1 := congrArg List.length HCR.out
        rw [List.length_append, eq, HNLl.out, HCLl.out] at h1
        exact h1
      have HQ := hid hq1
      clear hrow hrl eL eq hnm hq1
      go_wp2_with fail
      refine wp_region_held_drew (S := fun W' => Ext w W') hmx XW.out.drew (fun hHeld => ?_)
      have X0 : Ext wr wr.drew := (Ext.refl wr).drew
      refine wpAnyH_take (i := 0) (v := .pointer (some ⟨H + 1, 2, none⟩)) rfl (by kernel_rfl) (by kernel_rfl) (by kernel_rfl) (fun _ _ _ h => h) (Or.inl ⟨by rfl, ?_⟩) hHeld ?_
      · intro W' hSw
        go_simp
      refine wpAnyH_take (i := 2) (v := .int .u64 p) rfl (by kernel_rfl) (by kernel_rfl) (by kernel_rfl) (fun _ _ _ h => h) (Or.inl ⟨by rfl, ?_⟩) hHeld ?_
      · intro W' hSw
        go_simp
      refine wpAnyH_take (i := 3) (v := .slice (some ⟨b, off, none⟩) N cap) rfl (by kernel_rfl) (by kernel_rfl) (by kernel_rfl) (fun _ _ _ h => h) (Or.inl ⟨by rfl, ?_⟩) hHeld ?_
      · intro W' hSw
        go_simp
      refine wpAnyH_take (i := 4) (v := .int .i64 (n : Int)) rfl (by kernel_rfl) (by kernel_rfl) (by kernel_rfl) (fun _ _ _ h => h) (Or.inl ⟨by rfl, ?_⟩) hHeld ?_
      · intro W' hSw
        go_simp
      refine wpAnyH_take (i := 5) (v := .slice (some ⟨b, off, none⟩) n cap) rfl (by kernel_rfl) (by kernel_rfl) (by kernel_rfl) (fun _ _ _ h => h) (Or.inl ⟨by rfl, ?_⟩) hHeld ?_
      · intro W' hSw
        go_simp
      refine wpAnyH_ready (rs := [1, 6]) (by kernel_rfl) (by simp) ?_
      refine AllReadyH.cons rfl (fun K hK => ?_) ?_
      · have o2 := (S.out.box.ext X0).cell 2
        go_simp
        clear o2
        refine hK.out _ _ hHeld (fun hHeld => ?_)
        clear hK K
        refine held_step 6 (by kernel_rfl) rfl (fun K hK => ?_)
        go_simp
        go_wp2_with fail
        refine (C2.out _ _ (HTK.out _ (XW.out.trans X0))).mono ?_
        rintro _ w5 ⟨g5, rfl, o5, x5⟩
        have O5 := hid o5
        have X5 : Ext wr w5 := X0.trans x5
        clear o5
        go_wp2_with fail
        refine hK.out _ _ (XW.out.trans X5) (fun hHeld => ?_)
        clear hK K
        refine held_step 7 (by kernel_rfl) rfl (fun K hK => ?_)
        have S5 := hid (S.out.ext' X5)
        have hs5 := X5.size
        obtain ⟨a5, c5', e5, -, -, -, hcs⟩ := own_slice O5.out
        injection e5 with e5a e5b e5c
        clear e5b e5c
        subst e5a
        obtain ⟨g5', e6, -, -, hcs⟩ := hcs (by omega)
        injection e6 with e6
        injection e6 with e6a
        subst e6a
        have hnw : ∀ j u, (NL.map (Value.int .u64))[j]? = some u → w5.cell? ((⟨g5, 0, none⟩ : Addr).add j) = some u := fun j u hu => by
          obtain ⟨hj, e⟩ := List.getElem?_eq_some_iff.1 hu
          rw [List.length_map, HNLl.out] at hj
          have := hcs j hj
          rw [List.getD, hu, Option.getD_some] at this
          rw [show ((⟨g5, 0, none⟩ : Addr).add j) = ⟨g5, 0 + j, none⟩ from Go.WideShapes.add_plain _ _ _, Nat.zero_add]
          exact this
        have hnc : ∀ u ∈ NL.map (Value.int .u64), u.oneCell' = true := fun u hu => by
          obtain ⟨z, _, rfl⟩ := List.mem_map.1 hu
          rfl
        refine step_append_at _ rfl (.tmp 54) (.tmp 59) 23 rfl wL.heap.size 22 i0 (.int .u64 0) 1 8 Try.underlying23 hi hz0 hz1 hz2 rfl (by decide) (.slice at' q ct') q (L.map (Value.int .u64)) (by simp [Act.eval]) (ownsRow_ext HROW.out X5) ⟨g5, 0, none⟩ n n (NL.map (Value.int .u64)) (by simp [Act.eval]) (by rw [List.length_map, HNLl.out, Nat.mul_one]) hnw hnc (by simp only [maxLen]; omega) (by omega) (by omega) ?_
        intro v6 w6 hown6 hgrow6 hat6
        clear hnw hnc hcs hat6
        have ne6 : (Value.slice at' q ct').ownBlock ≠ some (H + 1) := fun e => by have := (HROW.out.lt (H + 1) e).1; omega
        have HB6 := hid (S5.out.box.grown hgrow6 ne6)
        have HG6 := hid hgrow6
        have hw6 : Ext w w6 := (XW.out.trans X5).grown hgrow6 (fun k e => by have := (HROW.out.lt k e).1; have := xL.size; omega)
        have HO6 := hid hown6
        obtain ⟨a6, c6, rfl, -⟩ := own_slice hown6
        clear hown6 hgrow6
        refine hK.out _ _ hw6 (fun hHeld => ?_)
        clear hK K
        refine wpAnyH_take (i := 8) (v := .pointer (some ⟨H + 1, 2, none⟩)) rfl (by kernel_rfl) (by kernel_rfl) (by kernel_rfl) (fun _ _ _ h => h) (Or.inl ⟨by rfl, ?_⟩) hHeld ?_
        · intro W' hSw
          go_simp
        refine held_step 9 (by kernel_rfl) rfl (fun K hK => ?_)
        have o6 := HB6.out.cell 2; have f6 := HB6.out.frozen 2
        go_simp
        have hhs := HH.out
        refine hK.out _ _ (hw6.setCell (p := ⟨H + 1, 2, none⟩) (by show w.heap.size ≤ H + 1; omega) (.slice a6 (q + n) c6)) (fun hHeld => ?_)
        clear hK K o6 f6
        refine wpAnyH_done (by kernel_rfl) ?_ _
        have S7 := S5.out.put (x := NL) (by rw [EQ.out, HNLl.out]; exact HO6.out) HG6.out
        rw [HCR.out] at S7
        have HS7 := hid S7
        have hrow7 := S7.row
        obtain ⟨w7, hw7⟩ : ∃ w7, w6.setCell ⟨H + 1, 2, none⟩ (.slice a6 (q + n) c6) = w7 := ⟨_, rfl⟩
        rw [hw7] at HS7
        have R7 := hid ((hb2x.out.1).grown HS7.out.ext (fun e => by injection e with e; have : H + 1 = H := e; omega))
        have X7 := hid (grown_ext HS7.out.ext xL (by have := HH.out; omega))
        rw [hw7]
        have s0 := HS7.out.box.cell 0; have s1 := HS7.out.box.cell 1; have s2 := HS7.out.box.cell 2
        have r0 := R7.out.cell 0; have r1 := R7.out.cell 1; have r2 := R7.out.cell 2; have f0 := R7.out.frozen 0; have f1 := R7.out.frozen 1; have f2 := R7.out.frozen 2
        clear S7 hrow7 hw7
        go_wp2_with fail
        clear s0 s1 s2 r0 r1 r2 f0 f1 f2
        have hF := ((R7.out.set_ 0 (.int .i64 (n : Int))).set_ 1 (.int .i64 (n : Int))).set_ 2 (.slice a6 (q + n) c6)
        have hI := own_set3 HS7.out.row R7.out (.int .i64 (n : Int)) (.int .i64 (n : Int)) (.slice a6 (q + n) c6)
        have hE := ((X7.out.setCell (p := ⟨H, 0, none⟩) (by show w.heap.size ≤ H; omega) (.int .i64 (n : Int))).setCell (p := ⟨H, 1, none⟩) (by show w.heap.size ≤ H; omega) (.int .i64 (n : Int))).setCell (p := ⟨H, 2, none⟩) (by show w.heap.size ≤ H; omega) (.slice a6 (q + n) c6)
        refine bodyPost_ret (results_cell_row_tmp rfl _ _ H 25 _ (0, 0) _ rfl hF Try.underlying25 rfl (by kernel_rfl)) rfl ?_
        exact ⟨_, rfl, hI, hE⟩
      refine AllReadyH.cons rfl (fun K hK => ?_) AllReadyH.nil
      · skip
        go_simp
        go_wp2_with fail
        refine (C2.out _ _ (HTK.out _ (XW.out.trans X0))).mono ?_
        rintro _ w5 ⟨g5, rfl, o5, x5⟩
        have O5 := hid o5
        have X5 : Ext wr w5 := X0.trans x5
        clear o5
        go_wp2_with fail
        refine hK.out _ _ (XW.out.trans X5) (fun hHeld => ?_)
        clear hK K
        refine held_step 1 (by kernel_rfl) rfl (fun K hK => ?_)
        have o2 := (S.out.box.ext X5).cell 2
        go_simp
        clear o2
        refine hK.out _ _ hHeld (fun hHeld => ?_)
        clear hK K
        refine held_step 7 (by kernel_rfl) rfl (fun K hK => ?_)
        have S5 := hid (S.out.ext' X5)
        have hs5 := X5.size
        obtain ⟨a5, c5', e5, -, -, -, hcs⟩ := own_slice O5.out
        injection e5 with e5a e5b e5c
        clear e5b e5c
        subst e5a
        obtain ⟨g5', e6, -, -, hcs⟩ := hcs (by omega)
        injection e6 with e6
        injection e6 with e6a
        subst e6a
        have hnw : ∀ j u, (NL.map (Value.int .u64))[j]? = some u → w5.cell? ((⟨g5, 0, none⟩ : Addr).add j) = some u := fun j u hu => by
          obtain ⟨hj, e⟩ := List.getElem?_eq_some_iff.1 hu
          rw [List.length_map, HNLl.out] at hj
          have := hcs j hj
          rw [List.getD, hu, Option.getD_some] at this
          rw [show ((⟨g5, 0, none⟩ : Addr).add j) = ⟨g5, 0 + j, none⟩ from Go.WideShapes.add_plain _ _ _, Nat.zero_add]
          exact this
        have hnc : ∀ u ∈ NL.map (Value.int .u64), u.oneCell' = true := fun u hu => by
          obtain ⟨z, _, rfl⟩ := List.mem_map.1 hu
          rfl
        refine step_append_at _ rfl (.tmp 54) (.tmp 59) 23 rfl wL.heap.size 22 i0 (.int .u64 0) 1 8 Try.underlying23 hi hz0 hz1 hz2 rfl (by decide) (.slice at' q ct') q (L.map (Value.int .u64)) (by simp [Act.eval]) (ownsRow_ext HROW.out X5) ⟨g5, 0, none⟩ n n (NL.map (Value.int .u64)) (by simp [Act.eval]) (by rw [List.length_map, HNLl.out, Nat.mul_one]) hnw hnc (by simp only [maxLen]; omega) (by omega) (by omega) ?_
        intro v6 w6 hown6 hgrow6 hat6
        clear hnw hnc hcs hat6
        have ne6 : (Value.slice at' q ct').ownBlock ≠ some (H + 1) := fun e => by have := (HROW.out.lt (H + 1) e).1; omega
        have HB6 := hid (S5.out.box.grown hgrow6 ne6)
        have HG6 := hid hgrow6
        have hw6 : Ext w w6 := (XW.out.trans X5).grown hgrow6 (fun k e => by have := (HROW.out.lt k e).1; have := xL.size; omega)
        have HO6 := hid hown6
        obtain ⟨a6, c6, rfl, -⟩ := own_slice hown6
        clear hown6 hgrow6
        refine hK.out _ _ hw6 (fun hHeld => ?_)
        clear hK K
        refine wpAnyH_take (i := 8) (v := .pointer (some ⟨H + 1, 2, none⟩)) rfl (by kernel_rfl) (by kernel_rfl) (by kernel_rfl) (fun _ _ _ h => h) (Or.inl ⟨by rfl, ?_⟩) hHeld ?_
        · intro W' hSw
          go_simp
        refine held_step 9 (by kernel_rfl) rfl (fun K hK => ?_)
        have o6 := HB6.out.cell 2; have f6 := HB6.out.frozen 2
        go_simp
        have hhs := HH.out
        refine hK.out _ _ (hw6.setCell (p := ⟨H + 1, 2, none⟩) (by show w.heap.size ≤ H + 1; omega) (.slice a6 (q + n) c6)) (fun hHeld => ?_)
        clear hK K o6 f6
        refine wpAnyH_done (by kernel_rfl) ?_ _
        have S7 := S5.out.put (x := NL) (by rw [EQ.out, HNLl.out]; exact HO6.out) HG6.out
        rw [HCR.out] at S7
        have HS7 := hid S7
        have hrow7 := S7.row
        obtain ⟨w7, hw7⟩ : ∃ w7, w6.setCell ⟨H + 1, 2, none⟩ (.slice a6 (q + n) c6) = w7 := ⟨_, rfl⟩
        rw [hw7] at HS7
        have R7 := hid ((hb2x.out.1).grown HS7.out.ext (fun e => by injection e with e; have : H + 1 = H := e; omega))
        have X7 := hid (grown_ext HS7.out.ext xL (by have := HH.out; omega))
        rw [hw7]
        have s0 := HS7.out.box.cell 0; have s1 := HS7.out.box.cell 1; have s2 := HS7.out.box.cell 2
        have r0 := R7.out.cell 0; have r1 := R7.out.cell 1; have r2 := R7.out.cell 2; have f0 := R7.out.frozen 0; have f1 := R7.out.frozen 1; have f2 := R7.out.frozen 2
        clear S7 hrow7 hw7
        go_wp2_with fail
        clear s0 s1 s2 r0 r1 r2 f0 f1 f2
        have hF := ((R7.out.set_ 0 (.int .i64 (n : Int))).set_ 1 (.int .i64 (n : Int))).set_ 2 (.slice a6 (q + n) c6)
        have hI := own_set3 HS7.out.row R7.out (.int .i64 (n : Int)) (.int .i64 (n : Int)) (.slice a6 (q + n) c6)
        have hE := ((X7.out.setCell (p := ⟨H, 0, none⟩) (by show w.heap.size ≤ H; omega) (.int .i64 (n : Int))).setCell (p := ⟨H, 1, none⟩) (by show w.heap.size ≤ H; omega) (.int .i64 (n : Int))).setCell (p := ⟨H, 2, none⟩) (by show w.heap.size ≤ H; omega) (.slice a6 (q + n) c6)
        refine bodyPost_ret (results_cell_row_tmp rfl _ _ H 25 _ (0, 0) _ rfl hF Try.underlying25 rfl (by kernel_rfl)) rfl ?_
        exact ⟨_, rfl, hI, hE⟩
end Go.Proofs.Ythmmakkldkjnlaa
/- The document's own answers of layer 9: Power. -/
namespace Go.Proofs.Ythmmakkldkjnlaa
open Go.RowKit Go.Maps

/-- numbers stay while a matrix's box is told -/
theorem ints_tell {W : World} {g : Nat} {t : TypeId} {x y : Int} {a : Option Addr} {l c : Nat} (hB : Blk W g t #[.int .i64 x, .int .i64 y, .slice a l c]) {v : Value} {xs : List Int} (hi : Ints .u64 W v xs) (hl : 0 < xs.length) (p q r : Value) :
    Ints .u64 (((W.setCell ⟨g, 0, none⟩ p).setCell ⟨g, 1, none⟩ q).setCell ⟨g, 2, none⟩ r) v xs := by
  have ne := ints_not_mat hB hi hl
  exact ((hi.grown (setCell_grown W ⟨g, 0, none⟩ p) ne).grown (setCell_grown _ ⟨g, 1, none⟩ q) ne).grown (setCell_grown _ ⟨g, 2, none⟩ r) ne
set_option maxRecDepth 100000 in
set_option maxHeartbeats 2000000 in
theorem r9PowerA (p : Int) (n k : Nat) (v : Value) (xs : List Int) (w : World) (ok : MatOk p n n xs) (hk : k ≤ 64) (hv : Ints .u64 w v xs) :
    Calls Try.prog 43 #[.int .u64 p, matV n n v, .int .i64 k] w (RetMA n n (pwL p n xs k) w) := by
  have hp2 := rightB_true ok.hp
  have hn := ok.hn
  have CM := hid fun (W : World) (z : Value) (l : List Int) (hW : Ext w W) (hz : Ints .u64 W z l) (hl : l.length = n * n) (hr : Rng p l) => (show Calls Try.prog 74 #[.int .u64 p, matV n n z, matV n n v] W (RetMA n n (mulL p n n n l xs) W) from rmMulA p n n n z v l xs W ok.hp hz (hv.ext hW) hr ok.hx hn.2 hn.2 hn.2 hl ok.hl)
  have CO := hid fun (W : World) => r9OneA n W hn
  have LP := hid fun j => pwL_len (p := p) (n := n) xs j
  have RP := hid fun j => pwL_rng (n := n) hp2.1 xs j
  obtain ⟨Q, hQ⟩ : ∃ Q, n * n = Q := ⟨_, rfl⟩
  have hQ0 : 0 < Q := by rw [← hQ]; exact Nat.mul_pos (by omega) (by omega)
  rw [hQ] at LP CM
  have HLO := hid (show (oneL n).length = Q by rw [oneL_len, hQ])
  obtain ⟨a, cap, rfl, k1, k2, k3⟩ := hv
  clear k3 ok hQ
  have hb2 := hid (boxes2 w 25 25 #[.int .i64 (n : Int), .int .i64 (n : Int), .slice a xs.length cap] #[.int .i64 0, .int .i64 0, .slice none 0 0])
  have HA := hid hb2.out.1; have HR := hid hb2.out.2.1; have hW0 := hid hb2.out.2.2
  have hR1 := HR.out.lt
  unfold matV at CM
  unfold matV
  unfold RetMA matV at CO CM
  go_enter Try.func43, Try.ntmps43
  obtain ⟨a0, a1, a2⟩ := HA.out.at3
  go_wp2_with fail
  refine (CO.out _).mono ?_
  rintro _ w2 ⟨au, cu, rfl, iu, gu, x2⟩
  have IU := hid iu
  have HGU := hid (gu (by rw [HLO.out]; exact hQ0))
  clear iu gu
  clear CO hb2 a0 a1 a2
  rw [HLO.out]
  rw [HLO.out] at IU
  go_wp2_with fail
  obtain ⟨w3, hw3⟩ : ∃ w3, w2.alloc (.cells #[.int .i64 (n : Int), .int .i64 (n : Int), .slice au Q cu] 25) = w3 := ⟨_, rfl⟩
  have HB := hid (Blk.new w2 25 #[.int .i64 (n : Int), .int .i64 (n : Int), .slice au Q cu])
  have x3 := (Ext.refl w2).alloc (.cells #[.int .i64 (n : Int), .int .i64 (n : Int), .slice au Q cu] 25)
  rw [hw3] at HB x3
  rw [hw3]
  obtain ⟨G, hG⟩ : ∃ G, w2.heap.size = G := ⟨_, rfl⟩
  have hGw : w2.heap.size ≤ G := by omega
  rw [hG] at HB
  rw [hG]
  have X3 := hid x3
  have I3 := hid (IU.out.ext x3)
  clear hw3 hG x3 IU
  go_loopw [8] (fun iv wr => ∃ (i : Nat) (ap : Option Addr) (cp : Nat), iv = .int .i64 i ∧ i ≤ k ∧ Hid (Blk wr G 25 #[.int .i64 (n : Int), .int .i64 (n : Int), .slice ap Q cp]) ∧ Hid (Ints .u64 wr (.slice ap Q cp) (pwL p n xs i)) ∧ Hid (∃ g0, ap = some ⟨g0, 0, none⟩ ∧ w.heap.size ≤ g0) ∧ Hid (Ext w2 wr)) (fun iv _ => k - (intOf iv).toNat)
  case atStart => exact ⟨0, au, cu, rfl, Nat.zero_le _, HB, I3, hid (by obtain ⟨g0, h1, h2⟩ := HGU.out; exact ⟨g0, h1, by have := hW0.out.size; omega⟩), X3⟩
  case round =>
    clear HB I3 X3
    obtain ⟨i, ap, cp, rfl, hi, HB, HI, HGA, HX⟩ := hrel
    rename World => wr
    obtain ⟨b0, b1, b2⟩ := HB.out.at3
    by_cases hlt : i < k
    · obtain ⟨a0, a1, a2⟩ := (HA.out.ext (x2.trans HX.out)).at3
      go_wp2_with fail
      refine (CM.out _ _ _ (hW0.out.trans (x2.trans HX.out)) HI.out (LP.out i) (RP.out i)).mono ?_
      rintro _ w5 ⟨a5, c5, rfl, i5, g5, x5⟩
      have hl5 : (mulL p n n n (pwL p n xs i) xs).length = Q := LP.out (i + 1)
      rw [hl5] at i5 g5
      rw [hl5]
      have I5 := hid (show Ints .u64 w5 (.slice a5 Q c5) (pwL p n xs (i + 1)) from i5)
      have G5 := hid (show ∃ g0, a5 = some ⟨g0, 0, none⟩ ∧ w.heap.size ≤ g0 by
        obtain ⟨g0, h1, h2⟩ := g5 hQ0
        exact ⟨g0, h1, by have := (hW0.out.trans (x2.trans HX.out)).size; omega⟩)
      clear i5 g5 hl5
      clear b0 b1 b2 a0 a1 a2
      have hB5 := HB.out.ext x5
      have B5 := hid hB5
      obtain ⟨b0, b1, b2⟩ := hB5.at3
      have f0 := hB5.frozen 0
      have f1 := hB5.frozen 1
      have f2 := hB5.frozen 2
      clear hB5
      go_wp2_with fail
      go_roundw
      case rel =>
        exact ⟨i + 1, a5, c5, by go_num, by omega, hid (((B5.out.set_ 0 _).set_ 1 _).set_ 2 _), hid (ints_tell B5.out I5.out (by rw [LP.out]; exact hQ0) _ _ _), G5,
          hid ((((HX.out.trans x5).setCell (p := ⟨G, 0, none⟩) hGw _).setCell (p := ⟨G, 1, none⟩) hGw _).setCell (p := ⟨G, 2, none⟩) hGw _)⟩
      case measure => simp [intOf]; omega
    · obtain rfl : k = i := by omega
      have hRr := HR.out.ext (x2.trans HX.out)
      have RR := hid hRr
      obtain ⟨r0, r1, r2⟩ := hRr.at3
      have f0 := hRr.frozen 0
      have f1 := hRr.frozen 1
      have f2 := hRr.frozen 2
      clear hRr
      go_wp2_with fail
      have hbk := hid (((RR.out.set_ 0 (.int .i64 (n : Int))).set_ 1 (.int .i64 (n : Int))).set_ 2 (.slice ap Q cp))
      have hII := hid (ints_tell RR.out HI.out (by rw [LP.out]; exact hQ0) (.int .i64 (n : Int)) (.int .i64 (n : Int)) (.slice ap Q cp))
      have hEE := hid (((((hW0.out.trans (x2.trans HX.out))).setCell (p := ⟨w.heap.size + 1, 0, none⟩) (by simp) (.int .i64 (n : Int))).setCell (p := ⟨w.heap.size + 1, 1, none⟩) (by simp) (.int .i64 (n : Int))).setCell (p := ⟨w.heap.size + 1, 2, none⟩) (by simp) (.slice ap Q cp))
      refine bodyPost_ret (results_cell_row rfl _ _ (w.heap.size + 1) 25 _ (0, 0) _ rfl hbk.out Try.underlying25 rfl (by kernel_rfl)) rfl ?_
      exact ⟨ap, cp, by rw [LP.out]; rfl, by rw [LP.out]; exact hII.out, fun _ => HGA.out, hEE.out⟩
theorem r9Power (p : Int) (n k : Nat) (v : Value) (xs : List Int) (w : World) (ok : MatOk p n n xs) (hk : k ≤ 64) (hv : Ints .u64 w v xs) :
    Calls Try.prog 43 #[.int .u64 p, matV n n v, .int .i64 k] w (RetM n n (pwL p n xs k) w) := (r9PowerA p n k v xs w ok hk hv).mono fun _ _ h => h.plain
end Go.Proofs.Ythmmakkldkjnlaa
/- The document's own answers of layer 9: Do. -/
namespace Go.Proofs.Ythmmakkldkjnlaa
open Go.RowKit Go.Maps

/-- what Do has added up before the k-th term -/
def termsF (p : Int) (n : Nat) (xs f b : List Int) (k i : Nat) : Int := doF n (atF n xs) k (fun t => f.getD t 0) (atV b) i % p
theorem terms_step {p : Int} {n : Nat} {xs f b : List Int} (hp : 2 ≤ p) (hb : Rng p b) {k i : Nat} (hi : i < n) : termsF p n xs f b (k + 1) i = (termsF p n xs f b k i + f.getD k 0 * (powL p n xs k b).getD i 0 % p) % p := by
  unfold termsF
  rw [powL_get hp hb hi, mm_r, ma_l, ma_r]; rfl
theorem terms_zero {p : Int} {n : Nat} {xs f b : List Int} {i : Nat} : termsF p n xs f b 0 i = 0 := by
  unfold termsF doF
  show (0 : Int) % p = 0
  rw [Int.zero_emod]
set_option maxRecDepth 100000 in
set_option maxHeartbeats 4000000 in
theorem r9Do (p : Int) (n : Nat) (vf v u : Value) (f xs b : List Int) (w : World) (ok : MatOk p n n xs) (hfv : Ints .u64 w vf f) (hf : Rng p f) (hl : f.length ≤ 64) (hv : Ints .u64 w v xs) (hu : Ints .u64 w u b) (hb : b.length = n) (hr : Rng p b) :
    Calls Try.prog 20 #[.int .u64 p, vf, matV n n v, u] w (RetL (pdoL p n xs f b) w) := by
  have hp2 := rightB_true ok.hp
  have hn := ok.hn
  have CP := hid fun (k : Nat) (hk : k ≤ 64) (W : World) (hW : Ext w W) => r9Power p n k v xs W ok hk (hv.ext hW)
  have CT := hid fun (k : Nat) (W : World) (z : Value) (hW : Ext w W) (hz : Ints .u64 W z (pwL p n xs k)) => (pwL_times hp2.1 hr hb k ▸ rmTimesO p n n z u (pwL p n xs k) b W ok.hp hz (hu.ext hW) (pwL_rng hp2.1 xs k) hr hn.2 hn.2 (pwL_len xs k) hb : Calls Try.prog 21 #[.int .u64 p, matV n n z, u] W (RetLO (powL p n xs k b) W))
  have HP := hid ok.hp; have HF := hid hf; have HR := hid hr
  have LPW := hid fun k => powL_len (p := p) (n := n) (xs := xs) hb k
  have RPW := hid fun k => powL_rng (n := n) (xs := xs) hp2.1 hr k
  have HST := hid fun (k i : Nat) (hi : i < n) => terms_step (xs := xs) (f := f) hp2.1 hr (k := k) hi
  obtain ⟨F, hF⟩ : ∃ F, termsF p n xs f b = F := ⟨_, rfl⟩
  rw [hF] at HST
  have HF0 := hid (fun i => (show F 0 i = 0 by rw [← hF]; exact terms_zero))
  have HFE := hid (fun i => (show F f.length i = termsF p n xs f b f.length i by rw [hF]))
  have HFR := hid (fun k i => (show 0 ≤ F k i ∧ F k i < p by rw [← hF]; exact mod_range _ hp2.1))
  obtain ⟨a, cap, rfl, k1, k2, k3⟩ := hv
  obtain ⟨nf, enf⟩ : ∃ x, f.length = x := ⟨_, rfl⟩
  have ENF := hid enf
  obtain ⟨af, cf, rfl, f1, f2, f3⟩ := hfv
  obtain ⟨au, cu, rfl, u1, u2, -⟩ := hu
  rw [hb] at CT u1
  rw [hb, enf]
  rw [enf] at f1 f3 hl HFE
  have F3 := hid f3
  clear k3 f3 ok hf hr hF enf hb
  have hmk := make_ints (P := Try.prog) 23 22 .u64 8 (by omega) (by kernel_rfl) (by kernel_rfl) n n (Nat.le_refl _) (by omega)
  have HA := hid (Blk.new w 25 #[.int .i64 (n : Int), .int .i64 (n : Int), .slice a xs.length cap])
  have hW0 := hid ((Ext.refl w).alloc (.cells #[.int .i64 (n : Int), .int .i64 (n : Int), .slice a xs.length cap] 25))
  unfold matV at CP CT
  unfold matV
  unfold RetM matV at CP
  unfold RetLO at CT
  go_enter Try.func20, Try.ntmps20
  go_wp2_with fail
  obtain ⟨w1, hw1⟩ : ∃ w1, w.alloc (.cells #[.int .i64 (n : Int), .int .i64 (n : Int), .slice a xs.length cap] 25) = w1 := ⟨_, rfl⟩
  have s1 : w1.heap.size = w.heap.size + 1 := by rw [← hw1, alloc_size]
  rw [hw1] at HA hW0
  rw [hw1]
  have hrow := WRow.made (w := w1) (t := 22) (n := n) rfl
  have x2 := (Ext.refl w1).alloc (.cells (madeCells #[Value.int .u64 0] n) 22)
  obtain ⟨w2, hw2⟩ : ∃ w2, w1.alloc (.cells (madeCells #[Value.int .u64 0] n) 22) = w2 := ⟨_, rfl⟩
  rw [hw2, s1] at hrow
  rw [hw2] at x2
  rw [hw2]
  obtain ⟨g, hg⟩ : ∃ g, w.heap.size + 1 = g := ⟨_, rfl⟩
  have hgw : w.heap.size ≤ g := by omega
  have hg1 : w1.heap.size ≤ g := by omega
  rw [hg] at hrow
  rw [hg]
  have HROW := hid hrow
  have X2 := hid x2
  clear hw1 hw2 hmk hrow x2 s1 hg
  go_loopw [10] (fun kv wr => ∃ (k : Nat) (l : List Int), kv = .int .i64 k ∧ k ≤ nf ∧ Hid (WRow wr g 0 l) ∧ Hid (l.length = n) ∧ Hid (∀ i, i < n → l.getD i 0 = F k i) ∧ Hid (Ext w1 wr)) (fun kv _ => nf - (intOf kv).toNat)
  case atStart => exact ⟨0, _, rfl, Nat.zero_le _, HROW, hid List.length_replicate, hid (fun i hi => by rw [replicate_get, HF0.out]), X2⟩
  case round =>
    clear HROW X2
    obtain ⟨k, l, rfl, hk, HW, HL, HG, HX⟩ := hrel
    rename World => wr
    by_cases hlk : k < nf
    · obtain ⟨a0, a1, a2⟩ := (HA.out.ext HX.out).at3
      go_wp2_with fail
      refine (CP.out k (by omega) _ (hW0.out.trans HX.out)).mono ?_
      rintro _ w3 ⟨uP, rfl, iP, x3⟩
      have IP := hid iP
      obtain ⟨aP, cP, rfl, -, -, -⟩ := iP
      clear a0 a1 a2
      go_wp2_with fail
      refine (CT.out k _ _ (hW0.out.trans (HX.out.trans x3)) IP.out).mono ?_
      rintro _ w4 ⟨aT, cT, rfl, iT, hO, x4⟩
      rw [LPW.out] at hO iT
      rw [LPW.out]
      obtain ⟨gT, rfl, hgT⟩ := hO (by omega)
      have hne : gT ≠ g := by have := HW.out.1; have := x3.size; omega
      have IT := hid iT
      have HW4 := hid (HW.out.ext (x3.trans x4))
      have X4 := hid (HX.out.trans (x3.trans x4))
      obtain ⟨bf, off, rfl, hbf, hcf⟩ := F3.out (by omega)
      have gf := hcf k hlk
      obtain ⟨y, ey⟩ : ∃ y, f.getD k 0 = y := ⟨_, rfl⟩
      have ry := HF.out.getD hp2.1 k
      rw [ey] at gf ry
      have EY := hid ey
      have GF := hid (fun (W : World) (hW : Ext w W) => (hW.cells _ _ hbf).trans gf)
      clear IP hO iT hcf gf ey hbf
      have HGk := HG; have HXr := HX
      go_wp2_with fail
      go_loopw [12] (fun jv wi => ∃ (j : Nat) (m : List Int), jv = .int .i64 j ∧ j ≤ n ∧ Hid (WRow wi g 0 m) ∧ Hid (m.length = n) ∧ Hid (∀ i, i < n → m.getD i 0 = if i < j then F (k + 1) i else F k i) ∧ Hid (Ext w1 wi) ∧ Hid (Ints .u64 wi (.slice (some ⟨gT, 0, none⟩) n cT) (powL p n xs k b))) (fun jv _ => n - (intOf jv).toNat)
      case atStart => exact ⟨0, l, rfl, Nat.zero_le _, HW4, HL, hid (fun i hi => by rw [if_neg (by omega)]; exact HGk.out i hi), X4, IT⟩
      case round =>
        clear HW HL HG HX HW4 X4 IT
        obtain ⟨j, m, rfl, hj, HW, HL, HG, HX, IT⟩ := hrel
        rename World => wi
        by_cases hlj : j < n
        · have hj1 : (j : Int) < (n : Int) := by omega
          have gq := (HW.out.2 j (by rw [HL.out]; exact hlj)).1
          have gt : wi.cell? ⟨gT, j, none⟩ = some (.int .u64 ((powL p n xs k b).getD j 0)) := by
            obtain ⟨a', c', e, _, _, h3⟩ := IT.out
            obtain ⟨b', o', e2, hb', kc⟩ := h3 (by rw [LPW.out]; omega)
            injection e with e1 _ _
            rw [e2] at e1
            injection e1 with e1
            injection e1 with e3 e4
            subst e3; subst e4
            have := kc j (by rw [LPW.out]; exact hlj)
            rwa [Nat.zero_add] at this
          have gf := GF.out wi (hW0.out.trans HX.out)
          rw [Nat.zero_add] at gq
          have hst := HST.out k j hlj
          have hgj := HG.out j hlj
          rw [if_neg (by omega)] at hgj
          rw [hgj] at gq
          have rz := HFR.out k j
          have rx := (RPW.out k).getD hp2.1 j
          obtain ⟨z, ez⟩ : ∃ z, F k j = z := ⟨_, rfl⟩
          obtain ⟨x, ex⟩ : ∃ x, (powL p n xs k b).getD j 0 = x := ⟨_, rfl⟩
          rw [ex, ez, EY.out] at hst
          rw [ez] at gq rz; rw [ex] at gt rx
          obtain ⟨q, eq, q0, q1⟩ := name_mod (p := p) (y * x) hp2.1
          obtain ⟨t, et, t0, t1⟩ := name_mod (p := p) (z + q) hp2.1
          rw [eq, et] at hst
          have Eq := hid eq; have Et := hid et; have HS := hid hst
          have fz := (HW.out.2 j (by rw [HL.out]; exact hlj)).2
          rw [Nat.zero_add] at fz
          clear ez ex eq et hst hgj
          go_wp2_with fail
          go_region_law (first
            | (go_simp; go_at_call 46; refine (rMul p y x q _ HP.out ry.1 ry.2 rx.1 (by omega) Eq.out).mono ?_; rintro _ _ ⟨rfl, rfl⟩)
            | (go_simp; go_at_call 45; refine (rAdd p z q t _ HP.out rz.1 rz.2 q0 q1 Et.out).mono ?_; rintro _ _ ⟨rfl, rfl⟩))
          all_goals
            have hsetw := hid ((HW.out.ext ((Ext.refl wi).drew)).set_ (i := j) (by rw [HL.out]; exact hlj) t)
            rw [Nat.zero_add] at hsetw
            have hi8 := hid ((IT.out.ext ((Ext.refl wi).drew)).grown (setCell_grown _ ⟨g, j, none⟩ (.int .u64 t)) (fun b hb e => by
              injection e with e
              subst e
              exact hne (by simpa [Value.ownBlock] using hb)))
            have hx8 := hid ((HX.out.trans ((Ext.refl wi).drew)).setCell (p := ⟨g, j, none⟩) hg1 (.int .u64 t))
            go_wp2_with fail
            go_roundw
            case rel =>
              refine ⟨j + 1, m.set j t, by go_num, by omega, hsetw, hid (by rw [List.length_set]; exact HL.out), hid (fun i hi => ?_), hx8, hi8⟩
              rw [set_get _ _ _ _ (by rw [HL.out]; exact hlj)]
              by_cases e : j = i
              · subst e
                rw [if_pos rfl, if_pos (by omega)]; exact HS.out.symm
              · rw [if_neg e, HG.out i hi]
                by_cases e2 : i < j
                · rw [if_pos e2, if_pos (by omega)]
                · rw [if_neg e2, if_neg (by omega)]
            case measure => simp [intOf]; omega
        · obtain rfl : n = j := by omega
          go_wp2_with fail
          go_roundw
          case rel => exact ⟨k + 1, m, by go_num, by omega, HW, HL, hid (fun i hi => by rw [HG.out i hi, if_pos hi]), HX⟩
          case measure => simp [intOf]; omega
    · obtain rfl : nf = k := by omega
      have e : l = pdoL p n xs f b := tab_of HL.out fun i hi => by
        rw [HG.out i hi, HFE.out]
        unfold termsF
        rw [ENF.out]
      have hI := hid (show Ints .u64 wr (.slice (some ⟨g, 0, none⟩) n n) (pdoL p n xs f b) from e ▸ HW.out.ints' HL.out (Nat.le_refl n) (by omega))
      clear e
      go_wp2_with fail
      go_ret
      exact ⟨_, rfl, hI.out, hW0.out.trans HX.out⟩
end Go.Proofs.Ythmmakkldkjnlaa
/- The document's own answers of layer 9: Of, Min. -/
namespace Go.Proofs.Ythmmakkldkjnlaa
open Go.RowKit Go.Maps

/-- rows that are gathered, each in memory of its own -/
structure RowsA (w0 w : World) (base : Nat) (rv : Value) (us : List Value) (i wd : Nat) (L : Nat → List Int) : Prop where
  own : w.ownsRow base 23 1 rv i us
  row : ∀ j, j < i → ∃ g c, us.getD j undef = .slice (some ⟨g, 0, none⟩) wd c ∧ g < w.heap.size ∧ rv.ownBlock ≠ some g ∧ Ints .u64 w (.slice (some ⟨g, 0, none⟩) wd c) (L j)
  ext : Ext w0 w
  lo : w0.heap.size ≤ base ∧ base ≤ w.heap.size
theorem RowsA.start {w0 : World} {wd : Nat} {L : Nat → List Int} {w : World} (x : Ext w0 w) : RowsA w0 w w.heap.size (.slice none 0 0) [] 0 wd L := ⟨World.ownsRow_nil _ _ _ _, fun _ h => absurd h (Nat.not_lt_zero _), x, x.size, Nat.le_refl _⟩
/-- a row is put behind -/
theorem RowsA.next {w0 w w1 w' : World} {base : Nat} {rv v' : Value} {us : List Value} {i wd g c : Nat} {L : Nat → List Int} {o : Obj} (h : RowsA w0 w base rv us i wd L) (x : Ext w w1) (hg : w.heap.size ≤ g) (hg1 : g < w1.heap.size) (hI : Ints .u64 w1 (.slice (some ⟨g, 0, none⟩) wd c) (L i))
    (ho : w'.ownsRow base 23 1 v' (i + 1) (us ++ [.slice (some ⟨g, 0, none⟩) wd c])) (hgr : (w1.alloc o).grownBy w' rv.ownBlock) (hat : v'.ownBlock = rv.ownBlock ∨ v'.ownBlock = some (w1.alloc o).heap.size) : RowsA w0 w' base v' (us ++ [.slice (some ⟨g, 0, none⟩) wd c]) (i + 1) wd L := by
  have hul : us.length = i := by have := h.own.1; simpa using this
  have hs := x.size
  have hsz : (w1.alloc o).heap.size = w1.heap.size + 1 := alloc_size _ _
  have hx2 := (Ext.refl w1).alloc o
  have hgs := hgr.size
  have hlo := h.lo.2
  have stay : ∀ (g' c' : Nat) (l : List Int), g' < w1.heap.size → rv.ownBlock ≠ some g' → Ints .u64 w1 (.slice (some ⟨g', 0, none⟩) wd c') l → v'.ownBlock ≠ some g' ∧ Ints .u64 w' (.slice (some ⟨g', 0, none⟩) wd c') l := fun g' c' l h1 h2 h3 => by
    refine ⟨?_, (h3.ext hx2).grown hgr fun b hb e => h2 ?_⟩
    · rcases hat with e | e
      · rw [e]; exact h2
      · rw [e, hsz]; intro e2; injection e2 with e2; omega
    · have : some g' = some b := hb
      rw [e, ← this]
  refine ⟨ho, fun j hj => ?_, (h.ext.trans (x.trans hx2)).grown hgr fun b e => Nat.le_trans h.lo.1 (h.own.lt b e).1, h.lo.1, by omega⟩
  rw [getD_snoc]
  by_cases e : j < i
  · rw [if_pos (by omega)]
    obtain ⟨g', c', e1, e2, e3, e4⟩ := h.row j e
    obtain ⟨f1, f2⟩ := stay g' c' (L j) (by omega) e3 (e4.ext x)
    exact ⟨g', c', e1, by omega, f1, f2⟩
  · obtain rfl : j = i := by omega
    rw [if_neg (by omega), if_pos hul.symm]
    have hne : rv.ownBlock ≠ some g := fun e => by have := (h.own.lt g e).2; omega
    obtain ⟨f1, f2⟩ := stay g c (L j) hg1 hne hI
    exact ⟨g, c, rfl, by omega, f1, f2⟩
/-- what least asks of them -/
theorem RowsA.rows {w0 w : World} {base : Nat} {rv : Value} {us : List Value} {N wd : Nat} {L : Nat → List Int} (h : RowsA w0 w base rv us N wd L) (hN : 0 < N) :
    ∃ bl cap, rv = .slice (some ⟨bl, 0, none⟩) N cap ∧ N ≤ cap ∧ cap ≤ 9223372036854775807 ∧ ∀ k, k < N → ∃ a c, (∀ W, Ext w W → W.cell? ⟨bl, k, none⟩ = some (.slice a wd c)) ∧ Ints .u64 w (.slice a wd c) (L k) := by
  obtain ⟨a, cap, rfl, -, h2, h3, h4⟩ := own_slice h.own
  obtain ⟨bl, rfl, -, hb, hc⟩ := h4 hN
  refine ⟨bl, cap, rfl, h2, h3, fun k hk => ?_⟩
  obtain ⟨g, c, e1, -, -, e4⟩ := h.row k hk
  exact ⟨_, c, fun W hW => by rw [hW.cells _ _ hb, hc k hk, e1], e4⟩

set_option maxRecDepth 100000 in
set_option maxHeartbeats 2000000 in
theorem r9Of (p : Int) (n : Nat) (v u : Value) (xs b g : List Int) (w : World) (ok : MatOk p n n xs) (hf : Fld p) (hn8 : n ≤ 60) (hv : Ints .u64 w v xs) (hu : Ints .u64 w u b) (hb : b.length = n) (hr : Rng p b) (hg : OwnL p n xs b g) :
    Calls Try.prog 19 #[.int .u64 p, matV n n v, u] w (RetL g w) := by
  have hp2 := rightB_true ok.hp
  have hn := ok.hn
  obtain ⟨i1, hi1, hr0, hr1, hr2⟩ := info_parts info_rows
  have CP := hid fun (k : Nat) (hk : k ≤ 64) (W : World) (hW : Ext w W) => r9PowerA p n k v xs W ok hk (hv.ext hW)
  have CT := hid fun (k : Nat) (W : World) (z : Value) (hW : Ext w W) (hz : Ints .u64 W z (pwL p n xs k)) => (show Calls Try.prog 21 #[.int .u64 p, matV n n z, u] W (RetLO (powL p n xs k b) W) from pwL_times hp2.1 hr hb k ▸ rmTimesO p n n z u (pwL p n xs k) b W ok.hp hz (hu.ext hW) (pwL_rng hp2.1 xs k) hr hn.2 hn.2 (pwL_len xs k) hb)
  have CL := hid fun (W : World) (bl cap : Nat) (h1 : n + 1 ≤ cap) (h2 : cap ≤ 9223372036854775807) (h3 : ∀ k, k < n + 1 → ∃ a c, (∀ W', Ext W W' → W'.cell? ⟨bl, k, none⟩ = some (.slice a n c)) ∧ Ints .u64 W (.slice a n c) (powL p n xs k b)) =>
    r9Least p (n + 1) n n (fun k => powL p n xs k b) bl cap W (atF n xs) (fun u => u = atV b) g ok.hp hf (by omega) h1 h2 hn (fun k _ => ⟨powL_len hb k, powL_rng hp2.1 hr k⟩) h3 tells_own hg (hg.len (hf.has hp2.1))
  have HLl := hid fun k => powL_len (p := p) (xs := xs) hb k
  obtain ⟨L, hL⟩ : ∃ L : Nat → List Int, (fun k => powL p n xs k b) = L := ⟨_, rfl⟩
  have eL : ∀ k, powL p n xs k b = L k := fun k => congrFun hL k
  simp only [eL] at CT CL HLl
  obtain ⟨Q, hQ⟩ : ∃ Q, n * n = Q := ⟨_, rfl⟩
  have HQl := hid fun k => (show (pwL p n xs k).length = Q by rw [pwL_len, hQ])
  clear hL eL hQ
  unfold RetMA matV at CP
  unfold RetLO matV at CT
  unfold RetL at CL
  obtain ⟨a', cap', rfl, -, -, -⟩ := hu
  clear hg hr hb ok hf
  unfold matV
  obtain ⟨a, cap, rfl, -, -, -⟩ := hv
  have hA := Blk.new w 25 #[.int .i64 (n : Int), .int .i64 (n : Int), .slice a xs.length cap]
  have hxA := (Ext.refl w).alloc (.cells #[.int .i64 (n : Int), .int .i64 (n : Int), .slice a xs.length cap] 25)
  go_enter Try.func19, Try.ntmps19
  go_wp2_with fail
  obtain ⟨wA, hwA⟩ : ∃ wA, w.alloc (.cells #[.int .i64 (n : Int), .int .i64 (n : Int), .slice a xs.length cap] 25) = wA := ⟨_, rfl⟩
  rw [hwA] at hA hxA
  rw [hwA]
  have HA := hid hA; have HXA := hid hxA
  have HR0 := hid (RowsA.start (wd := n) (L := L) (Ext.refl wA))
  obtain ⟨base, hbase⟩ : ∃ b, wA.heap.size = b := ⟨_, rfl⟩
  rw [hbase] at HR0
  clear hwA hA hxA hbase
  go_loopw [7, 8] (fun lv kv wr => ∃ (i : Nat) (us : List Value), kv = .int .i64 i ∧ i ≤ n + 1 ∧ Hid (RowsA wA wr base lv us i n L)) (fun _ kv _ => n + 1 - (intOf kv).toNat)
  case atStart => exact ⟨0, [], rfl, Nat.zero_le _, HR0⟩
  case round =>
    clear HR0
    obtain ⟨i, us, rfl, hi', HRA⟩ := hrel
    rename World => wr
    have hxr := HRA.out.ext
    obtain ⟨b0, b1, b2⟩ := (HA.out.ext hxr).at3
    have hbs := HRA.out.lo.2
    obtain ⟨ar, cr, rfl, -, -, -, -⟩ := own_slice HRA.out.own
    by_cases hlt : i ≤ n
    · have t1 : decide ((i : Int) ≤ (n : Int)) = true := decide_eq_true (by omega)
      have t1' : decide (i ≤ n) = true := decide_eq_true hlt
      go_wp2_with fail
      refine (CP.out i (by omega) wr (HXA.out.trans hxr)).mono ?_
      rintro _ w5 ⟨ap, cp, rfl, ip, -, x5⟩
      rw [HQl.out i]
      rw [HQl.out i] at ip
      have IP := hid ip
      clear b0 b1 b2 ip
      go_wp2_with fail
      refine (CT.out i w5 _ (HXA.out.trans (hxr.trans x5)) IP.out).mono ?_
      rintro _ w6 ⟨at', ct, rfl, it, gt, x6⟩
      have hli := HLl.out i
      rw [hli] at it gt
      rw [hli]
      obtain ⟨gr, rfl, hgt⟩ := gt (by omega)
      have HIt := hid it
      have hgb : wr.heap.size ≤ gr := Nat.le_trans x5.size hgt
      have hgs : gr < w6.heap.size := by
        obtain ⟨a9, c9, e9, -, -, h9⟩ := it
        rw [hli] at h9
        obtain ⟨b9, o9, e8, hb9, -⟩ := h9 (by omega)
        injection e9 with e7 _ _
        rw [e8] at e7
        injection e7 with e7
        injection e7 with e6 _
        omega
      clear it gt hli
      go_wp2_with (at_builtin; refine wpList_append_own_at _ rfl _ _ 28 rfl base 23 i1 (.slice none 0 0) 1 24 Try.underlying28 hi1 hr0 hr1 hr2 rfl (by decide) (.slice ar i cr) i us rfl ((ownsRow_ext HRA.out.own (x5.trans x6)).alloc _) ⟨w6.heap.size, 0, none⟩ 1 1 [.slice (some ⟨gr, 0, none⟩) n ct] rfl rfl (cells_new _ _ _ rfl) (by simp [Value.oneCell']) (by simp only [maxLen]; omega) (by omega) (by have := (x5.trans x6).size; simp; omega) ?_
                   intro v9 w9 hown9 hgrow9 hnil9 hat9)
      go_roundw
      case rel => exact ⟨i + 1, _, by go_num, by omega, hid (HRA.out.next (x5.trans x6) hgb hgs HIt.out hown9 hgrow9 hat9)⟩
      case measure => simp [intOf]; omega
    · obtain rfl : i = n + 1 := by omega
      obtain ⟨bl, cap2, e2, hN1, hN2, hrows⟩ := HRA.out.rows (by omega)
      have CL2 := hid (CL.out wr bl cap2 hN1 hN2 hrows)
      injection e2 with e3 _ e4
      subst e3
      subst e4
      clear hrows hN1 hN2
      go_wp2_with fail
      refine CL2.out.mono ?_
      rintro _ wz ⟨z, rfl, iz, xz⟩
      go_wp2_with fail
      go_ret
      exact ⟨z, rfl, iz, HXA.out.trans (hxr.trans xz)⟩

theorem field_cells (x y z : Value) (W : World) : (Instr.field 25 (.agg #[x, y, z]) 2).run Try.prog W = .ok z W := by
  kernel_rfl
set_option maxRecDepth 100000 in
set_option maxHeartbeats 2000000 in
theorem r9Min (p : Int) (n : Nat) (v : Value) (xs h : List Int) (w : World) (ok : MatOk p n n xs) (hf : Fld p) (hn8 : n ≤ 8) (hv : Ints .u64 w v xs) (hg : MinL p n xs h) :
    Calls Try.prog 18 #[.int .u64 p, matV n n v] w (RetL h w) := by
  have hp2 := rightB_true ok.hp
  have hn := ok.hn
  obtain ⟨i1, hi1, hr0, hr1, hr2⟩ := info_parts info_rows
  have CP := hid fun (k : Nat) (hk : k ≤ 64) (W : World) (hW : Ext w W) => r9PowerA p n k v xs W ok hk (hv.ext hW)
  obtain ⟨Q, hQ⟩ : ∃ Q, n * n = Q := ⟨_, rfl⟩
  have hQ0 : 0 < Q := by rw [← hQ]; exact Nat.mul_pos (by omega) (by omega)
  have hQ64 : Q ≤ 64 := by rw [← hQ]; exact Nat.mul_le_mul hn8 hn8
  have CL := hid fun (W : World) (bl cap : Nat) (h1 : n + 1 ≤ cap) (h2 : cap ≤ 9223372036854775807) (h3 : ∀ k, k < n + 1 → ∃ a c, (∀ W', Ext W W' → W'.cell? ⟨bl, k, none⟩ = some (.slice a Q c)) ∧ Ints .u64 W (.slice a Q c) (pwL p n xs k)) =>
    r9Least p (n + 1) Q n (fun k => pwL p n xs k) bl cap W (atF n xs) (fun v => ∃ i, i < n ∧ v = uniF i) h ok.hp hf (by omega) h1 h2 ⟨hQ0, hQ64⟩ (fun k _ => ⟨by rw [pwL_len, hQ], pwL_rng hp2.1 xs k⟩) h3 (hQ ▸ tells_min) hg (hg.len (hf.has hp2.1))
  have HLl := hid fun k => (show (pwL p n xs k).length = Q by rw [pwL_len, hQ])
  obtain ⟨L, hL⟩ : ∃ L : Nat → List Int, (fun k => pwL p n xs k) = L := ⟨_, rfl⟩
  have eL : ∀ k, pwL p n xs k = L k := fun k => congrFun hL k
  simp only [eL] at CP CL HLl
  clear hL eL hQ
  unfold RetMA matV at CP
  unfold RetL at CL
  have hfd := field_cells
  clear hg ok hf
  unfold matV
  obtain ⟨a, cap, rfl, -, -, -⟩ := hv
  have hA := Blk.new w 25 #[.int .i64 (n : Int), .int .i64 (n : Int), .slice a xs.length cap]
  have hxA := (Ext.refl w).alloc (.cells #[.int .i64 (n : Int), .int .i64 (n : Int), .slice a xs.length cap] 25)
  go_enter Try.func18, Try.ntmps18
  go_wp2_with fail
  obtain ⟨wA, hwA⟩ : ∃ wA, w.alloc (.cells #[.int .i64 (n : Int), .int .i64 (n : Int), .slice a xs.length cap] 25) = wA := ⟨_, rfl⟩
  rw [hwA] at hA hxA
  rw [hwA]
  have HA := hid hA; have HXA := hid hxA
  have HR0 := hid (RowsA.start (wd := Q) (L := L) (Ext.refl wA))
  obtain ⟨base, hbase⟩ : ∃ b, wA.heap.size = b := ⟨_, rfl⟩
  rw [hbase] at HR0
  clear hwA hA hxA hbase
  go_loopw [5, 6] (fun lv kv wr => ∃ (i : Nat) (us : List Value), kv = .int .i64 i ∧ i ≤ n + 1 ∧ Hid (RowsA wA wr base lv us i Q L)) (fun _ kv _ => n + 1 - (intOf kv).toNat)
  case atStart => exact ⟨0, [], rfl, Nat.zero_le _, HR0⟩
  case round =>
    clear HR0
    obtain ⟨i, us, rfl, hi', HRA⟩ := hrel
    rename World => wr
    have hxr := HRA.out.ext
    obtain ⟨b0, b1, b2⟩ := (HA.out.ext hxr).at3
    have hbs := HRA.out.lo.2
    obtain ⟨ar, cr, rfl, -, -, -, -⟩ := own_slice HRA.out.own
    by_cases hlt : i ≤ n
    · have t1 : decide ((i : Int) ≤ (n : Int)) = true := decide_eq_true (by omega)
      have t1' : decide (i ≤ n) = true := decide_eq_true hlt
      go_wp2_with fail
      refine (CP.out i (by omega) wr (HXA.out.trans hxr)).mono ?_
      rintro _ w5 ⟨ap, ct, rfl, it, gt, x5⟩
      have hli := HLl.out i
      rw [hli] at it gt
      rw [hli]
      obtain ⟨gr, rfl, hgb⟩ := gt hQ0
      have HIt := hid it
      have hgs : gr < w5.heap.size := by
        obtain ⟨a9, c9, e9, -, -, h9⟩ := it
        rw [hli] at h9
        obtain ⟨b9, o9, e8, hb9, -⟩ := h9 hQ0
        injection e9 with e7 _ _
        rw [e8] at e7
        injection e7 with e7
        injection e7 with e6 _
        omega
      clear it gt hli b0 b1 b2
      go_wp2_with (at_builtin; (refine wpList_append_own_at _ rfl _ _ 28 rfl base 23 i1 (.slice none 0 0) 1 24 Try.underlying28 hi1 hr0 hr1 hr2 rfl (by decide) (.slice ar i cr) i us rfl ((ownsRow_ext HRA.out.own x5).alloc _) ⟨w5.heap.size, 0, none⟩ 1 1 [.slice (some ⟨gr, 0, none⟩) Q ct] rfl rfl (cells_new _ _ _ rfl) (by simp [Value.oneCell']) (by simp only [maxLen]; omega) (by omega) (by have := x5.size; simp; omega) ?_)
                   intro v9 w9 hown9 hgrow9 hnil9 hat9)
      go_roundw
      case rel => exact ⟨i + 1, _, by go_num, by omega, hid (HRA.out.next x5 hgb hgs HIt.out hown9 hgrow9 hat9)⟩
      case measure => simp [intOf]; omega
    · obtain rfl : i = n + 1 := by omega
      obtain ⟨bl, cap2, e2, hN1, hN2, hrows⟩ := HRA.out.rows (by omega)
      have CL2 := hid (CL.out wr bl cap2 hN1 hN2 hrows)
      injection e2 with e3 _ e4
      subst e3
      subst e4
      clear hrows hN1 hN2
      go_wp2_with fail
      refine CL2.out.mono ?_
      rintro _ wz ⟨z, rfl, iz, xz⟩
      go_wp2_with fail
      go_ret
      exact ⟨z, rfl, iz, HXA.out.trans (hxr.trans xz)⟩
end Go.Proofs.Ythmmakkldkjnlaa
