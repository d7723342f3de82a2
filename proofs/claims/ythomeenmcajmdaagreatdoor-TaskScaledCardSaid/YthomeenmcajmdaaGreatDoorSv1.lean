import Derived.Test.YthomeenmcajmdaaGreatDoorBun22
import Derived.Test.YthomeenmcajmdaaGreatDoorBun20
import Derived.Test.YthomeenmcajmdaaGreatDoorBun23
namespace Go.Proofs.YthomeenmcajmdaaGreatDoor
open Go.RowKit Go.Maps
def zL (l : List Nat) : List Int := l.map fun k : Nat => (k : Int)
theorem zL_len (l : List Nat) : (zL l).length = l.length := List.length_map _
theorem zL_get (l : List Nat) (k : Nat) : (zL l).getD k 0 = ((l.getD k 0 : Nat) : Int) := by
  simp only [zL, List.getD, List.getElem?_map]
  cases l[k]? <;> rfl
theorem offE_yes {R : List Nat} {k : Nat} (h : k ∈ R) : offE (k + 1) R = offE k R := by simp [offE, List.range_succ, List.filter_append, h]
theorem offE_no {R : List Nat} {k : Nat} (h : k ∉ R) : offE (k + 1) R = offE k R ++ [k] := by simp [offE, List.range_succ, List.filter_append, h]
theorem offE_le (R : List Nat) (k : Nat) : (offE k R).length ≤ k := by
  have := List.length_filter_le (fun i => decide (i ∉ R)) (List.range k)
  rwa [List.length_range] at this
set_option maxHeartbeats 1000000 in
theorem svIndex (v : Value) (R : List Nat) (x : Nat) (w : World) (hv : Ints .i64 w v (zL R)) (hl : R.length ≤ 64) : Calls Tryz.prog 176 #[v, .int .i64 x] w fun e w' => e = .returned (.int .i64 (if x ∈ R then (R.idxOf x : Int) else -1)) ∧ w = w' := by
  obtain ⟨L, hL⟩ : ∃ L : Int, (if x ∈ R then (R.idxOf x : Int) else -1) = L := ⟨_, rfl⟩
  rw [hL]
  have HL := hid hL
  obtain ⟨a, cap, rfl, k1, k2, k3⟩ := hv
  rw [zL_len] at k1 k3 ⊢
  have K3 := hid k3
  obtain ⟨n, en⟩ : ∃ n, R.length = n := ⟨_, rfl⟩
  have En := hid en
  rw [en] at k1 K3 hl ⊢
  clear k3 hL en
  go_enter Tryz.func176, Tryz.ntmps176
  go_wp2_with fail
  go_loopw [8] (fun iv wr => ∃ (j : Nat), iv = .int .i64 j ∧ j ≤ n ∧ Hid (∀ t, t < j → R.getD t 0 ≠ x) ∧ w = wr) (fun iv _ => n - (intOf iv).toNat)
  case atStart => exact ⟨0, rfl, Nat.zero_le _, hid (fun t ht => absurd ht (Nat.not_lt_zero _)), rfl⟩
  case round =>
    obtain ⟨j, rfl, hj, hz, rfl⟩ := hrel
    by_cases hlt : j < n
    · obtain ⟨b, off, rfl, hb, hc⟩ := K3.out (by omega)
      have g1 := hc j hlt
      rw [zL_get] at g1
      obtain ⟨y, ey⟩ : ∃ y, R.getD j 0 = y := ⟨_, rfl⟩
      rw [ey] at g1
      have Ey := hid ey
      clear ey hc
      by_cases c : x = y
      · have e0 : ((x : Int) == (y : Int)) = true := by simp [c]
        have hLj := hid (show L = (j : Int) by
          have hjl : j < R.length := by rw [En.out]; exact hlt
          have e1 : R[j] = x := by rw [c, ← Ey.out, List.getD, List.getElem?_eq_getElem hjl]; rfl
          have hmem : x ∈ R := by rw [← e1]; exact List.getElem_mem hjl
          rw [← HL.out, if_pos hmem]
          congr 1
          refine Nat.le_antisymm ?_ ?_
          · refine Nat.le_of_not_lt fun hlt2 => ?_
            have := List.not_of_lt_findIdx (xs := R) (p := fun z => z == x) (i := j) (by unfold List.idxOf at hlt2; exact hlt2)
            rw [e1] at this; simp at this
          · refine Nat.le_of_not_lt fun hlt2 => ?_
            have h2 := hz.out _ hlt2
            rw [List.getD, List.getElem?_eq_getElem (Nat.lt_trans hlt2 hjl)] at h2
            exact h2 (List.getElem_idxOf _))
        clear c
        go_wp2_with fail
        go_ret
        exact ⟨ret_int hLj.out.symm, rfl⟩
      · have e0 : ((x : Int) == (y : Int)) = false := by simp; omega
        have C := hid c
        clear c
        go_wp2_with fail
        go_roundw
        case rel =>
          refine ⟨j + 1, by go_num, by omega, hid (fun t ht => ?_), by trivial⟩
          by_cases e : t = j
          · rw [e, Ey.out]; exact fun h => C.out h.symm
          · exact hz.out t (by omega)
        case measure => simp [intOf]; omega
    · obtain rfl : n = j := by omega
      have hLj := hid (show L = -1 by
        rw [← HL.out, if_neg]
        intro hm
        obtain ⟨t, ht, e⟩ := List.getElem_of_mem hm
        have := hz.out t (by rw [← En.out]; exact ht)
        rw [List.getD, List.getElem?_eq_getElem ht] at this
        exact this e)
      go_wp2_with fail
      go_ret
      exact ⟨ret_int hLj.out.symm, rfl⟩
theorem svContains (v : Value) (R : List Nat) (x : Nat) (w : World) (hv : Ints .i64 w v (zL R)) (hl : R.length ≤ 64) : Calls Tryz.prog 173 #[v, .int .i64 x] w fun e w' => e = .returned (.bool (decide (x ∈ R))) ∧ w = w' := by
  have C := hid (svIndex v R x w hv hl)
  obtain ⟨a, cap, rfl, k1, k2, k3⟩ := hv
  clear k3
  by_cases h : x ∈ R
  · rw [if_pos h] at C
    rw [decide_eq_true h]
    obtain ⟨i, hi⟩ : ∃ i, R.idxOf x = i := ⟨_, rfl⟩
    rw [hi] at C
    have t0 : decide ((0 : Int) ≤ (i : Int)) = true := decide_eq_true (by omega)
    clear h hi
    go_enter Tryz.func173, Tryz.ntmps173
    go_wp2_with (go_at_call 176; refine C.out.mono ?_; rintro _ _ ⟨rfl, rfl⟩)
    go_ret
    exact ⟨ret_bool (by simp), rfl⟩
  · rw [if_neg h] at C
    rw [decide_eq_false h]
    clear h
    go_enter Tryz.func173, Tryz.ntmps173
    go_wp2_with (go_at_call 176; refine C.out.mono ?_; rintro _ _ ⟨rfl, rfl⟩)
    go_ret
    exact ⟨ret_bool (by simp), rfl⟩
set_option maxHeartbeats 1000000 in
theorem svOthers (v : Value) (R : List Nat) (m : Nat) (w : World) (hv : Ints .i64 w v (zL R)) (hl : R.length ≤ 64) (hm : m ≤ 64) : Calls Tryz.prog 159 #[v, .int .i64 m] w (RetI (zL (offE m R)) w) := by
  obtain ⟨i0, hi, hz0, hz1, hz2⟩ := info_parts info_i64p
  have C := hid fun (x : Nat) (W : World) (hW : Ext w W) => svContains v R x W (hv.ext hW) hl
  have HO := hid fun k => offE_le R k
  obtain ⟨a, cap, rfl, k1, k2, k3⟩ := hv
  rw [zL_len] at k1 C ⊢
  clear k3
  go_enter Tryz.func159, Tryz.ntmps159
  go_wp2_with fail
  go_loopw [8, 5] (fun iv rv wr => ∃ k n : Nat, iv = .int .i64 k ∧ k ≤ m ∧ n ≤ k ∧ Hid ((offE k R).length = n) ∧ Hid (wr.ownsRow w.heap.size 3 1 rv n ((zL (offE k R)).map (Value.int .i64))) ∧ Ext w wr) (fun iv _ _ => m - (intOf iv).toNat)
  case atStart => exact ⟨0, 0, rfl, Nat.zero_le _, Nat.le_refl _, hid rfl, hid (World.ownsRow_nil _ _ _ _), Ext.refl _⟩
  case round =>
    obtain ⟨k, n, rfl, hk, hn, hnl, hown, hxr⟩ := hrel
    have hsz := hxr.size
    by_cases hlt : k < m
    · have C2 := hid (C.out k wr hxr)
      by_cases hc : k ∈ R
      · rw [decide_eq_true hc] at C2
        have E := hid (offE_yes hc)
        clear hc
        go_wp2_with (go_at_call 173; refine C2.out.mono ?_; rintro _ _ ⟨rfl, rfl⟩)
        go_roundw
        case rel => exact ⟨k + 1, n, by go_num, by omega, by omega, hid (by rw [E.out]; exact hnl.out), hid (by rw [E.out]; exact hown.out), hxr⟩
        case measure => simp [intOf]; omega
      · rw [decide_eq_false hc] at C2
        have E := hid (offE_no hc)
        have happ := hid (show ((zL (offE k R)).map (Value.int .i64)) ++ [Value.int .i64 (k : Int)] = (zL (offE (k + 1) R)).map (Value.int .i64) by rw [E.out]; simp [zL])
        clear hc
        go_wp2_with (first
          | (go_at_call 173; refine C2.out.mono ?_; rintro _ _ ⟨rfl, rfl⟩)
          | (at_builtin; refine wpList_append_own _ rfl _ _ 55 rfl w.heap.size 3 i0 (.int .i64 0) 1 8 Tryz.underlying55 hi hz0 hz1 hz2 rfl (by decide) _ _ _ rfl (hown.out.alloc _) ⟨wr.heap.size, 0, none⟩ 1 1 [.int .i64 (k : Int)] rfl rfl (cells_new _ _ _ (by simp)) (by simp [Value.oneCell']) (by simp only [maxLen]; omega) (by omega) (by simp; omega) ?_; intro v' w6 hown6 hgrow6 hnil6) | fail)
        go_roundw
        case rel => exact ⟨k + 1, n + 1, by go_num, by omega, by omega, hid (by rw [E.out, List.length_append, hnl.out]; rfl), hid (by rw [← happ.out]; exact hown6), (hxr.alloc _).grown hgrow6 (fun t e => (hown.out.lt t e).1)⟩
        case measure => simp [intOf]; omega
    · obtain rfl : k = m := by omega
      obtain ⟨a5, c5, rfl, c52, hI⟩ := owns_ints hown.out
      have HI := hid hI
      clear hI c52 hown
      go_wp2_with fail
      go_ret
      exact ⟨_, rfl, HI.out, hxr⟩
set_option maxHeartbeats 1000000 in
theorem svBeside (p r c : Int) (v u : Value) (xs b : List Int) (w : World) (h0 : 0 ≤ p) (h1 : p ≤ 18446744073709551615) (hv : Ints .u64 w v xs) (hu : Ints .u64 w u b) (hb : U64s b) :
    Calls Tryz.prog 118 #[.int .u64 p, matV r c v, u] w (Ret (.bool (vecB p r b)) w) := by
  have H := hid fun (W : World) (hW : Ext w W) => has_any p u b W h0 h1 (hu.ext hW) hb
  obtain ⟨B, hB⟩ : ∃ B, hasB p b = B := ⟨_, rfl⟩
  unfold vecB matV
  rw [hB] at H ⊢
  obtain ⟨a, cap, rfl, k1, k2, k3⟩ := hv
  obtain ⟨a', cap', rfl, k1', k2', k3'⟩ := hu
  clear k3 k3' hB hb
  have hA := hid (Blk.new w 26 #[.int .i64 r, .int .i64 c, .slice a xs.length cap])
  obtain ⟨b0, b1, b2⟩ := hA.out.at3
  by_cases e : (b.length : Int) = r
  · have e0 : ((b.length : Int) == r) = true := by simp [e]
    rw [decide_eq_true e]
    clear e
    go_enter Tryz.func118, Tryz.ntmps118
    go_wp2_with (go_at_call 60; refine (H.out _ (by repeat (first | exact Ext.refl _ | assumption | refine Ext.drew ?_ | refine Ext.drewN ?_ _ | refine Ext.alloc ?_ _ | refine Ext.trans ?_ (by assumption)))).mono ?_; rintro _ _ ⟨rfl, rfl⟩)
    go_ret
    exact ⟨ret_bool (by simp), (by repeat (first | exact Ext.refl _ | assumption | refine Ext.drew ?_ | refine Ext.drewN ?_ _ | refine Ext.alloc ?_ _ | refine Ext.trans ?_ (by assumption)))⟩
  · have e0 : ((b.length : Int) == r) = false := by simp [e]
    rw [decide_eq_false e]
    clear e
    go_enter Tryz.func118, Tryz.ntmps118
    go_wp2_with fail
    go_ret
    exact ⟨ret_bool (by simp), (by repeat (first | exact Ext.refl _ | assumption | refine Ext.drew ?_ | refine Ext.drewN ?_ _ | refine Ext.alloc ?_ _ | refine Ext.trans ?_ (by assumption)))⟩
end Go.Proofs.YthomeenmcajmdaaGreatDoor
