/- What the texts CatV, Sh4, ShA, Concat show, in one text. -/
import Derived.Test.YtijpeepdedfhoaaGreatBun21
import Derived.Test.YtijpeepdedfhoaaGreatBun07
import Derived.Test.YtijpeepdedfhoaaGreatBun09
import Derived.Lib.AppendZeros
import Derived.Lib.Walk
import Derived.Test.YtijpeepdedfhoaaGreatBun23
import Derived.BigQuiet
import Derived.Test.YtijpeepdedfhoaaGreatBun08
import Derived.Test.YtijpeepdedfhoaaGreatBun10
/- slices.Concat of rows of any length, at three kinds of elements. -/
namespace Go.Proofs.YtijpeepdedfhoaaGreat
open Go.RowKit Go.Maps

/-- rows of any values, each as it lies in memory -/
structure RowsA (w : World) (us : List Value) (ls : List (List Value)) : Prop where
  len : us.length = ls.length
  row : ∀ j x, us[j]? = some x → Vals w x (ls.getD j [])
theorem RowsA.ext {w w' : World} {us : List Value} {ls : List (List Value)} (h : RowsA w us ls) (he : Ext w w') : RowsA w' us ls := ⟨h.len, fun j x hj => (h.row j x hj).ext he⟩
/-- the rows' values, so many rows of them -/
def flatA (ls : List (List Value)) (k : Nat) : List Value := (ls.take k).flatten
theorem flatA_succ {ls : List (List Value)} {k : Nat} (h : k < ls.length) : flatA ls (k + 1) = flatA ls k ++ ls.getD k [] := by
  unfold flatA
  rw [List.take_succ_eq_append_getElem h, List.flatten_append]
  simp [List.getD, h]
theorem flatA_all (ls : List (List Value)) : flatA ls ls.length = ls.flatten := by unfold flatA; rw [List.take_length]
theorem flatA_le (ls : List (List Value)) (k : Nat) : (flatA ls k).length ≤ ls.flatten.length := by
  have : (ls.take k ++ ls.drop k).flatten.length = ls.flatten.length := by rw [List.take_append_drop]
  rw [List.flatten_append, List.length_append] at this
  unfold flatA
  omega
theorem wpList_append_vals {P : Program} {ops : Array Oper} {rest : List Oper} {o : Oper} {a : Act} {Q : Exit → Act → World → Prop} {w : World} (hgd : o.guard = none) (s x : Operand) (t : TypeId)
    (ho : o.op = .call { callee := .builtin .append, args := #[s, x], argTypes := #[t, t] }) (base : Nat) (e : TypeId) (i : TypeInfo) (z : Value) (bytes : Nat) (ht : P.underlying t = some (.slice e)) (hi : P.info? e = some i)
    (hz : i.zero = some z) (hsize : i.size = 1) (hby : i.bytes = bytes) (hzs : z.cells.size = 1)
    (v : Value) (n : Nat) (xs : List Value) (hs : a.eval s = v) (hown : w.ownsRow base e 1 v n xs) (u : Value) (ss : List Value) (hx : a.eval x = u) (hI : Vals w u ss) (h1 : ∀ u ∈ ss, u.oneCell' = true)
    (h63 : n + ss.length ≤ maxLen) (hbytes : (n + ss.length) * bytes ≤ 140737488355328) (hbase : base ≤ w.heap.size)
    (h : ∀ v' w', w'.ownsRow base e 1 v' (n + ss.length) (xs ++ ss) → w.grownBy w' v.ownBlock → wpList P ops Q rest (a.put o.dst v') w') : wpList P ops Q (o :: rest) a w := by
  obtain ⟨ad, cap, rfl, k1, k2, k3⟩ := hI
  cases ad with
  | none =>
    have h0 : ss.length = 0 := by
      rcases Nat.eq_zero_or_pos ss.length with h | h
      · exact h
      · obtain ⟨b, off, e, _⟩ := k3 h; cases e
    obtain rfl : ss = [] := List.eq_nil_of_length_eq_zero h0
    refine wpList_append_nil hgd s x t ho base e i 1 cap ht hi v n xs hs hown hx ?_
    have := h v w (by simpa using hown) (grown_refl _ _)
    exact this
  | some ad =>
    refine wpList_append_own w hgd s x t ho base e i z 1 bytes ht hi hz hsize hby hzs (by omega) v n xs hs hown ad ss.length cap ss hx (by simp) (fun j y hj => ?_) h1 h63 hbytes hbase fun v' w' h2 h3 _ => h v' w' h2 h3
    have hjl : j < ss.length := (List.getElem?_eq_some_iff.1 hj).1
    obtain ⟨b, off, e, hb, hcell⟩ := k3 (by omega)
    injection e with e; subst e
    rw [show ((⟨b, off, none⟩ : Addr).add j) = ⟨b, off + j, none⟩ from Go.WideShapes.add_plain _ _ _]
    exact hcell j y hj
theorem info_catU : (Tryz.prog.info? 22).map (fun i => (i.zero, i.size, i.bytes)) = some (some (.int .u64 0), 1, 8) := by kernel_rfl
set_option maxRecDepth 100000 in
set_option maxHeartbeats 2000000 in
theorem grow_catU (n : Nat) (hn : n ≤ 1000000) (w : World) : Calls Tryz.prog 99 #[.slice none 0 0, .int .i64 n] w fun e w' => ∃ v, e = .returned v ∧ w'.ownsRow w.heap.size 22 1 v 0 [] ∧ Ext w w' := by
  obtain ⟨i0, hi, hz0, hz1, hz2⟩ := info_parts info_catU
  rcases Nat.eq_zero_or_pos n with rfl | h1
  · go_enter Tryz.func99, Tryz.ntmps99
    go_wp2_with fail
    go_ret
    exact ⟨_, rfl, World.ownsRow_nil _ _ _ _, Ext.refl _⟩
  have hrz : ∀ ty, (Builtin.append_ #[23, 3] ty #[.slice none 0 0, .int .i64 (n : Int)]).run Tryz.prog w = .ok (.slice (some ⟨w.heap.size, 0, none⟩) n (grownCap w n 0 22)) (w.drew.alloc (.cells (Builtin.zeroCells #[.int .u64 0] n ++ Builtin.zeroCells #[.int .u64 0] (grownCap w n 0 22 - n)) 22)) := fun ty => by
    have h := Lib.run_append_nil_zeros w 23 3 ty 22 i0 (.int .u64 0) .i64 .i64 Tryz.underlying23 Tryz.underlying3 hi hz0 n (by omega) (by omega) (by omega) (by rw [hz2]; omega)
    exact h
  have hGn : n ≤ grownCap w n 0 22 := grownCap_ge w _ _ _
  have hGm := grownCap_le_maxLen w n 0 22 (by unfold maxLen; omega)
  obtain ⟨G, hG⟩ : ∃ G, grownCap w n 0 22 = G := ⟨_, rfl⟩
  rw [hG] at hrz hGn hGm
  unfold maxLen at hGm
  clear hG
  go_enter Tryz.func99, Tryz.ntmps99
  go_wp2_with (at_builtin; refine Lib.wpList_append_run _ rfl _ _ _ _ rfl _ _ rfl rfl _ _ (hrz _) ?_)
  go_ret
  refine ⟨_, rfl, ⟨rfl, .inr ⟨_, G, _, rfl, Nat.le_refl _, heap_alloc_new w.drew _, Nat.zero_le _, by unfold maxLen; omega, ?_, by simp⟩⟩, ((Ext.refl w).drew).alloc _⟩
  rw [Array.size_append, size_zeroCells, size_zeroCells]
  simp
  omega
set_option maxRecDepth 100000 in
set_option maxHeartbeats 2000000 in
theorem concatU (v : Value) (us : List Value) (ls : List (List Value)) (w : World) (hv : Vals w v us) (hr : RowsA w us ls) (h1 : ∀ l ∈ ls, ∀ u ∈ l, u.oneCell' = true) (hn : ls.flatten.length ≤ 1000000) :
    Calls Tryz.prog 69 #[v] w fun e w' => ∃ v', e = .returned v' ∧ w'.ownsRow w.heap.size 22 1 v' ls.flatten.length ls.flatten ∧ Ext w w' := by
  obtain ⟨i0, hi, hz0, hz1, hz2⟩ := info_parts info_catU
  have HG := hid fun (n : Nat) (hn : n ≤ 1000000) (W : World) => grow_catU n hn W
  have Hr := hid hr; have H1 := hid h1
  have hlen := hr.len
  obtain ⟨n, en⟩ : ∃ n, us.length = n := ⟨_, rfl⟩
  have HS := hid fun (k : Nat) (h : k < n) => flatA_succ (ls := ls) (k := k) (by omega)
  have HB := hid fun (k : Nat) => Nat.le_trans (flatA_le ls k) hn
  have Hm := hid fun (k : Nat) (h : k < n) => (getD_mem [] (show k < ls.length by omega) : ls.getD k [] ∈ ls)
  have Hall := hid (show flatA ls n = ls.flatten by rw [← en, hlen]; exact flatA_all ls)
  obtain ⟨a, cap, rfl, k1, k2, k3⟩ := hv
  rw [en] at k1 k3 ⊢
  have Hc := hid fun (j : Nat) (h : j < n) => (show ∃ b off x, a = some ⟨b, off, none⟩ ∧ b < w.heap.size ∧ us[j]? = some x ∧ w.cell? ⟨b, off + j, none⟩ = some x from by
    obtain ⟨b, off, e, hb, hc⟩ := k3 (by omega)
    have ex : us[j]? = some us[j] := List.getElem?_eq_getElem (by omega)
    exact ⟨b, off, _, e, hb, ex, hc j _ ex⟩)
  clear k3 hr hlen hn en h1
  go_enter Tryz.func69, Tryz.ntmps69
  go_wp2_with fail
  go_loopw [11, 3] (fun iv sv wr => ∃ (k s : Nat), iv = .int .i64 k ∧ sv = .int .i64 s ∧ k ≤ n ∧ Hid (s = (flatA ls k).length) ∧ Ext w wr) (fun iv _ _ => n - (intOf iv).toNat)
  case atStart => exact ⟨0, 0, rfl, rfl, Nat.zero_le _, hid (by simp [flatA]), Ext.refl _⟩
  case round =>
    obtain ⟨k, s, rfl, rfl, hk, hs, hxr⟩ := hrel
    have hsb := HB.out k
    rw [← hs.out] at hsb
    by_cases hlt : k < n
    · obtain ⟨b, off, x, rfl, hb, ex, hcell⟩ := Hc.out k hlt
      have g1 := (hxr.cells _ _ hb).trans hcell
      have hI := Hr.out.row k _ ex
      have hS := HS.out k hlt
      have hsb2 := HB.out (k + 1)
      rw [hS, List.length_append, ← hs.out] at hsb2
      obtain ⟨l, el⟩ : ∃ l, ls.getD k [] = l := ⟨_, rfl⟩
      rw [el] at hI hS hsb2
      obtain ⟨xa, xc, rfl, -, -, -⟩ := hI
      have hnew := hid (show s + l.length = (flatA ls (k + 1)).length by rw [hS, List.length_append, hs.out])
      obtain ⟨m, em⟩ : ∃ m, l.length = m := ⟨_, rfl⟩
      rw [em] at g1 hsb2 hnew
      clear hcell ex hS el em
      go_wp2_with fail
      go_roundw
      case rel => exact ⟨k + 1, s + m, by go_num, by go_num, by omega, hnew, hxr⟩
      case measure => simp [intOf]; omega
    · obtain rfl : k = n := by omega
      go_wp2_with fail
      refine (HG.out s (by omega) _).mono ?_
      rintro _ w1 ⟨v1, rfl, ho1, x1⟩
      have hw1 : Ext w w1 := hxr.trans x1
      have ho1' := hid (ownsRow_low ho1 hxr.size)
      clear ho1
      go_wp2_with fail
      go_loopw [27, 6] (fun iv rv wr2 => ∃ (j : Nat), iv = .int .i64 j ∧ j ≤ k ∧ Hid (wr2.ownsRow w.heap.size 22 1 rv (flatA ls j).length (flatA ls j)) ∧ Ext w wr2) (fun iv _ _ => k - (intOf iv).toNat)
      case atStart => exact ⟨0, rfl, Nat.zero_le _, hid (by simpa [flatA] using ho1'.out), hw1⟩
      case round =>
        obtain ⟨j, rfl, hj, hown, hx2⟩ := hrel
        have hsz := hx2.size
        by_cases hlt : j < k
        · obtain ⟨b, off, x, rfl, hb, ex, hcell⟩ := Hc.out j hlt
          have g1 := (hx2.cells _ _ hb).trans hcell
          have hI := (Hr.out.row j _ ex).ext hx2
          have hS := HS.out j hlt
          have hsb1 := HB.out (j + 1)
          rw [hS, List.length_append] at hsb1
          have HI := hid hI
          have H2 := hid (H1.out _ (Hm.out j hlt))
          have happ := hid (show flatA ls j ++ ls.getD j [] = flatA ls (j + 1) from hS.symm)
          have hlen2 := hid (show (flatA ls j).length + (ls.getD j []).length = (flatA ls (j + 1)).length by rw [hS, List.length_append])
          clear hI hS ex hcell
          have HI2 := HI.out
          obtain ⟨xa, xc, rfl, -, -, -⟩ := HI2
          go_wp2_with (first | (at_builtin; refine wpList_append_vals rfl _ _ 23 rfl w.heap.size 22 i0 (.int .u64 0) 8 Tryz.underlying23 hi hz0 hz1 hz2 rfl _ (flatA ls j).length _ rfl hown.out (.slice xa (ls.getD j []).length xc) (ls.getD j []) rfl HI.out H2.out (by simp only [maxLen]; omega) (by omega) (by omega) ?_; intro v' w6 hown6 hgrow6) | fail)
          go_roundw
          case rel => exact ⟨j + 1, by go_num, by omega, hid (by rw [← happ.out, List.length_append]; exact hown6), hx2.grown hgrow6 (fun t e => (hown.out.lt t e).1)⟩
          case measure => simp [intOf]; omega
        · obtain rfl : j = k := by omega
          have Ho5 := hid hown.out
          rw [Hall.out] at Ho5
          clear hown
          go_wp2_with fail
          go_ret
          exact ⟨_, rfl, Ho5.out, hx2⟩

end Go.Proofs.YtijpeepdedfhoaaGreat
/- Package shape: are all numbers of p? is each rest taken first, and once, in its row? -/
namespace Go.Proofs.YtijpeepdedfhoaaGreat
open Go.RowKit Go.Maps

/-- rows of numbers as they lie in memory -/
theorem UsL.vals {w : World} {v : Value} {ls : List (List Int)} (h : UsL w v ls) : ∃ us, Vals w v us ∧ us.length = ls.length ∧ ∀ j x, us[j]? = some x → Ints .u64 w x (ls.getD j []) := by
  obtain ⟨a, cap, rfl, h1, h2, h3⟩ := h
  rcases Nat.eq_zero_or_pos ls.length with h0 | h0
  · rw [h0]
    exact ⟨[], ⟨a, cap, rfl, Nat.zero_le _, h2, fun h => absurd h (Nat.lt_irrefl _)⟩, rfl, fun j x hj => by simp at hj⟩
  · obtain ⟨b, off, rfl, hb, hc⟩ := h3 h0
    have key : ∀ j x, ((List.range ls.length).map fun j => (w.cell? ⟨b, off + j, none⟩).getD undef)[j]? = some x → w.cell? ⟨b, off + j, none⟩ = some x ∧ Ints .u64 w x (ls.getD j []) := fun j x hj => by
      rw [List.getElem?_map] at hj
      obtain ⟨q, hq, rfl⟩ := Option.map_eq_some_iff.1 hj
      have hjl : j < ls.length := by have := (List.getElem?_eq_some_iff.1 hq).1; simpa using this
      have : q = j := by rw [List.getElem?_range hjl] at hq; injection hq with hq; exact hq.symm
      subst this
      obtain ⟨u, g, i⟩ := hc q hjl
      rw [g]
      exact ⟨rfl, i⟩
    refine ⟨_, ⟨some ⟨b, off, none⟩, cap, by simp, by simpa using h1, h2, fun _ => ⟨b, off, rfl, hb, fun j x hj => (key j x hj).1⟩⟩, by simp, fun j x hj => (key j x hj).2⟩
/-- .. and as rows of values -/
theorem rowsA_of {w : World} {us : List Value} {ls : List (List Int)} (hl : us.length = ls.length) (h : ∀ j x, us[j]? = some x → Ints .u64 w x (ls.getD j [])) : RowsA w us (ls.map fun l => l.map (Value.int .u64)) := by
  refine ⟨by rw [hl, List.length_map], fun j x hj => ?_⟩
  have hj' : j < ls.length := by rw [← hl]; exact (List.getElem?_eq_some_iff.1 hj).1
  have := (h j x hj).vals
  rwa [show (ls.map fun l => l.map (Value.int .u64)).getD j [] = (ls.getD j []).map (Value.int .u64) by simp [List.getD, hj']]
theorem one_ints (k : IntKind) (l : List Int) : ∀ u ∈ l.map (Value.int k), u.oneCell' = true := fun u hu => by
  obtain ⟨q, _, rfl⟩ := List.mem_map.1 hu
  rfl
theorem one_slices {w : World} {us : List Value} {ls : List (List Int)} (h : ∀ j x, us[j]? = some x → Ints .u64 w x (ls.getD j [])) : ∀ u ∈ us, u.oneCell' = true := fun u hu => by
  obtain ⟨j, hj⟩ := List.getElem?_of_mem hu
  obtain ⟨a, c, rfl, -, -, -⟩ := h j u hj
  rfl
theorem owns_valsA {w : World} {base n : Nat} {t : TypeId} {v : Value} {us : List Value} (h : w.ownsRow base t 1 v n us) : Vals w v us := by
  have hl : us.length = n := by have := h.1; simpa using this
  have h0 := h
  obtain ⟨_, ⟨rfl, h1⟩ | ⟨g, cap, cur, rfl, hg, hb, hc1, hc2, hs, ht⟩⟩ := h
  · obtain rfl : us = [] := List.eq_nil_of_length_eq_zero (by omega)
    exact Vals.nil
  · refine ⟨some ⟨g, 0, none⟩, cap, by rw [hl], by omega, by unfold maxLen at hc2; omega, fun _ => ⟨g, 0, rfl, Blk.lt (t := t) (cs := cur) hb, fun j x hj => ?_⟩⟩
    rw [Nat.zero_add, h0.cellAt j (by have := (List.getElem?_eq_some_iff.1 hj).1; omega), hj]
theorem flat_ints (ls : List (List Int)) : (ls.map fun l => l.map (Value.int .u64)).flatten = ls.flatten.map (Value.int .u64) := by rw [List.map_flatten]
/-- slices.Concat of rows of numbers -/
theorem catU_any (v : Value) (us : List Value) (ls : List (List Int)) (w : World) (hv : Vals w v us) (hl : us.length = ls.length) (hr : ∀ j x, us[j]? = some x → Ints .u64 w x (ls.getD j [])) (hn : ls.flatten.length ≤ 1000000) :
    Calls Tryz.prog 69 #[v] w fun e w' => ∃ v', e = .returned v' ∧ w'.ownsRow w.heap.size 22 1 v' ls.flatten.length (ls.flatten.map (Value.int .u64)) ∧ Ints .u64 w' v' ls.flatten ∧ Ext w w' := by
  have := concatU v us (ls.map fun l => l.map (Value.int .u64)) w hv (rowsA_of hl hr) (fun l hl u hu => by
    obtain ⟨q, _, rfl⟩ := List.mem_map.1 hl
    exact one_ints _ _ u hu) (by rw [flat_ints, List.length_map]; exact hn)
  refine this.mono ?_
  rintro _ w' ⟨v', rfl, h1, h2⟩
  rw [flat_ints, List.length_map] at h1
  exact ⟨v', rfl, h1, (owns_valsA h1).ints, h2⟩

/-- is a rest taken first in its row, and once there? -/
def TakenAt (R : List Int) (C : List (List Int)) (k : Nat) : Prop := (C.getD (R.getD k 0).toNat []).getD k 0 = 1 ∧ ∀ i, i < (R.getD k 0).toNat → (C.getD i []).getD k 0 = 0
noncomputable def tknB (R : List Int) (C : List (List Int)) : Bool := @decide (∀ k, k < R.length → TakenAt R C k) (Classical.propDecidable _)
theorem tknB_iff {R : List Int} {C : List (List Int)} : tknB R C = true ↔ ∀ k, k < R.length → TakenAt R C k := by unfold tknB; exact @decide_eq_true_iff _ (Classical.propDecidable _)
theorem tknB_no {R : List Int} {C : List (List Int)} (h : ¬ ∀ k, k < R.length → TakenAt R C k) : tknB R C = false := by unfold tknB; exact @decide_eq_false _ (Classical.propDecidable _) h

end Go.Proofs.YtijpeepdedfhoaaGreat
/- Package shape: names; slices cut out of slices. -/
namespace Go.Proofs.YtijpeepdedfhoaaGreat
open Go.RowKit Go.Maps

theorem cut_lh {w : World} {a : Option Addr} {len cap : Nat} {xs : List Int} (hv : Ints .u64 w (.slice a len cap) xs) (lo hi : Nat) (h1 : lo ≤ hi) (h2 : hi ≤ len) :
    ∃ a', (∀ W, (Instr.slice 23 (.slice a len cap) (some (.int .i64 (lo : Int))) (some (.int .i64 (hi : Int))) none).run Tryz.prog W = .ok (.slice a' (hi - lo) (cap - lo)) W) ∧ Ints .u64 w (.slice a' (hi - lo) (cap - lo)) ((xs.drop lo).take (hi - lo)) := by
  have hu : Tryz.prog.underlying 23 = some (.slice (Tryz.prog.elem 23)) := by kernel_rfl
  have hs : ∀ W, ((sizeOf (Tryz.prog.elem 23)).run Tryz.prog W) = .ok 1 W := fun W => by kernel_rfl
  have hd := hv
  obtain ⟨a', cap', e, k1, k2, k3⟩ := hd
  injection e with e1 e2 e3
  subst e1; subst e2; subst e3
  refine ⟨_, fun W => ?_, (hv.dropq lo (by omega)).take' (hi - lo) (by simp; omega)⟩
  rw [run_slice_lh W 23 _ _ cap hu .i64 .i64 lo hi (by omega) (by omega) (by omega), hs]
  simp only [Result.andThen, sliced, Int.toNat_natCast, Nat.mul_one]
theorem cut_l {w : World} {a : Option Addr} {len cap : Nat} {xs : List Int} (hv : Ints .u64 w (.slice a len cap) xs) (lo : Nat) (h1 : lo ≤ len) :
    ∃ a', (∀ W, (Instr.slice 23 (.slice a len cap) (some (.int .i64 (lo : Int))) none none).run Tryz.prog W = .ok (.slice a' (len - lo) (cap - lo)) W) ∧ Ints .u64 w (.slice a' (len - lo) (cap - lo)) (xs.drop lo) := by
  have hu : Tryz.prog.underlying 23 = some (.slice (Tryz.prog.elem 23)) := by kernel_rfl
  have hs : ∀ W, ((sizeOf (Tryz.prog.elem 23)).run Tryz.prog W) = .ok 1 W := fun W => by kernel_rfl
  have hd := hv
  obtain ⟨a', cap', e, k1, k2, k3⟩ := hd
  injection e with e1 e2 e3
  subst e1; subst e2; subst e3
  refine ⟨_, fun W => ?_, hv.dropq lo (by omega)⟩
  rw [run_slice_l W 23 _ _ cap hu .i64 lo (by omega) (by omega), hs]
  simp only [Result.andThen, sliced, Int.toNat_natCast, Nat.mul_one]
theorem cut_h {w : World} {a : Option Addr} {len cap : Nat} {xs : List Int} (hv : Ints .u64 w (.slice a len cap) xs) (hi : Nat) (h2 : hi ≤ len) :
    ∃ a', (∀ W, (Instr.slice 23 (.slice a len cap) none (some (.int .i64 (hi : Int))) none).run Tryz.prog W = .ok (.slice a' hi cap) W) ∧ Ints .u64 w (.slice a' hi cap) (xs.take hi) := by
  have hu : Tryz.prog.underlying 23 = some (.slice (Tryz.prog.elem 23)) := by kernel_rfl
  have hs : ∀ W, ((sizeOf (Tryz.prog.elem 23)).run Tryz.prog W) = .ok 1 W := fun W => by kernel_rfl
  have hd := hv
  obtain ⟨a', cap', e, k1, k2, k3⟩ := hd
  injection e with e1 e2 e3
  subst e1; subst e2; subst e3
  have hI := (hv.dropq 0 (by omega)).take' hi (by simpa using h2)
  rw [List.drop_zero, Nat.sub_zero] at hI
  refine ⟨_, fun W => ?_, hI⟩
  rw [run_slice_h W 23 _ _ cap hu .i64 hi (by omega) (by omega), hs]
  simp only [Result.andThen, sliced, Int.toNat_natCast, Nat.mul_one, Nat.sub_zero]

/-- a block of ints -/
def NsB (w : World) (g : Nat) (l : List Int) : Prop := ∃ cs, Blk w g 3 cs ∧ ∀ j, j < l.length → cs[j]? = some (.int .i64 (l.getD j 0))
theorem NsB.ext {w w' : World} {g : Nat} {l : List Int} (h : NsB w g l) (x : Ext w w') : NsB w' g l := by
  obtain ⟨cs, h1, h2⟩ := h
  exact ⟨cs, h1.ext x, h2⟩
theorem NsB.two {w : World} {g g' : Nat} {l : List Int} (h : NsB w g l) (i : Nat) (u : Value) (hne : g ≠ g') : NsB (w.setCell ⟨g', i, none⟩ u) g l := by
  obtain ⟨cs, h1, h2⟩ := h
  exact ⟨cs, h1.two i u hne, h2⟩
theorem NsB.ints {w : World} {g n : Nat} {l : List Int} (h : NsB w g l) (hl : l.length = n) (hn : n ≤ 1000000) : Ints .i64 w (.slice (some ⟨g, 0, none⟩) n n) l := by
  obtain ⟨cs, h1, h2⟩ := h
  exact h1.ints hl (by omega) fun j hj => h2 j (by omega)

end Go.Proofs.YtijpeepdedfhoaaGreat
/- slices.Grow of nothing, and slices.Concat of rows of numbers. -/
namespace Go.Proofs.YtijpeepdedfhoaaGreat
open Go.RowKit Go.Maps

set_option maxRecDepth 100000 in
set_option maxHeartbeats 2000000 in
theorem grow_nil (n : Nat) (h1 : 1 ≤ n) (hn : n ≤ 1000000) (w : World) : Calls Tryz.prog 99 #[.slice none 0 0, .int .i64 n] w fun e w' => ∃ v, e = .returned v ∧ w'.ownsRow w.heap.size 22 1 v 0 [] ∧ Ext w w' := by
  obtain ⟨i0, hi, hz0, hz1, hz2⟩ := info_parts info_u64p
  have hrz : ∀ ty, (Builtin.append_ #[23, 3] ty #[.slice none 0 0, .int .i64 (n : Int)]).run Tryz.prog w = .ok (.slice (some ⟨w.heap.size, 0, none⟩) n (grownCap w n 0 22)) (w.drew.alloc (.cells (Builtin.zeroCells #[Value.int .u64 0] n ++ Builtin.zeroCells #[Value.int .u64 0] (grownCap w n 0 22 - n)) 22)) := fun ty => by
    have h := Lib.run_append_nil_zeros w 23 3 ty 22 i0 (.int .u64 0) .i64 .i64 Tryz.underlying23 Tryz.underlying3 hi hz0 n (by omega) (by omega) (by omega) (by rw [hz2]; omega)
    exact h
  have hGn : n ≤ grownCap w n 0 22 := grownCap_ge w _ _ _
  have hGm := grownCap_le_maxLen w n 0 22 (by unfold maxLen; omega)
  obtain ⟨G, hG⟩ : ∃ G, grownCap w n 0 22 = G := ⟨_, rfl⟩
  rw [hG] at hrz hGn hGm
  unfold maxLen at hGm
  clear hG
  go_enter Tryz.func99, Tryz.ntmps99
  go_wp2_with (at_builtin; refine Lib.wpList_append_run _ rfl _ _ _ _ rfl _ _ rfl rfl _ _ (hrz _) ?_)
  go_ret
  refine ⟨_, rfl, ⟨rfl, .inr ⟨_, G, _, rfl, Nat.le_refl _, heap_alloc_new w.drew _, Nat.zero_le _, by unfold maxLen; omega, ?_, by simp⟩⟩, ((Ext.refl w).drew).alloc _⟩
  rw [Array.size_append, size_zeroCells, size_zeroCells]
  simp
  omega

/-- rows of numbers, each as it lies in memory -/
structure RowsU (w : World) (us : List (Option Addr × Nat × Nat)) (ls : List (List Int)) : Prop where
  len : us.length = ls.length
  row : ∀ j x, us[j]? = some x → Ints .u64 w (slV x) (ls.getD j [])
theorem RowsU.ext {w w' : World} {us : List (Option Addr × Nat × Nat)} {ls : List (List Int)} (h : RowsU w us ls) (he : Ext w w') : RowsU w' us ls := ⟨h.len, fun j x hj => (h.row j x hj).ext he⟩
/-- the rows' numbers, so many of them -/
def flatTo (ls : List (List Int)) (k : Nat) : List Int := (ls.take k).flatten
theorem flatTo_succ {ls : List (List Int)} {k : Nat} (h : k < ls.length) : flatTo ls (k + 1) = flatTo ls k ++ ls.getD k [] := by
  unfold flatTo
  rw [List.take_succ_eq_append_getElem h, List.flatten_append]
  simp [List.getD, h]
theorem flatTo_all (ls : List (List Int)) : flatTo ls ls.length = ls.flatten := by unfold flatTo; rw [List.take_length]
theorem flatTo_le {ls : List (List Int)} (hl : ∀ l ∈ ls, l.length ≤ 64) : ∀ k, k ≤ ls.length → (flatTo ls k).length ≤ k * 64
  | 0, _ => by simp [flatTo]
  | k + 1, h => by
    have h1 := flatTo_le hl k (by omega)
    have h2 : (ls.getD k []).length ≤ 64 := by
      rw [List.getD, List.getElem?_eq_getElem (show k < ls.length by omega)]
      exact hl _ (List.getElem_mem (by omega))
    rw [flatTo_succ (by omega), List.length_append]
    omega

set_option maxRecDepth 100000 in
set_option maxHeartbeats 2000000 in
theorem concat_any (v : Value) (us : List (Option Addr × Nat × Nat)) (ls : List (List Int)) (w : World) (hv : Vals w v (us.map slV)) (hr : RowsU w us ls) (hn : us.length ≤ 64) (hl : ∀ l ∈ ls, l.length ≤ 64) (h0 : 0 < ls.flatten.length) :
    Calls Tryz.prog 69 #[v] w fun e w' => ∃ a c, e = .returned (.slice a ls.flatten.length c) ∧ w'.ownsRow w.heap.size 22 1 (.slice a ls.flatten.length c) ls.flatten.length (ls.flatten.map (Value.int .u64)) ∧ Ext w w' := by
  obtain ⟨i0, hi, hz0, hz1, hz2⟩ := info_parts info_u64p
  have HG := hid fun (n : Nat) (h1 : 1 ≤ n) (hn : n ≤ 1000000) (W : World) => grow_nil n h1 hn W
  have Hr := hid hr
  have hlen := hr.len
  obtain ⟨n, en⟩ : ∃ n, us.length = n := ⟨_, rfl⟩
  have HS := hid fun (k : Nat) (h : k < n) => flatTo_succ (ls := ls) (k := k) (by omega)
  have HB := hid fun (k : Nat) (h : k ≤ n) => Nat.le_trans (flatTo_le hl k (by omega)) (Nat.mul_le_mul_right 64 (show k ≤ 64 by omega))
  have Hall := hid (show flatTo ls n = ls.flatten by rw [← en, hlen]; exact flatTo_all ls)
  have H0 := hid h0
  obtain ⟨a, cap, rfl, k1, k2, k3⟩ := hv
  rw [List.length_map, en] at k1 k3 ⊢
  have hn0 : 0 < n := by
    rcases Nat.eq_zero_or_pos n with h | h
    · exfalso
      rw [← Hall.out, h] at h0
      simp [flatTo] at h0
    · exact h
  obtain ⟨b, off, rfl, hb, hc⟩ := k3 hn0
  have Hc := hid fun (j : Nat) (h : j < n) => (show ∃ x, us[j]? = some x ∧ w.cell? ⟨b, off + j, none⟩ = some (slV x) from ⟨us[j], List.getElem?_eq_getElem (by omega), hc j _ (by rw [List.getElem?_map, List.getElem?_eq_getElem (show j < us.length by omega)]; rfl)⟩)
  have hn64 : n ≤ 64 := by omega
  clear k3 hc hr hl h0 hlen hn en
  go_enter Tryz.func69, Tryz.ntmps69
  go_wp2_with fail
  go_loopw [11, 3] (fun iv sv wr => ∃ (k s : Nat), iv = .int .i64 k ∧ sv = .int .i64 s ∧ k ≤ n ∧ Hid (s = (flatTo ls k).length) ∧ Ext w wr) (fun iv _ _ => n - (intOf iv).toNat)
  case atStart => exact ⟨0, 0, rfl, rfl, Nat.zero_le _, hid (by simp [flatTo]), Ext.refl _⟩
  case round =>
    obtain ⟨k, s, rfl, rfl, hk, hs, hxr⟩ := hrel
    have hsb := HB.out k hk
    rw [← hs.out] at hsb
    by_cases hlt : k < n
    · obtain ⟨⟨xa, xn, xc⟩, ex, hcell⟩ := Hc.out k hlt
      have g1 := (hxr.cells _ _ hb).trans hcell
      have hI := Hr.out.row k _ ex
      have hS := HS.out k hlt
      have hsb2 := HB.out (k + 1) (by omega)
      rw [hS, List.length_append, ← hs.out] at hsb2
      unfold slV at g1 hI
      dsimp only at g1 hI
      obtain ⟨l, el⟩ : ∃ l, ls.getD k [] = l := ⟨_, rfl⟩
      rw [el] at hI hS hsb2
      have exn : xn = l.length := by
        obtain ⟨a1, c1, e1, _⟩ := hI
        injection e1
      subst exn
      have hnew := hid (show s + l.length = (flatTo ls (k + 1)).length by rw [hS, List.length_append, hs.out])
      obtain ⟨m, em⟩ : ∃ m, l.length = m := ⟨_, rfl⟩
      rw [em] at g1 hsb2 hnew
      clear hcell ex hI hS el em
      go_wp2_with fail
      go_roundw
      case rel => exact ⟨k + 1, s + m, by go_num, by go_num, by omega, hnew, hxr⟩
      case measure => simp [intOf]; omega
    · obtain rfl : k = n := by omega
      have hs1 : 1 ≤ s := by
        have := H0.out
        rw [← Hall.out, ← hs.out] at this
        omega
      go_wp2_with fail
      refine (HG.out s hs1 (by omega) _).mono ?_
      rintro _ w1 ⟨v1, rfl, ho1, x1⟩
      have hw1 : Ext w w1 := hxr.trans x1
      have ho1' := hid (ownsRow_low ho1 hxr.size)
      clear ho1
      go_wp2_with fail
      go_loopw [27, 6] (fun iv rv wr2 => ∃ (j : Nat), iv = .int .i64 j ∧ j ≤ k ∧ Hid (wr2.ownsRow w.heap.size 22 1 rv (flatTo ls j).length ((flatTo ls j).map (Value.int .u64))) ∧ Ext w wr2) (fun iv _ _ => k - (intOf iv).toNat)
      case atStart => exact ⟨0, rfl, Nat.zero_le _, hid (by simpa [flatTo] using ho1'.out), hw1⟩
      case round =>
        obtain ⟨j, rfl, hj, hown, hx2⟩ := hrel
        have hsz := hx2.size
        by_cases hlt : j < k
        · obtain ⟨⟨xa, xn, xc⟩, ex, hcell⟩ := Hc.out j hlt
          have g1 := (hx2.cells _ _ hb).trans hcell
          have hI := (Hr.out.row j _ ex).ext hx2
          have hS := HS.out j hlt
          have hsb1 := HB.out (j + 1) (by omega)
          rw [hS, List.length_append] at hsb1
          unfold slV at g1 hI
          dsimp only at g1 hI
          have HI := hid hI
          have happ := hid (show (flatTo ls j).map (Value.int .u64) ++ (ls.getD j []).map (Value.int .u64) = (flatTo ls (j + 1)).map (Value.int .u64) by rw [hS, List.map_append])
          have hlen2 := hid (show (flatTo ls j).length + (ls.getD j []).length = (flatTo ls (j + 1)).length by rw [hS, List.length_append])
          clear hI hS ex hcell
          go_wp2_with (first | (at_builtin; refine wpList_append_ints rfl _ _ 23 rfl w.heap.size 22 i0 (.int .u64 0) 8 Tryz.underlying23 hi hz0 hz1 hz2 rfl u6 (flatTo ls j).length _ rfl hown.out (.slice xa xn xc) (ls.getD j []) rfl HI.out (by simp only [maxLen]; omega) (by omega) (by omega) ?_; intro v' w6 hown6 hgrow6) | fail)
          go_roundw
          case rel => exact ⟨j + 1, by go_num, by omega, hid (by rw [← happ.out, ← hlen2.out]; exact hown6), hx2.grown hgrow6 (fun t e => (hown.out.lt t e).1)⟩
          case measure => simp [intOf]; omega
        · obtain rfl : j = k := by omega
          obtain ⟨a5, c5, rfl, c52, hI⟩ := owns_ints hown.out
          have Ho5 := hid hown.out
          rw [Hall.out] at Ho5 ⊢
          clear hI c52 hown
          go_wp2_with fail
          go_ret
          exact ⟨_, _, rfl, Ho5.out, hx2⟩
end Go.Proofs.YtijpeepdedfhoaaGreat
