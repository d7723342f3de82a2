/- What the texts CatV, Sh4, ShA, ShB show, in one text. -/
import Derived.Test.YtnfnommiabalfaaBun18
import Derived.Test.YtnfnommiabalfaaBun09
import Derived.Test.YtnfnommiabalfaaBun12
import Derived.Lib.AppendZeros
import Derived.Lib.Walk
import Derived.BigQuiet
import Derived.Test.YtnfnommiabalfaaBun16
import Derived.Test.YtnfnommiabalfaaBun06
import Derived.Test.YtnfnommiabalfaaBoxes
import Derived.Deep.RegionHeld3
/- slices.Concat of rows of any length, at three kinds of elements. -/
namespace Go.Proofs.Ytnfnommiabalfaa
open Go.RowKit Go.Maps

/-- rows of any values, each as it lies in memory -/
structure RowsA (w : World) (us : List Value) (ls : List (List Value)) : Prop where
  len : us.length = ls.length
  row : ∀ j x, us[j]? = some x → Vals w x (ls.getD j [])
theorem RowsA.ext {w w' : World} {us : List Value} {ls : List (List Value)} (h : RowsA w us ls) (he : Ext w w') : RowsA w' us ls := ⟨h.len, fun j x hj => (h.row j x hj).ext he⟩
/-- the rows' values, so many rows of them -/
def flatA (ls : List (List Value)) (k : Nat) : List Value := (ls.take k).flatten
theorem flatA_succ {ls : List (List Value)} {k : Nat} (h : k < ls.length) : flatA ls (k + 1) = flatA ls k ++ ls.getD k [] := by
  unfold flatA
  rw [List.take_succ_eq_append_getElem h, List.flatten_append]
  simp [List.getD, h]
theorem flatA_all (ls : List (List Value)) : flatA ls ls.length = ls.flatten := by unfold flatA; rw [List.take_length]
theorem flatA_le (ls : List (List Value)) (k : Nat) : (flatA ls k).length ≤ ls.flatten.length := by
  have : (ls.take k ++ ls.drop k).flatten.length = ls.flatten.length := by rw [List.take_append_drop]
  rw [List.flatten_append, List.length_append] at this
  unfold flatA
  omega
theorem wpList_append_vals {P : Program} {ops : Array Oper} {rest : List Oper} {o : Oper} {a : Act} {Q : Exit → Act → World → Prop} {w : World} (hgd : o.guard = none) (s x : Operand) (t : TypeId)
    (ho : o.op = .call { callee := .builtin .append, args := #[s, x], argTypes := #[t, t] }) (base : Nat) (e : TypeId) (i : TypeInfo) (z : Value) (bytes : Nat) (ht : P.underlying t = some (.slice e)) (hi : P.info? e = some i)
    (hz : i.zero = some z) (hsize : i.size = 1) (hby : i.bytes = bytes) (hzs : z.cells.size = 1)
    (v : Value) (n : Nat) (xs : List Value) (hs : a.eval s = v) (hown : w.ownsRow base e 1 v n xs) (u : Value) (ss : List Value) (hx : a.eval x = u) (hI : Vals w u ss) (h1 : ∀ u ∈ ss, u.oneCell' = true)
    (h63 : n + ss.length ≤ maxLen) (hbytes : (n + ss.length) * bytes ≤ 140737488355328) (hbase : base ≤ w.heap.size)
    (h : ∀ v' w', w'.ownsRow base e 1 v' (n + ss.length) (xs ++ ss) → w.grownBy w' v.ownBlock → wpList P ops Q rest (a.put o.dst v') w') : wpList P ops Q (o :: rest) a w := by
  obtain ⟨ad, cap, rfl, k1, k2, k3⟩ := hI
  cases ad with
  | none =>
    have h0 : ss.length = 0 := by
      rcases Nat.eq_zero_or_pos ss.length with h | h
      · exact h
      · obtain ⟨b, off, e, _⟩ := k3 h; cases e
    obtain rfl : ss = [] := List.eq_nil_of_length_eq_zero h0
    refine wpList_append_nil hgd s x t ho base e i 1 cap ht hi v n xs hs hown hx ?_
    have := h v w (by simpa using hown) (grown_refl _ _)
    exact this
  | some ad =>
    refine wpList_append_own w hgd s x t ho base e i z 1 bytes ht hi hz hsize hby hzs (by omega) v n xs hs hown ad ss.length cap ss hx (by simp) (fun j y hj => ?_) h1 h63 hbytes hbase fun v' w' h2 h3 _ => h v' w' h2 h3
    have hjl : j < ss.length := (List.getElem?_eq_some_iff.1 hj).1
    obtain ⟨b, off, e, hb, hcell⟩ := k3 (by omega)
    injection e with e; subst e
    rw [show ((⟨b, off, none⟩ : Addr).add j) = ⟨b, off + j, none⟩ from Go.WideShapes.add_plain _ _ _]
    exact hcell j y hj
theorem info_catU : (Try.prog.info? 22).map (fun i => (i.zero, i.size, i.bytes)) = some (some (.int .u64 0), 1, 8) := by kernel_rfl
set_option maxRecDepth 100000 in
set_option maxHeartbeats 2000000 in
theorem grow_catU (n : Nat) (hn : n ≤ 1000000) (w : World) : Calls Try.prog 83 #[.slice none 0 0, .int .i64 n] w fun e w' => ∃ v, e = .returned v ∧ w'.ownsRow w.heap.size 22 1 v 0 [] ∧ Ext w w' := by
  obtain ⟨i0, hi, hz0, hz1, hz2⟩ := info_parts info_catU
  rcases Nat.eq_zero_or_pos n with rfl | h1
  · go_enter Try.func83, Try.ntmps83
    go_wp2_with fail
    go_ret
    exact ⟨_, rfl, World.ownsRow_nil _ _ _ _, Ext.refl _⟩
  have hrz : ∀ ty, (Builtin.append_ #[23, 3] ty #[.slice none 0 0, .int .i64 (n : Int)]).run Try.prog w = .ok (.slice (some ⟨w.heap.size, 0, none⟩) n (grownCap w n 0 22)) (w.drew.alloc (.cells (Builtin.zeroCells #[.int .u64 0] n ++ Builtin.zeroCells #[.int .u64 0] (grownCap w n 0 22 - n)) 22)) := fun ty => by
    have h := Lib.run_append_nil_zeros w 23 3 ty 22 i0 (.int .u64 0) .i64 .i64 Try.underlying23 Try.underlying3 hi hz0 n (by omega) (by omega) (by omega) (by rw [hz2]; omega)
    exact h
  have hGn : n ≤ grownCap w n 0 22 := grownCap_ge w _ _ _
  have hGm := grownCap_le_maxLen w n 0 22 (by unfold maxLen; omega)
  obtain ⟨G, hG⟩ : ∃ G, grownCap w n 0 22 = G := ⟨_, rfl⟩
  rw [hG] at hrz hGn hGm
  unfold maxLen at hGm
  clear hG
  go_enter Try.func83, Try.ntmps83
  go_wp2_with (at_builtin; refine Lib.wpList_append_run _ rfl _ _ _ _ rfl _ _ rfl rfl _ _ (hrz _) ?_)
  go_ret
  refine ⟨_, rfl, ⟨rfl, .inr ⟨_, G, _, rfl, Nat.le_refl _, heap_alloc_new w.drew _, Nat.zero_le _, by unfold maxLen; omega, ?_, by simp⟩⟩, ((Ext.refl w).drew).alloc _⟩
  rw [Array.size_append, size_zeroCells, size_zeroCells]
  simp
  omega
set_option maxRecDepth 100000 in
set_option maxHeartbeats 2000000 in
theorem concatU (v : Value) (us : List Value) (ls : List (List Value)) (w : World) (hv : Vals w v us) (hr : RowsA w us ls) (h1 : ∀ l ∈ ls, ∀ u ∈ l, u.oneCell' = true) (hn : ls.flatten.length ≤ 1000000) :
    Calls Try.prog 55 #[v] w fun e w' => ∃ v', e = .returned v' ∧ w'.ownsRow w.heap.size 22 1 v' ls.flatten.length ls.flatten ∧ Ext w w' := by
  obtain ⟨i0, hi, hz0, hz1, hz2⟩ := info_parts info_catU
  have HG := hid fun (n : Nat) (hn : n ≤ 1000000) (W : World) => grow_catU n hn W
  have Hr := hid hr; have H1 := hid h1
  have hlen := hr.len
  obtain ⟨n, en⟩ : ∃ n, us.length = n := ⟨_, rfl⟩
  have HS := hid fun (k : Nat) (h : k < n) => flatA_succ (ls := ls) (k := k) (by omega)
  have HB := hid fun (k : Nat) => Nat.le_trans (flatA_le ls k) hn
  have Hm := hid fun (k : Nat) (h : k < n) => (getD_mem [] (show k < ls.length by omega) : ls.getD k [] ∈ ls)
  have Hall := hid (show flatA ls n = ls.flatten by rw [← en, hlen]; exact flatA_all ls)
  obtain ⟨a, cap, rfl, k1, k2, k3⟩ := hv
  rw [en] at k1 k3 ⊢
  have Hc := hid fun (j : Nat) (h : j < n) => (show ∃ b off x, a = some ⟨b, off, none⟩ ∧ b < w.heap.size ∧ us[j]? = some x ∧ w.cell? ⟨b, off + j, none⟩ = some x from by
    obtain ⟨b, off, e, hb, hc⟩ := k3 (by omega)
    have ex : us[j]? = some us[j] := List.getElem?_eq_getElem (by omega)
    exact ⟨b, off, _, e, hb, ex, hc j _ ex⟩)
  clear k3 hr hlen hn en h1
  go_enter Try.func55, Try.ntmps55
  go_wp2_with fail
  go_loopw [11, 3] (fun iv sv wr => ∃ (k s : Nat), iv = .int .i64 k ∧ sv = .int .i64 s ∧ k ≤ n ∧ Hid (s = (flatA ls k).length) ∧ Ext w wr) (fun iv _ _ => n - (intOf iv).toNat)
  case atStart => exact ⟨0, 0, rfl, rfl, Nat.zero_le _, hid (by simp [flatA]), Ext.refl _⟩
  case round =>
    obtain ⟨k, s, rfl, rfl, hk, hs, hxr⟩ := hrel
    have hsb := HB.out k
    rw [← hs.out] at hsb
    by_cases hlt : k < n
    · obtain ⟨b, off, x, rfl, hb, ex, hcell⟩ := Hc.out k hlt
      have g1 := (hxr.cells _ _ hb).trans hcell
      have hI := Hr.out.row k _ ex
      have hS := HS.out k hlt
      have hsb2 := HB.out (k + 1)
      rw [hS, List.length_append, ← hs.out] at hsb2
      obtain ⟨l, el⟩ : ∃ l, ls.getD k [] = l := ⟨_, rfl⟩
      rw [el] at hI hS hsb2
      obtain ⟨xa, xc, rfl, -, -, -⟩ := hI
      have hnew := hid (show s + l.length = (flatA ls (k + 1)).length by rw [hS, List.length_append, hs.out])
      obtain ⟨m, em⟩ : ∃ m, l.length = m := ⟨_, rfl⟩
      rw [em] at g1 hsb2 hnew
      clear hcell ex hS el em
      go_wp2_with fail
      go_roundw
      case rel => exact ⟨k + 1, s + m, by go_num, by go_num, by omega, hnew, hxr⟩
      case measure => simp [intOf]; omega
    · obtain rfl : k = n := by omega
      go_wp2_with fail
      refine (HG.out s (by omega) _).mono ?_
      rintro _ w1 ⟨v1, rfl, ho1, x1⟩
      have hw1 : Ext w w1 := hxr.trans x1
      have ho1' := hid (ownsRow_low ho1 hxr.size)
      clear ho1
      go_wp2_with fail
      go_loopw [27, 6] (fun iv rv wr2 => ∃ (j : Nat), iv = .int .i64 j ∧ j ≤ k ∧ Hid (wr2.ownsRow w.heap.size 22 1 rv (flatA ls j).length (flatA ls j)) ∧ Ext w wr2) (fun iv _ _ => k - (intOf iv).toNat)
      case atStart => exact ⟨0, rfl, Nat.zero_le _, hid (by simpa [flatA] using ho1'.out), hw1⟩
      case round =>
        obtain ⟨j, rfl, hj, hown, hx2⟩ := hrel
        have hsz := hx2.size
        by_cases hlt : j < k
        · obtain ⟨b, off, x, rfl, hb, ex, hcell⟩ := Hc.out j hlt
          have g1 := (hx2.cells _ _ hb).trans hcell
          have hI := (Hr.out.row j _ ex).ext hx2
          have hS := HS.out j hlt
          have hsb1 := HB.out (j + 1)
          rw [hS, List.length_append] at hsb1
          have HI := hid hI
          have H2 := hid (H1.out _ (Hm.out j hlt))
          have happ := hid (show flatA ls j ++ ls.getD j [] = flatA ls (j + 1) from hS.symm)
          have hlen2 := hid (show (flatA ls j).length + (ls.getD j []).length = (flatA ls (j + 1)).length by rw [hS, List.length_append])
          clear hI hS ex hcell
          have HI2 := HI.out
          obtain ⟨xa, xc, rfl, -, -, -⟩ := HI2
          go_wp2_with (first | (at_builtin; refine wpList_append_vals rfl _ _ 23 rfl w.heap.size 22 i0 (.int .u64 0) 8 Try.underlying23 hi hz0 hz1 hz2 rfl _ (flatA ls j).length _ rfl hown.out (.slice xa (ls.getD j []).length xc) (ls.getD j []) rfl HI.out H2.out (by simp only [maxLen]; omega) (by omega) (by omega) ?_; intro v' w6 hown6 hgrow6) | fail)
          go_roundw
          case rel => exact ⟨j + 1, by go_num, by omega, hid (by rw [← happ.out, List.length_append]; exact hown6), hx2.grown hgrow6 (fun t e => (hown.out.lt t e).1)⟩
          case measure => simp [intOf]; omega
        · obtain rfl : j = k := by omega
          have Ho5 := hid hown.out
          rw [Hall.out] at Ho5
          clear hown
          go_wp2_with fail
          go_ret
          exact ⟨_, rfl, Ho5.out, hx2⟩
theorem info_catI : (Try.prog.info? 3).map (fun i => (i.zero, i.size, i.bytes)) = some (some (.int .i64 0), 1, 8) := by kernel_rfl
set_option maxRecDepth 100000 in
set_option maxHeartbeats 2000000 in
theorem grow_catI (n : Nat) (hn : n ≤ 1000000) (w : World) : Calls Try.prog 82 #[.slice none 0 0, .int .i64 n] w fun e w' => ∃ v, e = .returned v ∧ w'.ownsRow w.heap.size 3 1 v 0 [] ∧ Ext w w' := by
  obtain ⟨i0, hi, hz0, hz1, hz2⟩ := info_parts info_catI
  rcases Nat.eq_zero_or_pos n with rfl | h1
  · go_enter Try.func82, Try.ntmps82
    go_wp2_with fail
    go_ret
    exact ⟨_, rfl, World.ownsRow_nil _ _ _ _, Ext.refl _⟩
  have hrz : ∀ ty, (Builtin.append_ #[26, 3] ty #[.slice none 0 0, .int .i64 (n : Int)]).run Try.prog w = .ok (.slice (some ⟨w.heap.size, 0, none⟩) n (grownCap w n 0 3)) (w.drew.alloc (.cells (Builtin.zeroCells #[.int .i64 0] n ++ Builtin.zeroCells #[.int .i64 0] (grownCap w n 0 3 - n)) 3)) := fun ty => by
    have h := Lib.run_append_nil_zeros w 26 3 ty 3 i0 (.int .i64 0) .i64 .i64 Try.underlying26 Try.underlying3 hi hz0 n (by omega) (by omega) (by omega) (by rw [hz2]; omega)
    exact h
  have hGn : n ≤ grownCap w n 0 3 := grownCap_ge w _ _ _
  have hGm := grownCap_le_maxLen w n 0 3 (by unfold maxLen; omega)
  obtain ⟨G, hG⟩ : ∃ G, grownCap w n 0 3 = G := ⟨_, rfl⟩
  rw [hG] at hrz hGn hGm
  unfold maxLen at hGm
  clear hG
  go_enter Try.func82, Try.ntmps82
  go_wp2_with (at_builtin; refine Lib.wpList_append_run _ rfl _ _ _ _ rfl _ _ rfl rfl _ _ (hrz _) ?_)
  go_ret
  refine ⟨_, rfl, ⟨rfl, .inr ⟨_, G, _, rfl, Nat.le_refl _, heap_alloc_new w.drew _, Nat.zero_le _, by unfold maxLen; omega, ?_, by simp⟩⟩, ((Ext.refl w).drew).alloc _⟩
  rw [Array.size_append, size_zeroCells, size_zeroCells]
  simp
  omega
set_option maxRecDepth 100000 in
set_option maxHeartbeats 2000000 in
theorem concatI (v : Value) (us : List Value) (ls : List (List Value)) (w : World) (hv : Vals w v us) (hr : RowsA w us ls) (h1 : ∀ l ∈ ls, ∀ u ∈ l, u.oneCell' = true) (hn : ls.flatten.length ≤ 1000000) :
    Calls Try.prog 54 #[v] w fun e w' => ∃ v', e = .returned v' ∧ w'.ownsRow w.heap.size 3 1 v' ls.flatten.length ls.flatten ∧ Ext w w' := by
  obtain ⟨i0, hi, hz0, hz1, hz2⟩ := info_parts info_catI
  have HG := hid fun (n : Nat) (hn : n ≤ 1000000) (W : World) => grow_catI n hn W
  have Hr := hid hr; have H1 := hid h1
  have hlen := hr.len
  obtain ⟨n, en⟩ : ∃ n, us.length = n := ⟨_, rfl⟩
  have HS := hid fun (k : Nat) (h : k < n) => flatA_succ (ls := ls) (k := k) (by omega)
  have HB := hid fun (k : Nat) => Nat.le_trans (flatA_le ls k) hn
  have Hm := hid fun (k : Nat) (h : k < n) => (getD_mem [] (show k < ls.length by omega) : ls.getD k [] ∈ ls)
  have Hall := hid (show flatA ls n = ls.flatten by rw [← en, hlen]; exact flatA_all ls)
  obtain ⟨a, cap, rfl, k1, k2, k3⟩ := hv
  rw [en] at k1 k3 ⊢
  have Hc := hid fun (j : Nat) (h : j < n) => (show ∃ b off x, a = some ⟨b, off, none⟩ ∧ b < w.heap.size ∧ us[j]? = some x ∧ w.cell? ⟨b, off + j, none⟩ = some x from by
    obtain ⟨b, off, e, hb, hc⟩ := k3 (by omega)
    have ex : us[j]? = some us[j] := List.getElem?_eq_getElem (by omega)
    exact ⟨b, off, _, e, hb, ex, hc j _ ex⟩)
  clear k3 hr hlen hn en h1
  go_enter Try.func54, Try.ntmps54
  go_wp2_with fail
  go_loopw [11, 3] (fun iv sv wr => ∃ (k s : Nat), iv = .int .i64 k ∧ sv = .int .i64 s ∧ k ≤ n ∧ Hid (s = (flatA ls k).length) ∧ Ext w wr) (fun iv _ _ => n - (intOf iv).toNat)
  case atStart => exact ⟨0, 0, rfl, rfl, Nat.zero_le _, hid (by simp [flatA]), Ext.refl _⟩
  case round =>
    obtain ⟨k, s, rfl, rfl, hk, hs, hxr⟩ := hrel
    have hsb := HB.out k
    rw [← hs.out] at hsb
    by_cases hlt : k < n
    · obtain ⟨b, off, x, rfl, hb, ex, hcell⟩ := Hc.out k hlt
      have g1 := (hxr.cells _ _ hb).trans hcell
      have hI := Hr.out.row k _ ex
      have hS := HS.out k hlt
      have hsb2 := HB.out (k + 1)
      rw [hS, List.length_append, ← hs.out] at hsb2
      obtain ⟨l, el⟩ : ∃ l, ls.getD k [] = l := ⟨_, rfl⟩
      rw [el] at hI hS hsb2
      obtain ⟨xa, xc, rfl, -, -, -⟩ := hI
      have hnew := hid (show s + l.length = (flatA ls (k + 1)).length by rw [hS, List.length_append, hs.out])
      obtain ⟨m, em⟩ : ∃ m, l.length = m := ⟨_, rfl⟩
      rw [em] at g1 hsb2 hnew
      clear hcell ex hS el em
      go_wp2_with fail
      go_roundw
      case rel => exact ⟨k + 1, s + m, by go_num, by go_num, by omega, hnew, hxr⟩
      case measure => simp [intOf]; omega
    · obtain rfl : k = n := by omega
      go_wp2_with fail
      refine (HG.out s (by omega) _).mono ?_
      rintro _ w1 ⟨v1, rfl, ho1, x1⟩
      have hw1 : Ext w w1 := hxr.trans x1
      have ho1' := hid (ownsRow_low ho1 hxr.size)
      clear ho1
      go_wp2_with fail
      go_loopw [27, 6] (fun iv rv wr2 => ∃ (j : Nat), iv = .int .i64 j ∧ j ≤ k ∧ Hid (wr2.ownsRow w.heap.size 3 1 rv (flatA ls j).length (flatA ls j)) ∧ Ext w wr2) (fun iv _ _ => k - (intOf iv).toNat)
      case atStart => exact ⟨0, rfl, Nat.zero_le _, hid (by simpa [flatA] using ho1'.out), hw1⟩
      case round =>
        obtain ⟨j, rfl, hj, hown, hx2⟩ := hrel
        have hsz := hx2.size
        by_cases hlt : j < k
        · obtain ⟨b, off, x, rfl, hb, ex, hcell⟩ := Hc.out j hlt
          have g1 := (hx2.cells _ _ hb).trans hcell
          have hI := (Hr.out.row j _ ex).ext hx2
          have hS := HS.out j hlt
          have hsb1 := HB.out (j + 1)
          rw [hS, List.length_append] at hsb1
          have HI := hid hI
          have H2 := hid (H1.out _ (Hm.out j hlt))
          have happ := hid (show flatA ls j ++ ls.getD j [] = flatA ls (j + 1) from hS.symm)
          have hlen2 := hid (show (flatA ls j).length + (ls.getD j []).length = (flatA ls (j + 1)).length by rw [hS, List.length_append])
          clear hI hS ex hcell
          have HI2 := HI.out
          obtain ⟨xa, xc, rfl, -, -, -⟩ := HI2
          go_wp2_with (first | (at_builtin; refine wpList_append_vals rfl _ _ 26 rfl w.heap.size 3 i0 (.int .i64 0) 8 Try.underlying26 hi hz0 hz1 hz2 rfl _ (flatA ls j).length _ rfl hown.out (.slice xa (ls.getD j []).length xc) (ls.getD j []) rfl HI.out H2.out (by simp only [maxLen]; omega) (by omega) (by omega) ?_; intro v' w6 hown6 hgrow6) | fail)
          go_roundw
          case rel => exact ⟨j + 1, by go_num, by omega, hid (by rw [← happ.out, List.length_append]; exact hown6), hx2.grown hgrow6 (fun t e => (hown.out.lt t e).1)⟩
          case measure => simp [intOf]; omega
        · obtain rfl : j = k := by omega
          have Ho5 := hid hown.out
          rw [Hall.out] at Ho5
          clear hown
          go_wp2_with fail
          go_ret
          exact ⟨_, rfl, Ho5.out, hx2⟩
theorem info_catS : (Try.prog.info? 23).map (fun i => (i.zero, i.size, i.bytes)) = some (some (.slice none 0 0), 1, 24) := by kernel_rfl
set_option maxRecDepth 100000 in
set_option maxHeartbeats 2000000 in
theorem grow_catS (n : Nat) (hn : n ≤ 1000000) (w : World) : Calls Try.prog 85 #[.slice none 0 0, .int .i64 n] w fun e w' => ∃ v, e = .returned v ∧ w'.ownsRow w.heap.size 23 1 v 0 [] ∧ Ext w w' := by
  obtain ⟨i0, hi, hz0, hz1, hz2⟩ := info_parts info_catS
  rcases Nat.eq_zero_or_pos n with rfl | h1
  · go_enter Try.func85, Try.ntmps85
    go_wp2_with fail
    go_ret
    exact ⟨_, rfl, World.ownsRow_nil _ _ _ _, Ext.refl _⟩
  have hrz : ∀ ty, (Builtin.append_ #[27, 3] ty #[.slice none 0 0, .int .i64 (n : Int)]).run Try.prog w = .ok (.slice (some ⟨w.heap.size, 0, none⟩) n (grownCap w n 0 23)) (w.drew.alloc (.cells (Builtin.zeroCells #[.slice none 0 0] n ++ Builtin.zeroCells #[.slice none 0 0] (grownCap w n 0 23 - n)) 23)) := fun ty => by
    have h := Lib.run_append_nil_zeros w 27 3 ty 23 i0 (.slice none 0 0) .i64 .i64 Try.underlying27 Try.underlying3 hi hz0 n (by omega) (by omega) (by omega) (by rw [hz2]; omega)
    exact h
  have hGn : n ≤ grownCap w n 0 23 := grownCap_ge w _ _ _
  have hGm := grownCap_le_maxLen w n 0 23 (by unfold maxLen; omega)
  obtain ⟨G, hG⟩ : ∃ G, grownCap w n 0 23 = G := ⟨_, rfl⟩
  rw [hG] at hrz hGn hGm
  unfold maxLen at hGm
  clear hG
  go_enter Try.func85, Try.ntmps85
  go_wp2_with (at_builtin; refine Lib.wpList_append_run _ rfl _ _ _ _ rfl _ _ rfl rfl _ _ (hrz _) ?_)
  go_ret
  refine ⟨_, rfl, ⟨rfl, .inr ⟨_, G, _, rfl, Nat.le_refl _, heap_alloc_new w.drew _, Nat.zero_le _, by unfold maxLen; omega, ?_, by simp⟩⟩, ((Ext.refl w).drew).alloc _⟩
  rw [Array.size_append, size_zeroCells, size_zeroCells]
  simp
  omega
set_option maxRecDepth 100000 in
set_option maxHeartbeats 2000000 in
theorem concatS (v : Value) (us : List Value) (ls : List (List Value)) (w : World) (hv : Vals w v us) (hr : RowsA w us ls) (h1 : ∀ l ∈ ls, ∀ u ∈ l, u.oneCell' = true) (hn : ls.flatten.length ≤ 1000000) :
    Calls Try.prog 64 #[v] w fun e w' => ∃ v', e = .returned v' ∧ w'.ownsRow w.heap.size 23 1 v' ls.flatten.length ls.flatten ∧ Ext w w' := by
  obtain ⟨i0, hi, hz0, hz1, hz2⟩ := info_parts info_catS
  have HG := hid fun (n : Nat) (hn : n ≤ 1000000) (W : World) => grow_catS n hn W
  have Hr := hid hr; have H1 := hid h1
  have hlen := hr.len
  obtain ⟨n, en⟩ : ∃ n, us.length = n := ⟨_, rfl⟩
  have HS := hid fun (k : Nat) (h : k < n) => flatA_succ (ls := ls) (k := k) (by omega)
  have HB := hid fun (k : Nat) => Nat.le_trans (flatA_le ls k) hn
  have Hm := hid fun (k : Nat) (h : k < n) => (getD_mem [] (show k < ls.length by omega) : ls.getD k [] ∈ ls)
  have Hall := hid (show flatA ls n = ls.flatten by rw [← en, hlen]; exact flatA_all ls)
  obtain ⟨a, cap, rfl, k1, k2, k3⟩ := hv
  rw [en] at k1 k3 ⊢
  have Hc := hid fun (j : Nat) (h : j < n) => (show ∃ b off x, a = some ⟨b, off, none⟩ ∧ b < w.heap.size ∧ us[j]? = some x ∧ w.cell? ⟨b, off + j, none⟩ = some x from by
    obtain ⟨b, off, e, hb, hc⟩ := k3 (by omega)
    have ex : us[j]? = some us[j] := List.getElem?_eq_getElem (by omega)
    exact ⟨b, off, _, e, hb, ex, hc j _ ex⟩)
  clear k3 hr hlen hn en h1
  go_enter Try.func64, Try.ntmps64
  go_wp2_with fail
  go_loopw [11, 3] (fun iv sv wr => ∃ (k s : Nat), iv = .int .i64 k ∧ sv = .int .i64 s ∧ k ≤ n ∧ Hid (s = (flatA ls k).length) ∧ Ext w wr) (fun iv _ _ => n - (intOf iv).toNat)
  case atStart => exact ⟨0, 0, rfl, rfl, Nat.zero_le _, hid (by simp [flatA]), Ext.refl _⟩
  case round =>
    obtain ⟨k, s, rfl, rfl, hk, hs, hxr⟩ := hrel
    have hsb := HB.out k
    rw [← hs.out] at hsb
    by_cases hlt : k < n
    · obtain ⟨b, off, x, rfl, hb, ex, hcell⟩ := Hc.out k hlt
      have g1 := (hxr.cells _ _ hb).trans hcell
      have hI := Hr.out.row k _ ex
      have hS := HS.out k hlt
      have hsb2 := HB.out (k + 1)
      rw [hS, List.length_append, ← hs.out] at hsb2
      obtain ⟨l, el⟩ : ∃ l, ls.getD k [] = l := ⟨_, rfl⟩
      rw [el] at hI hS hsb2
      obtain ⟨xa, xc, rfl, -, -, -⟩ := hI
      have hnew := hid (show s + l.length = (flatA ls (k + 1)).length by rw [hS, List.length_append, hs.out])
      obtain ⟨m, em⟩ : ∃ m, l.length = m := ⟨_, rfl⟩
      rw [em] at g1 hsb2 hnew
      clear hcell ex hS el em
      go_wp2_with fail
      go_roundw
      case rel => exact ⟨k + 1, s + m, by go_num, by go_num, by omega, hnew, hxr⟩
      case measure => simp [intOf]; omega
    · obtain rfl : k = n := by omega
      go_wp2_with fail
      refine (HG.out s (by omega) _).mono ?_
      rintro _ w1 ⟨v1, rfl, ho1, x1⟩
      have hw1 : Ext w w1 := hxr.trans x1
      have ho1' := hid (ownsRow_low ho1 hxr.size)
      clear ho1
      go_wp2_with fail
      go_loopw [27, 6] (fun iv rv wr2 => ∃ (j : Nat), iv = .int .i64 j ∧ j ≤ k ∧ Hid (wr2.ownsRow w.heap.size 23 1 rv (flatA ls j).length (flatA ls j)) ∧ Ext w wr2) (fun iv _ _ => k - (intOf iv).toNat)
      case atStart => exact ⟨0, rfl, Nat.zero_le _, hid (by simpa [flatA] using ho1'.out), hw1⟩
      case round =>
        obtain ⟨j, rfl, hj, hown, hx2⟩ := hrel
        have hsz := hx2.size
        by_cases hlt : j < k
        · obtain ⟨b, off, x, rfl, hb, ex, hcell⟩ := Hc.out j hlt
          have g1 := (hx2.cells _ _ hb).trans hcell
          have hI := (Hr.out.row j _ ex).ext hx2
          have hS := HS.out j hlt
          have hsb1 := HB.out (j + 1)
          rw [hS, List.length_append] at hsb1
          have HI := hid hI
          have H2 := hid (H1.out _ (Hm.out j hlt))
          have happ := hid (show flatA ls j ++ ls.getD j [] = flatA ls (j + 1) from hS.symm)
          have hlen2 := hid (show (flatA ls j).length + (ls.getD j []).length = (flatA ls (j + 1)).length by rw [hS, List.length_append])
          clear hI hS ex hcell
          have HI2 := HI.out
          obtain ⟨xa, xc, rfl, -, -, -⟩ := HI2
          go_wp2_with (first | (at_builtin; refine wpList_append_vals rfl _ _ 27 rfl w.heap.size 23 i0 (.slice none 0 0) 24 Try.underlying27 hi hz0 hz1 hz2 rfl _ (flatA ls j).length _ rfl hown.out (.slice xa (ls.getD j []).length xc) (ls.getD j []) rfl HI.out H2.out (by simp only [maxLen]; omega) (by omega) (by omega) ?_; intro v' w6 hown6 hgrow6) | fail)
          go_roundw
          case rel => exact ⟨j + 1, by go_num, by omega, hid (by rw [← happ.out, List.length_append]; exact hown6), hx2.grown hgrow6 (fun t e => (hown.out.lt t e).1)⟩
          case measure => simp [intOf]; omega
        · obtain rfl : j = k := by omega
          have Ho5 := hid hown.out
          rw [Hall.out] at Ho5
          clear hown
          go_wp2_with fail
          go_ret
          exact ⟨_, rfl, Ho5.out, hx2⟩

end Go.Proofs.Ytnfnommiabalfaa
/- Package shape: are all numbers of p? is each rest taken first, and once, in its row? -/
namespace Go.Proofs.Ytnfnommiabalfaa
open Go.RowKit Go.Maps

/-- rows of numbers as they lie in memory -/
theorem UsL.vals {w : World} {v : Value} {ls : List (List Int)} (h : UsL w v ls) : ∃ us, Vals w v us ∧ us.length = ls.length ∧ ∀ j x, us[j]? = some x → Ints .u64 w x (ls.getD j []) := by
  obtain ⟨a, cap, rfl, h1, h2, h3⟩ := h
  rcases Nat.eq_zero_or_pos ls.length with h0 | h0
  · rw [h0]
    exact ⟨[], ⟨a, cap, rfl, Nat.zero_le _, h2, fun h => absurd h (Nat.lt_irrefl _)⟩, rfl, fun j x hj => by simp at hj⟩
  · obtain ⟨b, off, rfl, hb, hc⟩ := h3 h0
    have key : ∀ j x, ((List.range ls.length).map fun j => (w.cell? ⟨b, off + j, none⟩).getD undef)[j]? = some x → w.cell? ⟨b, off + j, none⟩ = some x ∧ Ints .u64 w x (ls.getD j []) := fun j x hj => by
      rw [List.getElem?_map] at hj
      obtain ⟨q, hq, rfl⟩ := Option.map_eq_some_iff.1 hj
      have hjl : j < ls.length := by have := (List.getElem?_eq_some_iff.1 hq).1; simpa using this
      have : q = j := by rw [List.getElem?_range hjl] at hq; injection hq with hq; exact hq.symm
      subst this
      obtain ⟨u, g, i⟩ := hc q hjl
      rw [g]
      exact ⟨rfl, i⟩
    refine ⟨_, ⟨some ⟨b, off, none⟩, cap, by simp, by simpa using h1, h2, fun _ => ⟨b, off, rfl, hb, fun j x hj => (key j x hj).1⟩⟩, by simp, fun j x hj => (key j x hj).2⟩
/-- .. and as rows of values -/
theorem rowsA_of {w : World} {us : List Value} {ls : List (List Int)} (hl : us.length = ls.length) (h : ∀ j x, us[j]? = some x → Ints .u64 w x (ls.getD j [])) : RowsA w us (ls.map fun l => l.map (Value.int .u64)) := by
  refine ⟨by rw [hl, List.length_map], fun j x hj => ?_⟩
  have hj' : j < ls.length := by rw [← hl]; exact (List.getElem?_eq_some_iff.1 hj).1
  have := (h j x hj).vals
  rwa [show (ls.map fun l => l.map (Value.int .u64)).getD j [] = (ls.getD j []).map (Value.int .u64) by simp [List.getD, hj']]
theorem one_ints (k : IntKind) (l : List Int) : ∀ u ∈ l.map (Value.int k), u.oneCell' = true := fun u hu => by
  obtain ⟨q, _, rfl⟩ := List.mem_map.1 hu
  rfl
theorem one_slices {w : World} {us : List Value} {ls : List (List Int)} (h : ∀ j x, us[j]? = some x → Ints .u64 w x (ls.getD j [])) : ∀ u ∈ us, u.oneCell' = true := fun u hu => by
  obtain ⟨j, hj⟩ := List.getElem?_of_mem hu
  obtain ⟨a, c, rfl, -, -, -⟩ := h j u hj
  rfl
theorem owns_valsA {w : World} {base n : Nat} {t : TypeId} {v : Value} {us : List Value} (h : w.ownsRow base t 1 v n us) : Vals w v us := by
  have hl : us.length = n := by have := h.1; simpa using this
  have h0 := h
  obtain ⟨_, ⟨rfl, h1⟩ | ⟨g, cap, cur, rfl, hg, hb, hc1, hc2, hs, ht⟩⟩ := h
  · obtain rfl : us = [] := List.eq_nil_of_length_eq_zero (by omega)
    exact Vals.nil
  · refine ⟨some ⟨g, 0, none⟩, cap, by rw [hl], by omega, by unfold maxLen at hc2; omega, fun _ => ⟨g, 0, rfl, Blk.lt (t := t) (cs := cur) hb, fun j x hj => ?_⟩⟩
    rw [Nat.zero_add, h0.cellAt j (by have := (List.getElem?_eq_some_iff.1 hj).1; omega), hj]
theorem flat_ints (ls : List (List Int)) : (ls.map fun l => l.map (Value.int .u64)).flatten = ls.flatten.map (Value.int .u64) := by rw [List.map_flatten]
/-- slices.Concat of rows of numbers -/
theorem catU_any (v : Value) (us : List Value) (ls : List (List Int)) (w : World) (hv : Vals w v us) (hl : us.length = ls.length) (hr : ∀ j x, us[j]? = some x → Ints .u64 w x (ls.getD j [])) (hn : ls.flatten.length ≤ 1000000) :
    Calls Try.prog 55 #[v] w fun e w' => ∃ v', e = .returned v' ∧ w'.ownsRow w.heap.size 22 1 v' ls.flatten.length (ls.flatten.map (Value.int .u64)) ∧ Ints .u64 w' v' ls.flatten ∧ Ext w w' := by
  have := concatU v us (ls.map fun l => l.map (Value.int .u64)) w hv (rowsA_of hl hr) (fun l hl u hu => by
    obtain ⟨q, _, rfl⟩ := List.mem_map.1 hl
    exact one_ints _ _ u hu) (by rw [flat_ints, List.length_map]; exact hn)
  refine this.mono ?_
  rintro _ w' ⟨v', rfl, h1, h2⟩
  rw [flat_ints, List.length_map] at h1
  exact ⟨v', rfl, h1, (owns_valsA h1).ints, h2⟩

set_option maxRecDepth 100000 in
set_option maxHeartbeats 1000000 in
theorem shNumbersOf (p : Int) (R K : List Int) (C U : List (List Int)) (rv kv cv uv : Value) (w : World) (h0 : 0 ≤ p) (h1 : p ≤ 18446744073709551615) (hc : ClmR w rv kv cv uv R K C U) (hC : ∀ l ∈ C, U64s l) (hU : ∀ l ∈ U, U64s l)
    (hn : (C ++ U).flatten.length ≤ 1000000) (hm : C.length + U.length ≤ 1000000) :
    Calls Try.prog 35 #[.int .u64 p, .agg #[rv, kv, cv, uv]] w (Ret (.bool (hasB p (C ++ U).flatten)) w) := by
  have Hu := hid (show U64s (C ++ U).flatten from fun x hx => by
    obtain ⟨l, hl, hx⟩ := List.mem_flatten.1 hx
    rcases List.mem_append.1 hl with h | h
    · exact hC l h x hx
    · exact hU l h x hx)
  obtain ⟨usC, vC, lC, rC⟩ := hc.c.vals
  obtain ⟨usU, vU, lU, rU⟩ := hc.u.vals
  have eb := boxes2 w 29 27 #[rv, kv, cv, uv] #[cv, uv]
  have CS := hid (show Calls Try.prog 64 #[.slice (some ⟨w.heap.size + 1, 0, none⟩) 2 2] ((w.alloc (.cells #[rv, kv, cv, uv] 29)).alloc (.cells #[cv, uv] 27)) fun e w' => ∃ v', e = .returned v' ∧ Vals w' v' (usC ++ usU) ∧ Ext ((w.alloc (.cells #[rv, kv, cv, uv] 29)).alloc (.cells #[cv, uv] 27)) w' from by
    have := concatS (.slice (some ⟨w.heap.size + 1, 0, none⟩) 2 2) [cv, uv] [usC, usU] _ (Blk.vals (us := [cv, uv]) eb.2.1 rfl (by omega) (fun j hj => by
      rcases Nat.lt_or_ge j 1 with h | h
      · obtain rfl : j = 0 := by omega
        rfl
      · obtain rfl : j = 1 := by omega
        rfl)) ⟨rfl, fun j x hj => by
        rcases j with _ | _ | j
        · simp at hj; subst hj; exact vC.ext eb.2.2
        · simp at hj; subst hj; exact vU.ext eb.2.2
        · simp at hj⟩ (fun l hl => by
        rcases List.mem_cons.1 hl with rfl | hl
        · exact one_slices rC
        · obtain rfl : l = usU := by simpa using hl
          exact one_slices rU) (by simp [lC, lU]; exact hm)
    refine this.mono ?_
    rintro _ w' ⟨v', rfl, q1, q2⟩
    have q3 := owns_valsA q1
    rw [show [usC, usU].flatten = usC ++ usU by simp] at q3
    exact ⟨v', rfl, q3, q2⟩)
  have CU := hid fun (W : World) (hW : Ext w W) (v' : Value) (hv : Vals W v' (usC ++ usU)) => catU_any v' (usC ++ usU) (C ++ U) W hv (by simp [lC, lU]) (fun j x hj => by
    rcases Nat.lt_or_ge j usC.length with h | h
    · rw [List.getElem?_append_left h] at hj
      rw [show (C ++ U).getD j [] = C.getD j [] by simp [List.getD, List.getElem?_append_left (show j < C.length by omega)]]
      exact (rC j x hj).ext hW
    · rw [List.getElem?_append_right h, lC] at hj
      rw [show (C ++ U).getD j [] = U.getD (j - C.length) [] by simp [List.getD, List.getElem?_append_right (show C.length ≤ j by omega)]]
      exact (rU _ x hj).ext hW) hn
  have CH := hid fun (W : World) (v' : Value) (hv : Ints .u64 W v' (C ++ U).flatten) => has_any p v' _ W h0 h1 hv Hu.out
  obtain ⟨B, hB⟩ : ∃ B, hasB p (C ++ U).flatten = B := ⟨_, rfl⟩
  rw [hB] at CH ⊢
  have hx := hid eb.2.2
  have hb0 := hid (show Blk (w.alloc (.cells #[rv, kv, cv, uv] 29)) w.heap.size 29 #[rv, kv, cv, uv] from Blk.new w _ _)
  obtain ⟨h1', h2', h3', h4'⟩ := hc
  obtain ⟨a1, c1, rfl, -, -, -⟩ := h1'
  obtain ⟨a2, c2, rfl, -, -, -⟩ := h2'
  obtain ⟨a3, c3, rfl, -, -, -⟩ := h3'
  obtain ⟨a4, c4, rfl, -, -, -⟩ := h4'
  clear hC hU hB eb vC vU lC lU rC rU hn hm
  go_enter Try.func35, Try.ntmps35
  obtain ⟨b0, b1, b2, b3⟩ := hb0.out.at4
  go_wp2_with fail
  refine CS.out.mono ?_
  rintro _ w1 ⟨v1, rfl, q1, x1⟩
  go_wp2_with fail
  refine (CU.out w1 (hx.out.trans x1) v1 q1).mono ?_
  rintro _ w2 ⟨v2, rfl, q2, q3, x2⟩
  go_wp2_with fail
  refine (CH.out w2 v2 q3).mono ?_
  rintro _ _ ⟨rfl, rfl⟩
  go_wp2_with fail
  go_ret
  exact ⟨rfl, (hx.out.trans x1).trans x2⟩

set_option maxHeartbeats 400000 in
theorem shTaken1 (Bk k : Nat) (v : Value) (l : List Int) (w : World) (hv : Ints .u64 w v l) (hk : k < l.length) (h1 : w.cell? ⟨Bk, 0, none⟩ = some (.int .i64 k)) :
    Calls Try.prog 68 #[v, .pointer (some ⟨Bk, 0, none⟩)] w (Ret (.bool (decide (l.getD k 0 ≠ 0))) w) := by
  obtain ⟨a, cap, rfl, k1, k2, k3⟩ := hv
  obtain ⟨b, off, rfl, hb, hc⟩ := k3 (by omega)
  have g := hc k hk
  obtain ⟨z, ez⟩ : ∃ z, l.getD k 0 = z := ⟨_, rfl⟩
  rw [ez] at g ⊢
  obtain ⟨n, en⟩ : ∃ n, l.length = n := ⟨_, rfl⟩
  rw [en] at hk k1 ⊢
  clear k3 hc ez en
  go_enter Try.func68, Try.ntmps68
  go_wp2_with fail
  go_ret
  exact ⟨ret_bool (by simp [bne, Bool.beq_eq_decide_eq]), (by repeat (first | exact Ext.refl _ | assumption | refine Ext.drew ?_ | refine Ext.drewN ?_ _ | refine Ext.alloc ?_ _ | refine Ext.trans ?_ (by assumption)))⟩

/-- is a rest taken first in its row, and once there? -/
def TakenAt (R : List Int) (C : List (List Int)) (k : Nat) : Prop := (C.getD (R.getD k 0).toNat []).getD k 0 = 1 ∧ ∀ i, i < (R.getD k 0).toNat → (C.getD i []).getD k 0 = 0
noncomputable def tknB (R : List Int) (C : List (List Int)) : Bool := @decide (∀ k, k < R.length → TakenAt R C k) (Classical.propDecidable _)
theorem tknB_iff {R : List Int} {C : List (List Int)} : tknB R C = true ↔ ∀ k, k < R.length → TakenAt R C k := by unfold tknB; exact @decide_eq_true_iff _ (Classical.propDecidable _)
theorem tknB_no {R : List Int} {C : List (List Int)} (h : ¬ ∀ k, k < R.length → TakenAt R C k) : tknB R C = false := by unfold tknB; exact @decide_eq_false _ (Classical.propDecidable _) h

set_option maxRecDepth 100000 in
set_option maxHeartbeats 2000000 in
theorem shTaken (R K : List Int) (C U : List (List Int)) (rv kv cv uv : Value) (w : World) (hc : ClmR w rv kv cv uv R K C U) (hR : ∀ k, k < R.length → 0 ≤ R.getD k 0 ∧ R.getD k 0 < C.length) (hC : ∀ l ∈ C, l.length = R.length) :
    Calls Try.prog 37 #[.agg #[rv, kv, cv, uv]] w (Ret (.bool (tknB R C)) w) := by
  obtain ⟨Z, hZ⟩ : ∃ Z, tknB R C = Z := ⟨_, rfl⟩
  rw [hZ]
  have HZ := hid hZ; have HR := hid hR
  have CI := hid fun (k : Nat) (hk : k < R.length) (Bk : Nat) (W : World) (hW : Ext w W) (hcell : W.cell? ⟨Bk, 0, none⟩ = some (.int .i64 k)) =>
    index_taken (.pointer (some ⟨Bk, 0, none⟩)) (fun i => decide ((C.getD i []).getD k 0 ≠ 0)) cv C W (hc.c.ext hW) (fun j hj W2 hW2 u hu => shTaken1 Bk k u _ W2 hu (by rw [hC _ (getD_mem [] hj)]; exact hk) ((hW2.cells _ _ (cell_lt hcell)).trans hcell))
  obtain ⟨h1, h2, h3, h4⟩ := hc
  obtain ⟨a1, c1, rfl, l1, l2, l3⟩ := h1
  obtain ⟨a2, c2, rfl, -, -, -⟩ := h2
  obtain ⟨a3, c3, rfl, m1, m2, m3⟩ := h3
  obtain ⟨a4, c4, rfl, -, -, -⟩ := h4
  have L3 := hid l3; have M3 := hid m3; have HC := hid hC
  obtain ⟨r, er⟩ : ∃ r, R.length = r := ⟨_, rfl⟩
  obtain ⟨m, em⟩ : ∃ m, C.length = m := ⟨_, rfl⟩
  have Er := hid er; have Em := hid em
  rw [er] at l1 L3 CI HR HC ⊢
  rw [em] at m1 M3 CI HR ⊢
  clear l3 m3 hZ er em hR hC
  have hb := hid (show Blk (w.alloc (.cells #[.slice a1 r c1, .slice a2 K.length c2, .slice a3 m c3, .slice a4 U.length c4] 29)) w.heap.size 29 #[.slice a1 r c1, .slice a2 K.length c2, .slice a3 m c3, .slice a4 U.length c4] from Blk.new w _ _)
  have hx := hid (show Ext w (w.alloc (.cells #[.slice a1 r c1, .slice a2 K.length c2, .slice a3 m c3, .slice a4 U.length c4] 29)) from (Ext.refl w).alloc _)
  go_enter Try.func37, Try.ntmps37
  obtain ⟨b0, b1, b2, b3⟩ := hb.out.at4
  go_wp2_with fail
  go_loopw [9] (fun iv wr => ∃ k : Nat, iv = .int .i64 k ∧ k ≤ r ∧ Hid (∀ j, j < k → TakenAt R C j) ∧ Ext (w.alloc (.cells #[.slice a1 r c1, .slice a2 K.length c2, .slice a3 m c3, .slice a4 U.length c4] 29)) wr) (fun iv _ => r - (intOf iv).toNat)
  case atStart => exact ⟨0, rfl, Nat.zero_le _, hid (fun j hj => absurd hj (Nat.not_lt_zero _)), Ext.refl _⟩
  case round =>
    obtain ⟨k, rfl, hk, hall, hw⟩ := hrel
    clear b0 b1 b2 b3
    by_cases hlt : k < r
    · obtain ⟨bk, ok, rfl, hbk, hck⟩ := L3.out (by omega)
      have hR := HR.out k hlt
      obtain ⟨q, eq⟩ : ∃ q : Nat, R.getD k 0 = (q : Int) := ⟨(R.getD k 0).toNat, by omega⟩
      rw [eq] at hR
      have hqm : q < m := by omega
      obtain ⟨bu, ou, rfl, hbu, hcu⟩ := M3.out (by omega)
      obtain ⟨u, gq, iq⟩ := hcu q hqm
      have hxw : Ext w wr := hx.out.trans hw
      have gk := (hxw.cells _ _ hbk).trans (hck k hlt)
      rw [eq] at gk
      have hlq := hid (HC.out _ (getD_mem [] (show q < C.length by rw [Em.out]; exact hqm)))
      obtain ⟨au, cu, rfl, n1, n2, n3⟩ := iq
      rw [hlq.out] at gq n1 n3
      obtain ⟨bw, ow, rfl, hbw, hcw⟩ := n3 (by omega)
      have gz := hcw k hlt
      obtain ⟨z, ez⟩ : ∃ z, (C.getD q []).getD k 0 = z := ⟨_, rfl⟩
      rw [ez] at gz
      have Ez := hid ez; have Eq := hid eq
      have No := hid fun (h : ¬ TakenAt R C k) => (show Z = false by rw [← HZ.out]; exact tknB_no fun h2 => h (h2 k (by rw [Er.out]; exact hlt)))
      have at2 := hid fun (W : World) (hW : Ext wr W) => (⟨((hxw.trans hW).cells _ _ hbu).trans gq, ((hxw.trans hW).cells _ _ hbw).trans gz, (hb.out.ext (hw.trans hW)).at4⟩ : _ ∧ _ ∧ _)
      clear hck hcu hcw n3 gq gz ez eq hR
      have hB1 := hid (show Blk (wr.alloc (.cells #[.int .i64 (k : Int)] 3)) wr.heap.size 3 #[.int .i64 (k : Int)] from Blk.new wr _ _)
      have hx1 : Ext wr (wr.alloc (.cells #[.int .i64 (k : Int)] 3)) := (Ext.refl wr).alloc _
      have CI2 := hid (CI.out k hlt wr.heap.size _ (hxw.trans hx1) (hB1.out.cell 0))
      obtain ⟨-, -, b0, b1, b2, b3⟩ := at2.out _ hx1
      have atq := hid fun (W : World) (hW : Ext (wr.alloc (.cells #[.int .i64 (k : Int)] 3)) W) => (show W.cell? ⟨wr.heap.size, 0, none⟩ = some (.int .i64 (k : Int)) from (hB1.out.ext hW).cell 0)
      go_wp2_with fail
      clear b0 b1 b2 b3 gk
      refine CI2.out.mono ?_
      rintro _ w2 ⟨i, rfl, hi, x2⟩
      have hw2 : Ext wr w2 := hx1.trans x2
      obtain ⟨e1, e2, b0, b1, b2, b3⟩ := at2.out w2 hw2
      have e3 := atq.out w2 x2
      have Hi := hid hi
      clear hi
      by_cases ci : i = (q : Int)
      case neg =>
        have d1 : (i != (q : Int)) = true := by simp [ci]
        have N := hid (No.out (fun h => ci (by
          unfold TakenAt at h
          rw [Eq.out, Int.toNat_natCast] at h
          rcases Hi.out with ⟨_, q2⟩ | ⟨j, q1, q2, q3, q4⟩
          · have := q2 q hqm
            simp only [h.1] at this
            simp at this
          · have q3' := of_decide_eq_true q3
            rcases Nat.lt_trichotomy j q with c | c | c
            · exact absurd (h.2 j c) q3'
            · rw [q2, c]
            · have := q4 q c
              simp only [h.1] at this
              simp at this)))
        clear ci
        go_wp2_with fail
        go_quiet (fail)
        go_wp2_with fail
        go_ret
        exact ⟨ret_bool N.out.symm, (hxw.trans hw2).drewN _⟩
      subst ci
      have d1 : ((q : Int) != (q : Int)) = false := by simp
      by_cases c1 : z = 1
      · have d2 : (z != 1) = false := by simp [c1]
        have C1 := hid c1
        clear c1
        go_wp2_with fail
        go_quiet (fail)
        go_wp2_with fail
        go_roundw
        case rel => exact ⟨k + 1, by go_num, by omega, hid (fun j hj => by
          by_cases e : j = k
          · rw [e]
            unfold TakenAt
            rw [Eq.out, Int.toNat_natCast, Ez.out, C1.out]
            refine ⟨rfl, fun t ht => ?_⟩
            rcases Hi.out with ⟨q1, _⟩ | ⟨j', q1, q2, q3, q4⟩
            · omega
            · have := q4 t (by omega)
              simpa using this
          · exact hall.out j (by omega)), (hw.trans hw2).drewN _⟩
        case measure => simp [intOf]; omega
      · have d2 : (z != 1) = true := by simp [c1]
        have N := hid (No.out (fun h => c1 (by
          have := h.1
          rw [Eq.out, Int.toNat_natCast, Ez.out] at this
          exact this)))
        clear c1
        go_wp2_with fail
        go_quiet (fail)
        go_wp2_with fail
        go_ret
        exact ⟨ret_bool N.out.symm, (hxw.trans hw2).drewN _⟩
    · obtain rfl : k = r := by omega
      have N := hid (show Z = true by rw [← HZ.out]; exact tknB_iff.2 fun j hj => hall.out j (by rw [← Er.out]; exact hj))
      go_wp2_with fail
      go_ret
      exact ⟨ret_bool N.out.symm, hx.out.trans hw⟩
end Go.Proofs.Ytnfnommiabalfaa
/- Package shape: names; slices cut out of slices. -/
namespace Go.Proofs.Ytnfnommiabalfaa
open Go.RowKit Go.Maps

theorem cut_lh {w : World} {a : Option Addr} {len cap : Nat} {xs : List Int} (hv : Ints .u64 w (.slice a len cap) xs) (lo hi : Nat) (h1 : lo ≤ hi) (h2 : hi ≤ len) :
    ∃ a', (∀ W, (Instr.slice 23 (.slice a len cap) (some (.int .i64 (lo : Int))) (some (.int .i64 (hi : Int))) none).run Try.prog W = .ok (.slice a' (hi - lo) (cap - lo)) W) ∧ Ints .u64 w (.slice a' (hi - lo) (cap - lo)) ((xs.drop lo).take (hi - lo)) := by
  have hu : Try.prog.underlying 23 = some (.slice (Try.prog.elem 23)) := by kernel_rfl
  have hs : ∀ W, ((sizeOf (Try.prog.elem 23)).run Try.prog W) = .ok 1 W := fun W => by kernel_rfl
  have hd := hv
  obtain ⟨a', cap', e, k1, k2, k3⟩ := hd
  injection e with e1 e2 e3
  subst e1; subst e2; subst e3
  refine ⟨_, fun W => ?_, (hv.dropq lo (by omega)).take' (hi - lo) (by simp; omega)⟩
  rw [run_slice_lh W 23 _ _ cap hu .i64 .i64 lo hi (by omega) (by omega) (by omega), hs]
  simp only [Result.andThen, sliced, Int.toNat_natCast, Nat.mul_one]
theorem cut_l {w : World} {a : Option Addr} {len cap : Nat} {xs : List Int} (hv : Ints .u64 w (.slice a len cap) xs) (lo : Nat) (h1 : lo ≤ len) :
    ∃ a', (∀ W, (Instr.slice 23 (.slice a len cap) (some (.int .i64 (lo : Int))) none none).run Try.prog W = .ok (.slice a' (len - lo) (cap - lo)) W) ∧ Ints .u64 w (.slice a' (len - lo) (cap - lo)) (xs.drop lo) := by
  have hu : Try.prog.underlying 23 = some (.slice (Try.prog.elem 23)) := by kernel_rfl
  have hs : ∀ W, ((sizeOf (Try.prog.elem 23)).run Try.prog W) = .ok 1 W := fun W => by kernel_rfl
  have hd := hv
  obtain ⟨a', cap', e, k1, k2, k3⟩ := hd
  injection e with e1 e2 e3
  subst e1; subst e2; subst e3
  refine ⟨_, fun W => ?_, hv.dropq lo (by omega)⟩
  rw [run_slice_l W 23 _ _ cap hu .i64 lo (by omega) (by omega), hs]
  simp only [Result.andThen, sliced, Int.toNat_natCast, Nat.mul_one]
theorem cut_h {w : World} {a : Option Addr} {len cap : Nat} {xs : List Int} (hv : Ints .u64 w (.slice a len cap) xs) (hi : Nat) (h2 : hi ≤ len) :
    ∃ a', (∀ W, (Instr.slice 23 (.slice a len cap) none (some (.int .i64 (hi : Int))) none).run Try.prog W = .ok (.slice a' hi cap) W) ∧ Ints .u64 w (.slice a' hi cap) (xs.take hi) := by
  have hu : Try.prog.underlying 23 = some (.slice (Try.prog.elem 23)) := by kernel_rfl
  have hs : ∀ W, ((sizeOf (Try.prog.elem 23)).run Try.prog W) = .ok 1 W := fun W => by kernel_rfl
  have hd := hv
  obtain ⟨a', cap', e, k1, k2, k3⟩ := hd
  injection e with e1 e2 e3
  subst e1; subst e2; subst e3
  have hI := (hv.dropq 0 (by omega)).take' hi (by simpa using h2)
  rw [List.drop_zero, Nat.sub_zero] at hI
  refine ⟨_, fun W => ?_, hI⟩
  rw [run_slice_h W 23 _ _ cap hu .i64 hi (by omega) (by omega), hs]
  simp only [Result.andThen, sliced, Int.toNat_natCast, Nat.mul_one, Nat.sub_zero]

/-- a block of ints -/
def NsB (w : World) (g : Nat) (l : List Int) : Prop := ∃ cs, Blk w g 3 cs ∧ ∀ j, j < l.length → cs[j]? = some (.int .i64 (l.getD j 0))
theorem NsB.ext {w w' : World} {g : Nat} {l : List Int} (h : NsB w g l) (x : Ext w w') : NsB w' g l := by
  obtain ⟨cs, h1, h2⟩ := h
  exact ⟨cs, h1.ext x, h2⟩
theorem NsB.two {w : World} {g g' : Nat} {l : List Int} (h : NsB w g l) (i : Nat) (u : Value) (hne : g ≠ g') : NsB (w.setCell ⟨g', i, none⟩ u) g l := by
  obtain ⟨cs, h1, h2⟩ := h
  exact ⟨cs, h1.two i u hne, h2⟩
theorem NsB.ints {w : World} {g n : Nat} {l : List Int} (h : NsB w g l) (hl : l.length = n) (hn : n ≤ 1000000) : Ints .i64 w (.slice (some ⟨g, 0, none⟩) n n) l := by
  obtain ⟨cs, h1, h2⟩ := h
  exact h1.ints hl (by omega) fun j hj => h2 j (by omega)

set_option maxRecDepth 100000 in
set_option maxHeartbeats 1000000 in
theorem shNames (v : Value) (xs : List Int) (w : World) (hv : Ints .u64 w v xs) (hn : xs.length ≤ 1000000) :
    Calls Try.prog 52 #[v] w fun e w' => ∃ g, e = .returned (.slice (some ⟨g, 0, none⟩) xs.length xs.length) ∧ w.heap.size ≤ g ∧ NsB w' g (xs.map IntKind.i64.wrap) ∧ Ext w w' := by
  obtain ⟨a, cap, rfl, k1, k2, k3⟩ := hv
  have K3 := hid k3
  obtain ⟨m, em⟩ : ∃ m, xs.length = m := ⟨_, rfl⟩
  have Em := hid em
  rw [em] at k1 K3 hn ⊢
  have hmk := make_ints (P := Try.prog) 26 3 .i64 8 (by omega) (by kernel_rfl) (by kernel_rfl) m m (Nat.le_refl _) (by omega)
  clear k3 em
  go_enter Try.func52, Try.ntmps52
  go_wp2_with fail
  have hb0 := hid (Blk.new w 3 (madeCells #[Value.int .i64 0] m))
  have hx0 := (Ext.refl w).alloc (.cells (madeCells #[Value.int .i64 0] m) 3)
  obtain ⟨g, hg⟩ : ∃ g, w.heap.size = g := ⟨_, rfl⟩
  have hgw : w.heap.size ≤ g := by omega
  obtain ⟨w2, hw2⟩ : ∃ w2, w.alloc (.cells (madeCells #[Value.int .i64 0] m) 3) = w2 := ⟨_, rfl⟩
  have hsz0 := hid (show (madeCells #[Value.int .i64 0] m).size = m by simp [madeCells])
  rw [hg, hw2] at hb0
  rw [hw2] at hx0
  rw [hg, hw2]
  obtain ⟨cs0, hcs0⟩ : ∃ c, madeCells #[Value.int .i64 0] m = c := ⟨_, rfl⟩
  rw [hcs0] at hb0 hsz0
  clear hw2 hmk hcs0 hg
  go_loopw [11] (fun iv wr => ∃ (k : Nat) (cs : Array Value), iv = .int .i64 k ∧ k ≤ m ∧ Hid (Blk wr g 3 cs) ∧ Hid (cs.size = m) ∧ Hid (∀ j, j < k → cs[j]? = some (.int .i64 (IntKind.i64.wrap (xs.getD j 0)))) ∧ Ext w wr) (fun iv _ => m - (intOf iv).toNat)
  case atStart => exact ⟨0, _, rfl, Nat.zero_le _, hb0, hsz0, hid (fun j hj => absurd hj (Nat.not_lt_zero _)), hx0⟩
  case round =>
    obtain ⟨k, cs, rfl, hk, hbl, hcs, hc, hxw⟩ := hrel
    clear hx0 hb0
    by_cases hlt : k < m
    · obtain ⟨b, off, rfl, hb, hcell⟩ := K3.out (by omega)
      have g1 := (hxw.cells _ _ hb).trans (hcell k hlt)
      obtain ⟨y, ey⟩ : ∃ y, xs.getD k 0 = y := ⟨_, rfl⟩
      rw [ey] at g1
      have Ey := hid ey
      obtain ⟨x0, e0⟩ : ∃ x, cs[k]? = some x := ⟨_, Array.getElem?_eq_getElem (by rw [hcs.out]; exact hlt)⟩
      have gX := (hbl.out.cell k).trans e0
      have gF := hbl.out.frozen k
      have Wy := hid (show IntKind.i64.wrap y = wrap64 y by simp [wrap64, IntKind.wrap_i64])
      clear e0 hcell ey
      go_wp2_with fail
      go_roundw
      case rel =>
        refine ⟨k + 1, cs.setIfInBounds k (.int .i64 (wrap64 y)), by go_num, by omega, hid (hbl.out.set_ k _), hid (by simp [hcs.out]), hid (fun j hj => ?_), hxw.setCell (p := ⟨g, k, none⟩) hgw _⟩
        rw [Array.getElem?_setIfInBounds]
        by_cases e : k = j
        · subst e
          rw [if_pos rfl, if_pos (by rw [hcs.out]; exact hlt), Ey.out, Wy.out]
        · rw [if_neg e]; exact hc.out j (by omega)
      case measure => simp [intOf]; omega
    · obtain rfl : m = k := by omega
      have hI := hid (show NsB wr g (xs.map IntKind.i64.wrap) from ⟨cs, hbl.out, fun j hj => by
        rw [List.length_map, Em.out] at hj
        rw [hc.out j hj]
        simp [List.getD, show j < xs.length by rw [Em.out]; exact hj]⟩)
      go_wp2_with fail
      go_ret
      exact ⟨_, rfl, hgw, hI.out, hxw⟩
end Go.Proofs.Ytnfnommiabalfaa
/- Package shape: lists. -/
namespace Go.Proofs.Ytnfnommiabalfaa
open Go.RowKit Go.Maps

/-- numbers fall into lists -/
def fallL (many q : Nat) (xs : List Int) : List (List Int) := (List.range many).map fun i => (xs.drop (i * q)).take q
theorem fallL_len (many q : Nat) (xs : List Int) : (fallL many q xs).length = many := by simp [fallL]
theorem fallL_get {many q j : Nat} {xs : List Int} (hj : j < many) : (fallL many q xs).getD j [] = (xs.drop (j * q)).take q := by simp [fallL, List.getD, hj]

/-- a block of lists, each in memory of its own -/
def LsB (w : World) (base g many q : Nat) (xs : List Int) : Prop := ∃ cs, Blk w g 23 cs ∧ cs.size = many ∧ ∀ j, j < many → ∃ u, cs[j]? = some u ∧ w.ownsRow base 22 1 u q (((xs.drop (j * q)).take q).map (Value.int .u64))
theorem LsB.ext {w w' : World} {base g many q : Nat} {xs : List Int} (h : LsB w base g many q xs) (x : Ext w w') : LsB w' base g many q xs := by
  obtain ⟨cs, h1, h2, h3⟩ := h
  refine ⟨cs, h1.ext x, h2, fun j hj => ?_⟩
  obtain ⟨u, q1, q2⟩ := h3 j hj
  exact ⟨u, q1, ownsRow_ext q2 x⟩
theorem LsB.two {w : World} {base g g' many q : Nat} {xs : List Int} {cs' : Array Value} (h : LsB w base g many q xs) (hB : Blk w g' 29 cs') (i : Nat) (u : Value) (hne : g ≠ g') : LsB (w.setCell ⟨g', i, none⟩ u) base g many q xs := by
  obtain ⟨cs, h1, h2, h3⟩ := h
  refine ⟨cs, h1.two i u hne, h2, fun j hj => ?_⟩
  obtain ⟨u', q1, q2⟩ := h3 j hj
  exact ⟨u', q1, own_set q2 hB (by decide) i u⟩
theorem LsB.us {w : World} {base g many q : Nat} {xs : List Int} (h : LsB w base g many q xs) (hm : many ≤ 64) : UsL w (.slice (some ⟨g, 0, none⟩) many many) (fallL many q xs) := by
  obtain ⟨cs, h1, h2, h3⟩ := h
  refine ⟨some ⟨g, 0, none⟩, many, by rw [fallL_len], by rw [fallL_len]; exact Nat.le_refl _, by omega, fun _ => ⟨g, 0, rfl, h1.lt, fun j hj => ?_⟩⟩
  rw [fallL_len] at hj
  obtain ⟨u, q1, q2⟩ := h3 j hj
  exact ⟨u, by rw [Nat.zero_add, h1.cell j]; exact q1, by rw [fallL_get hj]; exact own_ints q2⟩

set_option maxRecDepth 100000 in
set_option maxHeartbeats 1000000 in
theorem shLists (v : Value) (xs : List Int) (many q : Nat) (w : World) (hv : Ints .u64 w v xs) (hm : many ≤ 64) (hq : q ≤ 64) (hl : xs.length = many * q) :
    Calls Try.prog 53 #[v, .int .i64 many] w fun e w' => ∃ g, e = .returned (.slice (some ⟨g, 0, none⟩) many many) ∧ w.heap.size ≤ g ∧ LsB w' w.heap.size g many q xs ∧ Ext w w' := by
  have hL : many * q ≤ 64 * 64 := Nat.mul_le_mul hm hq
  have HV := hid hv
  obtain ⟨a, cap, rfl, k1, k2, -⟩ := hv
  obtain ⟨L, eL⟩ : ∃ L, many * q = L := ⟨_, rfl⟩
  have EL := hid eL
  have HLn := hid hl
  rw [hl, eL] at HV k1 ⊢
  rw [eL] at hL
  have CUT := hid fun (i : Nat) (hi : i < many) => (by
    have h1 : i * q + q ≤ L := by rw [← Nat.succ_mul, ← EL.out]; exact Nat.mul_le_mul_right _ hi
    obtain ⟨a', q1, q2⟩ := cut_lh HV.out (i * q) (i * q + q) (Nat.le_add_right _ _) h1
    rw [Nat.add_sub_cancel_left] at q1 q2
    exact ⟨a', i * q, i * q + q, cap - i * q, ⟨h1, Nat.le_add_right _ _, q1⟩, q2,
      by rw [← EL.out, Nat.mul_left_comm, Int.natCast_mul, Int.mul_tdiv_cancel_left _ (by omega)], by
        rw [← Nat.succ_mul, ← EL.out, Nat.mul_left_comm, Int.natCast_mul, Int.mul_tdiv_cancel_left _ (by omega)], by
        rw [← EL.out]; exact Nat.le_trans (Nat.mul_le_mul_right _ (show i ≤ 64 by omega)) (by omega), by
        rw [← EL.out]; exact Nat.le_trans (Nat.mul_le_mul_right _ (show i + 1 ≤ 64 by omega)) (by omega)⟩ :
    ∃ (a' : Option Addr) (lo hi c' : Nat), (hi ≤ L ∧ lo ≤ hi ∧ ∀ W, (Instr.slice 23 (.slice a L cap) (some (.int .i64 (lo : Int))) (some (.int .i64 (hi : Int))) none).run Try.prog W = .ok (.slice a' q c') W) ∧ Ints .u64 w (.slice a' q c') ((xs.drop (i * q)).take q) ∧
      ((i * L : Nat) : Int).tdiv (many : Int) = (lo : Int) ∧ (((i + 1) * L : Nat) : Int).tdiv (many : Int) = (hi : Int) ∧ i * L ≤ 64 * 4096 ∧ (i + 1) * L ≤ 64 * 4096)
  have hlen := hid fun (i : Nat) (hi : i < many) => (show ((xs.drop (i * q)).take q).length = q by
    have h1 : i * q + q ≤ L := by rw [← Nat.succ_mul, ← EL.out]; exact Nat.mul_le_mul_right _ hi
    rw [List.length_take, List.length_drop, HLn.out, EL.out]; omega)
  have CC := hid fun (W : World) (y : Value) (l : List Int) (hy : Ints .u64 W y l) (hl : l.length = q) => (by have := clone_own y l W hy (by omega); rwa [hl] at this : Calls Try.prog 30 #[y] W fun e w' => ∃ v', e = .returned v' ∧ w'.ownsRow W.heap.size 22 1 v' q (l.map (Value.int .u64)) ∧ Ext W w')
  have hmk := make_rows (P := Try.prog) 27 23 24 (by omega) (by kernel_rfl) (by kernel_rfl) many many (Nat.le_refl _) (by omega)
  clear hl eL
  go_enter Try.func53, Try.ntmps53
  go_wp2_with fail
  have hb0 := hid (Blk.new w 23 (madeCells #[Value.slice none 0 0] many))
  have hx0 := (Ext.refl w).alloc (.cells (madeCells #[Value.slice none 0 0] many) 23)
  obtain ⟨g, hg⟩ : ∃ g, w.heap.size = g := ⟨_, rfl⟩
  have hgw : w.heap.size ≤ g := by omega
  obtain ⟨w2, hw2⟩ : ∃ w2, w.alloc (.cells (madeCells #[Value.slice none 0 0] many) 23) = w2 := ⟨_, rfl⟩
  have hsz0 := hid (show (madeCells #[Value.slice none 0 0] many).size = many by simp [madeCells])
  rw [hg, hw2] at hb0
  rw [hw2] at hx0
  rw [hg, hw2]
  obtain ⟨cs0, hcs0⟩ : ∃ c, madeCells #[Value.slice none 0 0] many = c := ⟨_, rfl⟩
  rw [hcs0] at hb0 hsz0
  clear hw2 hmk hcs0 hg
  go_loopw [11] (fun iv wr => ∃ (k : Nat) (cs : Array Value), iv = .int .i64 k ∧ k ≤ many ∧ Hid (Blk wr g 23 cs) ∧ Hid (cs.size = many) ∧ Hid (∀ j, j < k → ∃ u, cs[j]? = some u ∧ wr.ownsRow w.heap.size 22 1 u q (((xs.drop (j * q)).take q).map (Value.int .u64))) ∧ Ext w wr) (fun iv _ => many - (intOf iv).toNat)
  case atStart => exact ⟨0, _, rfl, Nat.zero_le _, hb0, hsz0, hid (fun j hj => absurd hj (Nat.not_lt_zero _)), hx0⟩
  case round =>
    obtain ⟨k, cs, rfl, hk, hbl, hcs, hc, hxw⟩ := hrel
    clear hx0 hb0
    by_cases hlt : k < many
    · obtain ⟨a', lo, hi, c', ⟨s1, s2, s3⟩, I, d1, d2, n1, n2⟩ := CUT.out k hlt
      have HI := hid I
      obtain ⟨x0, e0⟩ : ∃ x, cs[k]? = some x := ⟨_, Array.getElem?_eq_getElem (by rw [hcs.out]; exact hlt)⟩
      have gX := hid fun (W : World) (hW : Ext wr W) => ((hbl.out.ext hW).cell k).trans e0
      have gF := hid fun (W : World) (hW : Ext wr W) => (hbl.out.ext hW).frozen k
      obtain ⟨P1, f1⟩ : ∃ P, k * L = P := ⟨_, rfl⟩
      obtain ⟨P2, f2⟩ : ∃ P, (k + 1) * L = P := ⟨_, rfl⟩
      have m1 : (k : Int) * (L : Int) = (P1 : Int) := by rw [← f1]; push_cast; rfl
      have m2 : ((k : Int) + 1) * (L : Int) = (P2 : Int) := by rw [← f2]; push_cast; rfl
      rw [f1] at d1 n1; rw [f2] at d2 n2
      have w1 : IntKind.i64.wrap (P1 : Int) = (P1 : Int) := IntWalk.i64_in _ (by omega)
      have w2 : IntKind.i64.wrap (P2 : Int) = (P2 : Int) := IntWalk.i64_in _ (by omega)
      have w3 : IntKind.i64.wrap (lo : Int) = (lo : Int) := IntWalk.i64_in _ (by omega)
      have w4 : IntKind.i64.wrap (hi : Int) = (hi : Int) := IntWalk.i64_in _ (by omega)
      have w5 : IntKind.i64.wrap ((k : Int) + 1) = (k : Int) + 1 := IntWalk.i64_in _ (by omega)
      have nz : ((many : Int) == 0) = false := by simp; omega
      have nz2 : ¬ (many = 0) := by omega
      clear e0 I f1 f2
      go_wp2_with fail
      go_region_held3 (fun _ => True) (trivial)
        ((first
          | (go_at_call 30; refine (CC.out _ _ _ (HI.out.ext (hxw.trans ((Ext.refl wr).drew))) (hlen.out k hlt)).mono ?_; rintro _ w5 ⟨v5, rfl, o5, x5⟩
             have O5 := hid o5
             obtain ⟨a5, c5, rfl, -, -⟩ := owns_ints o5
             have d0 := gX.out w5 ((Ext.refl wr).drew.trans x5)
             have e0 := gF.out w5 ((Ext.refl wr).drew.trans x5))))
      have y5 : Ext wr w5 := (Ext.refl wr).drew.trans x5
      clear d1 d2 m1 m2 s3 nz nz2
      go_wp2_with fail
      go_roundw
      case rel =>
        have hB5 := hbl.out.ext y5
        have hgu : 22 ≠ 23 := by decide
        refine ⟨k + 1, cs.setIfInBounds k (.slice a5 q c5), by go_num, by omega, hid (hB5.set_ k _), hid (by simp [hcs.out]), hid (fun j hj => ?_), (hxw.trans y5).setCell (p := ⟨g, k, none⟩) hgw _⟩
        rw [Array.getElem?_setIfInBounds]
        by_cases e : k = j
        · subst e
          rw [if_pos rfl, if_pos (by rw [hcs.out]; exact hlt)]
          exact ⟨_, rfl, own_set (ownsRow_low O5.out hxw.size) hB5 hgu k _⟩
        · rw [if_neg e]
          obtain ⟨u, q1, q2⟩ := hc.out j (by omega)
          exact ⟨u, q1, own_set (ownsRow_ext q2 y5) hB5 hgu k _⟩
      case measure => simp [intOf]; omega
    · obtain rfl : many = k := by omega
      have HU := hid (show LsB wr w.heap.size g many q xs from ⟨cs, hbl.out, hcs.out, hc.out⟩)
      go_wp2_with fail
      go_ret
      exact ⟨_, rfl, hgw, HU.out, hxw⟩
end Go.Proofs.Ytnfnommiabalfaa
