import Derived.Test.YthomeenmcajmdaaGreatDoorBun23
import Derived.Test.YthomeenmcajmdaaGreatDoorBun04
import Derived.Test.YthomeenmcajmdaaGreatDoorMat2
import Derived.Lib.AppendZeros
import Derived.Lib.Walk
namespace Go.Proofs.YthomeenmcajmdaaGreatDoor
open Go.RowKit Go.Maps
set_option maxRecDepth 100000 in
set_option maxHeartbeats 2000000 in
theorem grow_nil (n : Nat) (h1 : 1 ≤ n) (hn : n ≤ 1000000) (w : World) : Calls Tryz.prog 158 #[.slice none 0 0, .int .i64 n] w fun e w' => ∃ v, e = .returned v ∧ w'.ownsRow w.heap.size 22 1 v 0 [] ∧ Ext w w' := by
  obtain ⟨i0, hi, hz0, hz1, hz2⟩ := info_parts info_u64p
  have hrz : ∀ ty, (Builtin.append_ #[24, 3] ty #[.slice none 0 0, .int .i64 (n : Int)]).run Tryz.prog w = .ok (.slice (some ⟨w.heap.size, 0, none⟩) n (grownCap w n 0 22)) (w.drew.alloc (.cells (Builtin.zeroCells #[Value.int .u64 0] n ++ Builtin.zeroCells #[Value.int .u64 0] (grownCap w n 0 22 - n)) 22)) := fun ty => by
    have h := Lib.run_append_nil_zeros w 24 3 ty 22 i0 (.int .u64 0) .i64 .i64 Tryz.underlying24 Tryz.underlying3 hi hz0 n (by omega) (by omega) (by omega) (by rw [hz2]; omega)
    exact h
  have hGn : n ≤ grownCap w n 0 22 := grownCap_ge w _ _ _
  have hGm := grownCap_le_maxLen w n 0 22 (by unfold maxLen; omega)
  obtain ⟨G, hG⟩ : ∃ G, grownCap w n 0 22 = G := ⟨_, rfl⟩
  rw [hG] at hrz hGn hGm
  unfold maxLen at hGm
  clear hG
  go_enter Tryz.func158, Tryz.ntmps158
  go_wp2_with (at_builtin; refine Lib.wpList_append_run _ rfl _ _ _ _ rfl _ _ rfl rfl _ _ (hrz _) ?_)
  go_ret
  refine ⟨_, rfl, ⟨rfl, .inr ⟨_, G, _, rfl, Nat.le_refl _, heap_alloc_new w.drew _, Nat.zero_le _, by unfold maxLen; omega, ?_, by simp⟩⟩, ((Ext.refl w).drew).alloc _⟩
  rw [Array.size_append, size_zeroCells, size_zeroCells]
  simp
  omega
structure RowsU (w : World) (us : List (Option Addr × Nat × Nat)) (ls : List (List Int)) : Prop where
  len : us.length = ls.length
  row : ∀ j x, us[j]? = some x → Ints .u64 w (slV x) (ls.getD j [])
theorem RowsU.ext {w w' : World} {us : List (Option Addr × Nat × Nat)} {ls : List (List Int)} (h : RowsU w us ls) (he : Ext w w') : RowsU w' us ls := ⟨h.len, fun j x hj => (h.row j x hj).ext he⟩
def flatTo (ls : List (List Int)) (k : Nat) : List Int := (ls.take k).flatten
theorem flatTo_succ {ls : List (List Int)} {k : Nat} (h : k < ls.length) : flatTo ls (k + 1) = flatTo ls k ++ ls.getD k [] := by
  unfold flatTo
  rw [List.take_succ_eq_append_getElem h, List.flatten_append]
  simp [List.getD, h]
theorem flatTo_all (ls : List (List Int)) : flatTo ls ls.length = ls.flatten := by unfold flatTo; rw [List.take_length]
theorem flatTo_le {ls : List (List Int)} (hl : ∀ l ∈ ls, l.length ≤ 64) : ∀ k, k ≤ ls.length → (flatTo ls k).length ≤ k * 64
  | 0, _ => by simp [flatTo]
  | k + 1, h => by
    have h1 := flatTo_le hl k (by omega)
    have h2 : (ls.getD k []).length ≤ 64 := by
      rw [List.getD, List.getElem?_eq_getElem (show k < ls.length by omega)]
      exact hl _ (List.getElem_mem (by omega))
    rw [flatTo_succ (by omega), List.length_append]
    omega
set_option maxRecDepth 100000 in
set_option maxHeartbeats 2000000 in
theorem concat_any (v : Value) (us : List (Option Addr × Nat × Nat)) (ls : List (List Int)) (w : World) (hv : Vals w v (us.map slV)) (hr : RowsU w us ls) (hn : us.length ≤ 64) (hl : ∀ l ∈ ls, l.length ≤ 64) (h0 : 0 < ls.flatten.length) :
    Calls Tryz.prog 141 #[v] w fun e w' => ∃ a c, e = .returned (.slice a ls.flatten.length c) ∧ w'.ownsRow w.heap.size 22 1 (.slice a ls.flatten.length c) ls.flatten.length (ls.flatten.map (Value.int .u64)) ∧ Ext w w' := by
  obtain ⟨i0, hi, hz0, hz1, hz2⟩ := info_parts info_u64p
  have HG := hid fun (n : Nat) (h1 : 1 ≤ n) (hn : n ≤ 1000000) (W : World) => grow_nil n h1 hn W
  have Hr := hid hr
  have hlen := hr.len
  obtain ⟨n, en⟩ : ∃ n, us.length = n := ⟨_, rfl⟩
  have HS := hid fun (k : Nat) (h : k < n) => flatTo_succ (ls := ls) (k := k) (by omega)
  have HB := hid fun (k : Nat) (h : k ≤ n) => Nat.le_trans (flatTo_le hl k (by omega)) (Nat.mul_le_mul_right 64 (show k ≤ 64 by omega))
  have Hall := hid (show flatTo ls n = ls.flatten by rw [← en, hlen]; exact flatTo_all ls)
  have H0 := hid h0
  obtain ⟨a, cap, rfl, k1, k2, k3⟩ := hv
  rw [List.length_map, en] at k1 k3 ⊢
  have hn0 : 0 < n := by
    rcases Nat.eq_zero_or_pos n with h | h
    · exfalso
      rw [← Hall.out, h] at h0
      simp [flatTo] at h0
    · exact h
  obtain ⟨b, off, rfl, hb, hc⟩ := k3 hn0
  have Hc := hid fun (j : Nat) (h : j < n) => (show ∃ x, us[j]? = some x ∧ w.cell? ⟨b, off + j, none⟩ = some (slV x) from ⟨us[j], List.getElem?_eq_getElem (by omega), hc j _ (by rw [List.getElem?_map, List.getElem?_eq_getElem (show j < us.length by omega)]; rfl)⟩)
  have hn64 : n ≤ 64 := by omega
  clear k3 hc hr hl h0 hlen hn en
  go_enter Tryz.func141, Tryz.ntmps141
  go_wp2_with fail
  go_loopw [11, 3] (fun iv sv wr => ∃ (k s : Nat), iv = .int .i64 k ∧ sv = .int .i64 s ∧ k ≤ n ∧ Hid (s = (flatTo ls k).length) ∧ Ext w wr) (fun iv _ _ => n - (intOf iv).toNat)
  case atStart => exact ⟨0, 0, rfl, rfl, Nat.zero_le _, hid (by simp [flatTo]), Ext.refl _⟩
  case round =>
    obtain ⟨k, s, rfl, rfl, hk, hs, hxr⟩ := hrel
    have hsb := HB.out k hk
    rw [← hs.out] at hsb
    by_cases hlt : k < n
    · obtain ⟨⟨xa, xn, xc⟩, ex, hcell⟩ := Hc.out k hlt
      have g1 := (hxr.cells _ _ hb).trans hcell
      have hI := Hr.out.row k _ ex
      have hS := HS.out k hlt
      have hsb2 := HB.out (k + 1) (by omega)
      rw [hS, List.length_append, ← hs.out] at hsb2
      unfold slV at g1 hI
      dsimp only at g1 hI
      obtain ⟨l, el⟩ : ∃ l, ls.getD k [] = l := ⟨_, rfl⟩
      rw [el] at hI hS hsb2
      have exn : xn = l.length := by
        obtain ⟨a1, c1, e1, _⟩ := hI
        injection e1
      subst exn
      have hnew := hid (show s + l.length = (flatTo ls (k + 1)).length by rw [hS, List.length_append, hs.out])
      obtain ⟨m, em⟩ : ∃ m, l.length = m := ⟨_, rfl⟩
      rw [em] at g1 hsb2 hnew
      clear hcell ex hI hS el em
      go_wp2_with fail
      go_roundw
      case rel => exact ⟨k + 1, s + m, by go_num, by go_num, by omega, hnew, hxr⟩
      case measure => simp [intOf]; omega
    · obtain rfl : k = n := by omega
      have hs1 : 1 ≤ s := by
        have := H0.out
        rw [← Hall.out, ← hs.out] at this
        omega
      go_wp2_with fail
      refine (HG.out s hs1 (by omega) _).mono ?_
      rintro _ w1 ⟨v1, rfl, ho1, x1⟩
      have hw1 : Ext w w1 := hxr.trans x1
      have ho1' := hid (ownsRow_low ho1 hxr.size)
      clear ho1
      go_wp2_with fail
      go_loopw [27, 6] (fun iv rv wr2 => ∃ (j : Nat), iv = .int .i64 j ∧ j ≤ k ∧ Hid (wr2.ownsRow w.heap.size 22 1 rv (flatTo ls j).length ((flatTo ls j).map (Value.int .u64))) ∧ Ext w wr2) (fun iv _ _ => k - (intOf iv).toNat)
      case atStart => exact ⟨0, rfl, Nat.zero_le _, hid (by simpa [flatTo] using ho1'.out), hw1⟩
      case round =>
        obtain ⟨j, rfl, hj, hown, hx2⟩ := hrel
        have hsz := hx2.size
        by_cases hlt : j < k
        · obtain ⟨⟨xa, xn, xc⟩, ex, hcell⟩ := Hc.out j hlt
          have g1 := (hx2.cells _ _ hb).trans hcell
          have hI := (Hr.out.row j _ ex).ext hx2
          have hS := HS.out j hlt
          have hsb1 := HB.out (j + 1) (by omega)
          rw [hS, List.length_append] at hsb1
          unfold slV at g1 hI
          dsimp only at g1 hI
          have HI := hid hI
          have happ := hid (show (flatTo ls j).map (Value.int .u64) ++ (ls.getD j []).map (Value.int .u64) = (flatTo ls (j + 1)).map (Value.int .u64) by rw [hS, List.map_append])
          have hlen2 := hid (show (flatTo ls j).length + (ls.getD j []).length = (flatTo ls (j + 1)).length by rw [hS, List.length_append])
          clear hI hS ex hcell
          go_wp2_with (first | (at_builtin; refine wpList_append_ints rfl _ _ 24 rfl w.heap.size 22 i0 (.int .u64 0) 8 Tryz.underlying24 hi hz0 hz1 hz2 rfl u6 (flatTo ls j).length _ rfl hown.out (.slice xa xn xc) (ls.getD j []) rfl HI.out (by simp only [maxLen]; omega) (by omega) (by omega) ?_; intro v' w6 hown6 hgrow6) | fail)
          go_roundw
          case rel => exact ⟨j + 1, by go_num, by omega, hid (by rw [← happ.out, ← hlen2.out]; exact hown6), hx2.grown hgrow6 (fun t e => (hown.out.lt t e).1)⟩
          case measure => simp [intOf]; omega
        · obtain rfl : j = k := by omega
          obtain ⟨a5, c5, rfl, c52, hI⟩ := owns_ints hown.out
          have Ho5 := hid hown.out
          rw [Hall.out] at Ho5 ⊢
          clear hI c52 hown
          go_wp2_with fail
          go_ret
          exact ⟨_, _, rfl, Ho5.out, hx2⟩
end Go.Proofs.YthomeenmcajmdaaGreatDoor
