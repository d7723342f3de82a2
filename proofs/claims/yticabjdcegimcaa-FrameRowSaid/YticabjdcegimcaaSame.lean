/- The document's own answer to: are two lists the same? -/
import Derived.Test.YticabjdcegimcaaFld
import Derived.Test.YticabjdcegimcaaKit
namespace Go.Proofs.Yticabjdcegimcaa
open Go.RowKit

/-! ### Are two lists the same? -/
set_option maxHeartbeats 1000000 in
theorem same_any (v u : Value) (xs ys : List Int) (w : World) (hv : Ints .u64 w v xs) (hu : Ints .u64 w u ys) :
    Calls Try.prog 25 #[v, u] w (Ret (.bool (decide (xs = ys))) w) := by
  obtain ⟨a, cap, rfl, h1, h2, h3⟩ := hv
  obtain ⟨a', cap', rfl, k1, k2, k3⟩ := hu
  have H3 := hid h3; have K3 := hid k3
  clear h3 k3
  obtain ⟨D, hD⟩ : ∃ D, decide (xs = ys) = D := ⟨_, rfl⟩
  rw [hD]
  by_cases hl : xs.length = ys.length
  · have b1 : ((xs.length : Int) != (ys.length : Int)) = false := by rw [hl]; simp
    have HD := hid hD
    have Hl := hid hl
    obtain ⟨L, hL⟩ : ∃ L, ys.length = L := ⟨_, rfl⟩
    have HL := hid hL
    rw [hl] at H3 h1 b1 ⊢
    rw [hL] at H3 K3 h1 k1 b1 ⊢
    clear hl hL hD
    go_enter Try.func25, Try.ntmps25
    go_wp2_with fail
    go_loopw [5] (fun i wr => ∃ k : Nat, i = .int .i64 k ∧ k ≤ L ∧ Hid (∀ j, j < k → xs.getD j 0 = ys.getD j 0) ∧ Ext w wr) (fun i _ => L - (intOf i).toNat)
    case atStart => exact ⟨0, rfl, Nat.zero_le _, hid (by simp), (by repeat (first | exact Ext.refl _ | assumption | refine Ext.drew ?_ | refine Ext.drewN ?_ _ | refine Ext.alloc ?_ _ | refine Ext.trans ?_ (by assumption)))⟩
    case round =>
      obtain ⟨k, rfl, hk, hall, hw⟩ := hrel
      by_cases hlt : k < L
      · obtain ⟨b, off, rfl, hb, hc⟩ := H3.out (by omega)
        obtain ⟨b', off', rfl, hb', hc'⟩ := K3.out (by omega)
        have g1 := (hw.cells _ _ hb).trans (hc k hlt)
        have g2 := (hw.cells _ _ hb').trans (hc' k hlt)
        obtain ⟨x, ex⟩ : ∃ x, xs.getD k 0 = x := ⟨_, rfl⟩
        obtain ⟨y, ey⟩ : ∃ y, ys.getD k 0 = y := ⟨_, rfl⟩
        rw [ex] at g1; rw [ey] at g2
        have Ex := hid ex; have Ey := hid ey
        clear hc hc' ex ey
        by_cases hxy : x = y
        · have b3 : (x != y) = false := by simp [hxy]
          have Hxy := hid hxy
          clear hxy
          go_wp2_with fail
          go_quiet (fail)
          go_wp2_with fail
          go_roundw
          case rel => exact ⟨k + 1, by go_num, by omega, hid (fun j hj => by
            by_cases e : j = k
            · rw [e, Ex.out, Ey.out]; exact Hxy.out
            · exact hall.out j (by omega)), hw.drewN _⟩
          case measure => simp [intOf]; omega
        · have b3 : (x != y) = true := by simp [hxy]
          have Hxy := hid hxy
          clear hxy
          go_wp2_with fail
          go_quiet (fail)
          go_wp2_with fail
          go_ret
          refine ⟨ret_bool ?_, hw.drewN _⟩
          rw [← HD.out]
          symm
          exact decide_eq_false (fun e => Hxy.out (by rw [← Ex.out, ← Ey.out, e]))
      · obtain rfl : L = k := by omega
        go_wp2_with fail
        go_ret
        refine ⟨ret_bool ?_, hw⟩
        rw [← HD.out]
        symm
        exact decide_eq_true (list_ext Hl.out fun j hj => hall.out j (by rw [← HL.out, ← Hl.out]; exact hj))
  · have b1 : ((xs.length : Int) != (ys.length : Int)) = true := by simp; omega
    have e : D = false := by rw [← hD]; exact decide_eq_false (fun e => hl (by rw [e]))
    subst e
    clear hl hD
    go_enter Try.func25, Try.ntmps25
    go_wp2_with fail
    go_ret
    exact ⟨rfl, (by repeat (first | exact Ext.refl _ | assumption | refine Ext.drew ?_ | refine Ext.drewN ?_ _ | refine Ext.alloc ?_ _ | refine Ext.trans ?_ (by assumption)))⟩
theorem same_yes (v u : Value) (xs : List Int) (w : World) (hv : Ints .u64 w v xs) (hu : Ints .u64 w u xs) :
    Calls Try.prog 25 #[v, u] w (Ret (.bool true) w) := by
  have := same_any v u xs xs w hv hu
  rwa [show decide (xs = xs) = true by simp] at this
end Go.Proofs.Yticabjdcegimcaa
