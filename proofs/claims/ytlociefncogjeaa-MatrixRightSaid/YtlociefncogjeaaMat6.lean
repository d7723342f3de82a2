/- Thin matrices: what the document's own answer looks at, row by row. -/
import Derived.Test.YtlociefncogjeaaMat5
namespace Go.Proofs.Ytlociefncogjeaa
open Go.RowKit Go.Maps

theorem box5 (w : World) (t : TypeId) (a b c d e : Value) : ∀ W, Ext (w.alloc (.cells #[a, b, c, d, e] t)) W → W.cell? ⟨w.heap.size, 0, none⟩ = some a ∧ W.cell? ⟨w.heap.size, 1, none⟩ = some b ∧ W.cell? ⟨w.heap.size, 2, none⟩ = some c ∧ W.cell? ⟨w.heap.size, 3, none⟩ = some d ∧ W.cell? ⟨w.heap.size, 4, none⟩ = some e :=
  fun _ hW => ⟨box_cell hW 0, box_cell hW 1, box_cell hW 2, box_cell hW 3, box_cell hW 4⟩

set_option maxRecDepth 100000 in
set_option maxHeartbeats 16000000 in
theorem rmSparse_yes (p : Int) (m n : Nat) (vb vc vv : Value) (bs cs vs : List Int) (w : World) (hb : Ints .i64 w vb bs) (hc : Ints .i64 w vc cs) (hv : Ints .u64 w vv vs) (h0 : 0 ≤ p) (h1 : p ≤ 18446744073709551615) (hx : U64s vs)
    (hci : ∀ k, k < cs.length → -9223372036854775808 ≤ cs.getD k 0 ∧ cs.getD k 0 ≤ 9223372036854775807) (hbi : ∀ k, k < bs.length → -9223372036854775808 ≤ bs.getD k 0 ∧ bs.getD k 0 ≤ 9223372036854775807)
    (g1 : 1 ≤ m ∧ m ≤ 64) (g2 : 1 ≤ n ∧ n ≤ 64) (g3 : bs.length = m + 1) (g4 : cs.length = vs.length) (g5 : hasB p vs = true) (g6 : bs.getD 0 0 = 0) (g7 : bs.getD m 0 = cs.length) :
    Calls Try.prog 19 #[.int .u64 p, spV m n vb vc vv] w (RetIff ((∀ i, i < m → bs.getD i 0 ≤ bs.getD (i + 1) 0) ∧ ∀ i, i < m → ∀ k : Nat, bs.getD i 0 ≤ k → k < bs.getD (i + 1) 0 → CellOk n bs cs vs i k) w) := by
  have hH := fun (W : World) (hW : Ext w W) => rHas p vv vs W h0 h1 (hv.ext hW) hx
  rw [g5] at hH
  have HH := hid hH; have Hx := hid hx; have Hci := hid hci; have Hbi := hid hbi
  clear hH hci hbi
  obtain ⟨a1, e1, rfl, k1, k2, k3⟩ := hb
  obtain ⟨a2, e2, rfl, l1, l2, l3⟩ := hc
  obtain ⟨a3, e3, rfl, m1, m2, m3⟩ := hv
  have L3 := hid l3; have M3 := hid m3
  obtain ⟨b1, o1, rfl, hb1, hcell⟩ := k3 (by omega)
  have Bc := hid (fun (W : World) (hW : Ext w W) (j : Nat) (hj : j < bs.length) => (hW.cells _ _ hb1).trans (hcell j hj))
  have q0 := hcell 0 (by omega)
  have qm := hcell m (by omega)
  rw [g6, Nat.add_zero] at q0
  rw [g7] at qm
  have Q0 := hid (fun (W : World) (hW : Ext w W) => (hW.cells _ _ hb1).trans q0)
  have Qm := hid (fun (W : World) (hW : Ext w W) => (hW.cells _ _ hb1).trans qm)
  have f0 := Q0.out _ ((Ext.refl w).alloc (.cells #[.int .i64 (m : Int), .int .i64 (n : Int), .slice (some ⟨b1, o1, none⟩) bs.length e1, .slice a2 cs.length e2, .slice a3 vs.length e3] 28))
  have fm := Qm.out _ ((Ext.refl w).alloc (.cells #[.int .i64 (m : Int), .int .i64 (n : Int), .slice (some ⟨b1, o1, none⟩) bs.length e1, .slice a2 cs.length e2, .slice a3 vs.length e3] 28))
  have mb : (m : Int) < (bs.length : Int) := by omega
  have b5 : ((bs.length : Int) != (m : Int) + 1) = false := by simp; omega
  have b6 : ((cs.length : Int) != (vs.length : Int)) = false := by simp; omega
  have hw : IntKind.i64.wrap ((m : Int) + 1) = (m : Int) + 1 := by rw [IntKind.wrap_i64]; omega
  have d1 : decide ((m : Int) < 1) = false := by simp; omega
  have d2 : decide ((64 : Int) < m) = false := by simp; omega
  have d3 : decide ((n : Int) < 1) = false := by simp; omega
  have d4 : decide ((64 : Int) < n) = false := by simp; omega
  have mb0 : (0 : Int) < (bs.length : Int) := by omega
  have mb1 : (0 : Int) ≤ (m : Int) := by omega
  have G3 := hid g3; have G4 := hid g4; have G6 := hid g6; have G7 := hid g7
  obtain ⟨g1, g1'⟩ := g1
  obtain ⟨g2, g2'⟩ := g2
  have hbox := hid (box5 w 28 (.int .i64 (m : Int)) (.int .i64 (n : Int)) (.slice (some ⟨b1, o1, none⟩) bs.length e1) (.slice a2 cs.length e2) (.slice a3 vs.length e3))
  clear k3 l3 m3 hcell q0 qm hx g3 g4 g5 g6 g7
  unfold spV
  go_enter Try.func19, Try.ntmps19
  go_wp2_with fail
  go_quiet ((go_at_call 11; first | exact quiet_l (HH.out _ (by repeat (first | exact Ext.refl _ | assumption | refine Ext.drew ?_ | refine Ext.drewN ?_ _ | refine Ext.alloc ?_ _ | refine Ext.trans ?_ (by assumption)))) | exact quiet_add_l (HH.out _ (by repeat (first | exact Ext.refl _ | assumption | refine Ext.drew ?_ | refine Ext.drewN ?_ _ | refine Ext.alloc ?_ _ | refine Ext.trans ?_ (by assumption))))))
  go_wp2_with fail
  have e0 : Ext w _ := (Ext.refl w).alloc (.cells #[.int .i64 (m : Int), .int .i64 (n : Int), .slice (some ⟨b1, o1, none⟩) bs.length e1, .slice a2 cs.length e2, .slice a3 vs.length e3] 28)
  obtain ⟨w1, hw1⟩ : ∃ w1, w.alloc (.cells #[.int .i64 (m : Int), .int .i64 (n : Int), .slice (some ⟨b1, o1, none⟩) bs.length e1, .slice a2 cs.length e2, .slice a3 vs.length e3] 28) = w1 := ⟨_, rfl⟩
  obtain ⟨g, hg⟩ : ∃ g, w.heap.size = g := ⟨_, rfl⟩
  rw [hw1, hg] at hbox
  rw [hw1] at e0
  rw [hw1, hg]
  clear hw1 hg f0 fm b5 b6 d1 d2 d3 d4 hw mb Q0 Qm
  go_loopw [5] (fun iv wr => ∃ i : Nat, iv = .int .i64 i ∧ i ≤ m ∧ Hid (∀ j, j < i → bs.getD j 0 ≤ bs.getD (j + 1) 0) ∧ Ext w1 wr) (fun iv _ => m - (intOf iv).toNat)
  case atStart => exact ⟨0, rfl, Nat.zero_le _, hid (fun j h => absurd h (Nat.not_lt_zero _)), (by repeat (first | exact Ext.refl _ | assumption | refine Ext.drew ?_ | refine Ext.drewN ?_ _ | refine Ext.alloc ?_ _ | refine Ext.trans ?_ (by assumption)))⟩
  case round =>
    obtain ⟨i, rfl, hi, hmo, hxr⟩ := hrel
    obtain ⟨c0, c1, c2, c3, c4⟩ := hbox.out wr hxr
    by_cases hlt : i < m
    · have f1 := Bc.out wr (e0.trans hxr) i (by rw [G3.out]; omega)
      have f2 := Bc.out wr (e0.trans hxr) (i + 1) (by rw [G3.out]; omega)
      obtain ⟨x, ex⟩ : ∃ x, bs.getD i 0 = x := ⟨_, rfl⟩
      obtain ⟨y, ey⟩ : ∃ y, bs.getD (i + 1) 0 = y := ⟨_, rfl⟩
      rw [ex] at f1; rw [ey] at f2
      have i1 : (i : Int) < (bs.length : Int) := by rw [G3.out]; omega
      have i2 : (i : Int) + 1 < (bs.length : Int) := by rw [G3.out]; omega
      have i3 : (0 : Int) ≤ (i : Int) := by omega
      have i4 : (0 : Int) ≤ (i : Int) + 1 := by omega
      have hw : IntKind.i64.wrap ((i : Int) + 1) = (i : Int) + 1 := by rw [IntKind.wrap_i64]; omega
      have Ex := hid ex; have Ey := hid ey
      clear ex ey
      by_cases hxy : y < x
      · have d1 : decide (y < x) = true := decide_eq_true hxy
        go_wp2_with fail
        go_quiet (fail)
        go_wp2_with fail
        go_ret
        refine ⟨false, rfl, (by repeat (first | exact Ext.refl _ | assumption | refine Ext.drew ?_ | refine Ext.drewN ?_ _ | refine Ext.alloc ?_ _ | refine Ext.trans ?_ (by assumption))), ?_⟩
        constructor
        · intro h; cases h
        · intro h
          have := h.1 i hlt
          rw [Ex.out, Ey.out] at this
          omega
      · have d1 : decide (y < x) = false := decide_eq_false hxy
        go_wp2_with fail
        go_quiet (fail)
        go_wp2_with fail
        go_roundw
        case rel => exact ⟨i + 1, by go_num, by omega, hid (fun j hj => by
          by_cases e : j = i
          · rw [e, Ex.out, Ey.out]; omega
          · exact hmo.out j (by omega)), hxr.drewN _⟩
        case measure => simp [intOf]; omega
    · obtain rfl : i = m := by omega
      go_wp2_with fail
      rename World => w2
      clear c0 c1 c2 c3 c4
      go_loopw [6] (fun iv wr => ∃ r : Nat, iv = .int .i64 r ∧ r ≤ i ∧ Hid (∀ j, j < r → ∀ k : Nat, bs.getD j 0 ≤ k → k < bs.getD (j + 1) 0 → CellOk n bs cs vs j k) ∧ Ext w1 wr) (fun iv _ => i - (intOf iv).toNat)
      case atStart => exact ⟨0, rfl, Nat.zero_le _, hid (fun j h => absurd h (Nat.not_lt_zero _)), hxr⟩
      case round =>
        obtain ⟨r, rfl, hr, hrow, hx3⟩ := hrel
        obtain ⟨c0, c1, c2, c3, c4⟩ := hbox.out wr hx3
        by_cases hlr : r < i
        · have f1 := Bc.out wr (e0.trans hx3) r (by rw [G3.out]; omega)
          have ge1 := mono_ge hmo.out 0 r (Nat.zero_le _) (by omega)
          have ge2 := hmo.out r hlr
          have ge3 := mono_ge hmo.out (r + 1) i (by omega) (Nat.le_refl _)
          rw [G6.out] at ge1
          rw [G7.out] at ge3
          have F2 := fun (W : World) (hW : Ext w1 W) => Bc.out W (e0.trans hW) (r + 1) (by rw [G3.out]; omega)
          obtain ⟨x, ex⟩ : ∃ x, bs.getD r 0 = x := ⟨_, rfl⟩
          obtain ⟨y, ey⟩ : ∃ y, bs.getD (r + 1) 0 = y := ⟨_, rfl⟩
          rw [ex] at f1 ge1 ge2; rw [ey] at F2 ge2 ge3
          obtain ⟨k0, rfl⟩ : ∃ k0 : Nat, x = k0 := ⟨x.toNat, by omega⟩
          have F1 := fun (W : World) (hW : Ext w1 W) => Bc.out W (e0.trans hW) r (by rw [G3.out]; omega)
          rw [ex] at F1
          have HF1 := hid F1; have HF2 := hid F2
          have i1 : (r : Int) < (bs.length : Int) := by rw [G3.out]; omega
          have i2 : (r : Int) + 1 < (bs.length : Int) := by rw [G3.out]; omega
          have i3 : (0 : Int) ≤ (r : Int) := by omega
          have i4 : (0 : Int) ≤ (r : Int) + 1 := by omega
          have Ex := hid ex; have Ey := hid ey
          clear ex ey F1 F2
          go_wp2_with fail
          go_loopw [7] (fun kv wr => ∃ k : Nat, kv = .int .i64 k ∧ k0 ≤ k ∧ (k : Int) ≤ y ∧ Hid (∀ t, k0 ≤ t → t < k → CellOk n bs cs vs r t) ∧ Ext w1 wr) (fun kv _ => (y - intOf kv).toNat)
          case atStart => exact ⟨k0, rfl, Nat.le_refl _, ge2, hid (fun t h1 h2 => by omega), hx3⟩
          case round =>
            clear c0 c1 c2 c3 c4 f1
            obtain ⟨k, rfl, hk0, hky1, hok, hxk⟩ := hrel
            rename World => wk
            obtain ⟨c0, c1, c2, c3, c4⟩ := hbox.out wk hxk
            have f1 := HF1.out wk hxk
            have f2 := HF2.out wk hxk
            by_cases hky : (k : Int) < y
            · have hkc : k < cs.length := by omega
              have hkv : k < vs.length := by rw [← G4.out]; exact hkc
              obtain ⟨b2, o2, rfl, hb2, hcell2⟩ := L3.out (by omega)
              obtain ⟨b3, o3, rfl, hb3, hcell3⟩ := M3.out (by omega)
              have fz := ((e0.trans hxk).cells _ _ hb3).trans (hcell3 k hkv)
              have fq := ((e0.trans hxk).cells _ _ hb2).trans (hcell2 k hkc)
              obtain ⟨z, ez⟩ : ∃ z, vs.getD k 0 = z := ⟨_, rfl⟩
              obtain ⟨q, eq⟩ : ∃ q, cs.getD k 0 = q := ⟨_, rfl⟩
              rw [ez] at fz; rw [eq] at fq
              have j1 : (k : Int) < (cs.length : Int) := by omega
              have j2 : (k : Int) < (vs.length : Int) := by omega
              have j3 : (0 : Int) ≤ (k : Int) := by omega
              have Ez := hid ez; have Eq := hid eq
              clear ez eq
              by_cases hz : z = 0
              · have bz : (z == 0) = true := by simp [hz]
                have Hz := hid hz
                clear hz
                go_wp2_with fail
                go_quiet (fail)
                go_wp2_with fail
                go_ret
                exact ⟨false, rfl, (by repeat (first | exact Ext.refl _ | assumption | refine Ext.drew ?_ | refine Ext.drewN ?_ _ | refine Ext.alloc ?_ _ | refine Ext.trans ?_ (by assumption))), ⟨fun h => (by cases h), fun h => absurd (h.2 r hlr k (by rw [Ex.out]; omega) (by rw [Ey.out]; exact hky)) (fun hc => hc.1 (by rw [Ez.out]; exact Hz.out))⟩⟩
              have bz : (z == 0) = false := by simp [hz]
              have Hz := hid hz
              clear hz
              by_cases hq1 : q < 0
              · have dq : decide (q < 0) = true := decide_eq_true hq1
                go_wp2_with fail
                go_quiet (fail)
                go_wp2_with fail
                go_ret
                exact ⟨false, rfl, (by repeat (first | exact Ext.refl _ | assumption | refine Ext.drew ?_ | refine Ext.drewN ?_ _ | refine Ext.alloc ?_ _ | refine Ext.trans ?_ (by assumption))), ⟨fun h => (by cases h), fun h => absurd (h.2 r hlr k (by rw [Ex.out]; omega) (by rw [Ey.out]; exact hky)) (fun hc => by have := hc.2.1; rw [Eq.out] at this; omega)⟩⟩
              have dq : decide (q < 0) = false := decide_eq_false hq1
              by_cases hq2 : (n : Int) ≤ q
              · have dq2 : decide ((n : Int) ≤ q) = true := decide_eq_true hq2
                go_wp2_with fail
                go_quiet (fail)
                go_wp2_with fail
                go_ret
                exact ⟨false, rfl, (by repeat (first | exact Ext.refl _ | assumption | refine Ext.drew ?_ | refine Ext.drewN ?_ _ | refine Ext.alloc ?_ _ | refine Ext.trans ?_ (by assumption))), ⟨fun h => (by cases h), fun h => absurd (h.2 r hlr k (by rw [Ex.out]; omega) (by rw [Ey.out]; exact hky)) (fun hc => by have := hc.2.2.1; rw [Eq.out] at this; omega)⟩⟩
              have dq2 : decide ((n : Int) ≤ q) = false := decide_eq_false hq2
              by_cases hk : k0 < k
              · have dk : decide ((k0 : Int) < (k : Int)) = true := decide_eq_true (by omega)
                obtain ⟨k1, hk1⟩ : ∃ k1, k - 1 = k1 := ⟨_, rfl⟩
                have hkw : IntKind.i64.wrap ((k : Int) - 1) = (k1 : Int) := by rw [IntKind.wrap_i64]; omega
                have fp := ((e0.trans hxk).cells _ _ hb2).trans (hcell2 k1 (by omega))
                obtain ⟨q', eq'⟩ : ∃ q', cs.getD k1 0 = q' := ⟨_, rfl⟩
                rw [eq'] at fp
                have j4 : (k1 : Int) < (cs.length : Int) := by omega
                have j5 : (0 : Int) ≤ (k1 : Int) := by omega
                have Eq' := hid (show cs.getD (k - 1) 0 = q' by rw [hk1]; exact eq')
                clear eq' hcell2 hcell3 hk1
                by_cases hqq : q ≤ q'
                · have dqq : decide (q ≤ q') = true := decide_eq_true hqq
                  go_wp2_with fail
                  go_quiet (fail)
                  go_wp2_with fail
                  go_ret
                  exact ⟨false, rfl, (by repeat (first | exact Ext.refl _ | assumption | refine Ext.drew ?_ | refine Ext.drewN ?_ _ | refine Ext.alloc ?_ _ | refine Ext.trans ?_ (by assumption))), ⟨fun h => (by cases h), fun h => absurd (h.2 r hlr k (by rw [Ex.out]; omega) (by rw [Ey.out]; exact hky)) (fun hc => by have := hc.2.2.2 (by rw [Ex.out]; omega); rw [Eq.out, Eq'.out] at this; omega)⟩⟩
                · have dqq : decide (q ≤ q') = false := decide_eq_false hqq
                  have Hok : Hid (CellOk n bs cs vs r k) := hid ⟨by rw [Ez.out]; exact Hz.out, by rw [Eq.out]; omega, by rw [Eq.out]; omega, fun _ => by rw [Eq.out, Eq'.out]; omega⟩
                  go_wp2_with fail
                  go_quiet (fail)
                  go_wp2_with fail
                  go_roundw
                  case rel => exact ⟨k + 1, by go_num, by omega, by omega, hid (fun t h1 h2 => by
                    by_cases e : t = k
                    · rw [e]; exact Hok.out
                    · exact hok.out t h1 (by omega)), hxk.drewN _⟩
                  case measure => simp [intOf]; omega
              · have dk : decide ((k0 : Int) < (k : Int)) = false := decide_eq_false (by omega)
                have Hok : Hid (CellOk n bs cs vs r k) := hid ⟨by rw [Ez.out]; exact Hz.out, by rw [Eq.out]; omega, by rw [Eq.out]; omega, fun h => by rw [Ex.out] at h; omega⟩
                clear hcell2 hcell3
                go_wp2_with fail
                go_quiet (fail)
                go_wp2_with fail
                go_roundw
                case rel => exact ⟨k + 1, by go_num, by omega, by omega, hid (fun t h1 h2 => by
                  by_cases e : t = k
                  · rw [e]; exact Hok.out
                  · exact hok.out t h1 (by omega)), hxk.drewN _⟩
                case measure => simp [intOf]; omega
            · go_wp2_with fail
              go_roundw
              case rel => exact ⟨r + 1, by go_num, by omega, hid (fun j hj k' h1 h2 => by
                by_cases e : j = r
                · subst e
                  rw [Ex.out] at h1
                  rw [Ey.out] at h2
                  exact hok.out k' (by omega) (by omega)
                · exact hrow.out j (by omega) k' h1 h2), hxk⟩
              case measure => simp [intOf]; omega
        · obtain rfl : r = i := by omega
          go_wp2_with fail
          go_ret
          exact ⟨true, rfl, e0.trans hx3, ⟨fun _ => ⟨hmo.out, hrow.out⟩, fun _ => rfl⟩⟩
end Go.Proofs.Ytlociefncogjeaa
