/- Thin matrices: when the document's own answer takes one for right. -/
import Derived.Test.YtlociefncogjeaaMat2
import Derived.BigQuiet
namespace Go.Proofs.Ytlociefncogjeaa
open Go.RowKit Go.Maps

/-- a thin matrix, as a value -/
def spV (r c : Int) (vb vc vv : Value) : Value := .agg #[.int .i64 r, .int .i64 c, vb, vc, vv]
/-- the k-th number, that lies in row i, is right -/
def CellOk (n : Nat) (bs cs vs : List Int) (i k : Nat) : Prop := vs.getD k 0 ≠ 0 ∧ 0 ≤ cs.getD k 0 ∧ cs.getD k 0 < n ∧ (bs.getD i 0 < k → cs.getD (k - 1) 0 < cs.getD k 0)
structure SpOk (p : Int) (m n : Nat) (bs cs vs : List Int) : Prop where
  m1 : 1 ≤ m ∧ m ≤ 64
  n1 : 1 ≤ n ∧ n ≤ 64
  lb : bs.length = m + 1
  lc : cs.length = vs.length
  hv : hasB p vs = true
  b0 : bs.getD 0 0 = 0
  bm : bs.getD m 0 = cs.length
  mono : ∀ i, i < m → bs.getD i 0 ≤ bs.getD (i + 1) 0
  row : ∀ i, i < m → ∀ k : Nat, bs.getD i 0 ≤ k → k < bs.getD (i + 1) 0 → CellOk n bs cs vs i k
theorem mono_ge {m : Nat} {bs : List Int} (h : ∀ i, i < m → bs.getD i 0 ≤ bs.getD (i + 1) 0) : ∀ i j, i ≤ j → j ≤ m → bs.getD i 0 ≤ bs.getD j 0 := by
  intro i j hij hj
  induction j with
  | zero => obtain rfl : i = 0 := by omega
            exact Int.le_refl _
  | succ j ih =>
    by_cases e : i = j + 1
    · rw [e]; exact Int.le_refl _
    · exact Int.le_trans (ih (by omega) (by omega)) (h j (by omega))

set_option maxRecDepth 100000 in
set_option maxHeartbeats 16000000 in
theorem rmSparse_no (p r c : Int) (vb vc vv : Value) (bs cs vs : List Int) (w : World) (h0 : 0 ≤ p) (h1 : p ≤ 18446744073709551615) (hb : Ints .i64 w vb bs) (hc : Ints .i64 w vc cs) (hv : Ints .u64 w vv vs) (hx : U64s vs)
    (h : ¬ ∃ m n : Nat, r = m ∧ c = n ∧ (1 ≤ m ∧ m ≤ 64) ∧ (1 ≤ n ∧ n ≤ 64) ∧ bs.length = m + 1 ∧ cs.length = vs.length ∧ hasB p vs = true ∧ bs.getD 0 0 = 0 ∧ bs.getD m 0 = cs.length) :
    Calls Try.prog 19 #[.int .u64 p, spV r c vb vc vv] w (Ret (.bool false) w) := by
  have hH := fun (W : World) (hW : Ext w W) => rHas p vv vs W h0 h1 (hv.ext hW) hx
  obtain ⟨B, hB⟩ : ∃ B, hasB p vs = B := ⟨_, rfl⟩
  rw [hB] at h hH
  have HH := hid hH
  clear hH hB hx
  obtain ⟨a1, e1, rfl, k1, k2, k3⟩ := hb
  obtain ⟨a2, e2, rfl, l1, l2, l3⟩ := hc
  obtain ⟨a3, e3, rfl, m1, m2, m3⟩ := hv
  clear l3 m3
  unfold spV
  by_cases g1 : r < 1
  · have d1 : decide (r < 1) = true := decide_eq_true g1
    clear h
    go_enter Try.func19, Try.ntmps19
    go_wp2_with fail
    go_quiet (fail)
    go_wp2_with fail
    go_ret
    exact ⟨rfl, (by repeat (first | exact Ext.refl _ | assumption | refine Ext.drew ?_ | refine Ext.drewN ?_ _ | refine Ext.alloc ?_ _ | refine Ext.trans ?_ (by assumption)))⟩
  have d1 : decide (r < 1) = false := decide_eq_false g1
  by_cases g2 : 64 < r
  · have d2 : decide (64 < r) = true := decide_eq_true g2
    clear h
    go_enter Try.func19, Try.ntmps19
    go_wp2_with fail
    go_quiet (fail)
    go_wp2_with fail
    go_ret
    exact ⟨rfl, (by repeat (first | exact Ext.refl _ | assumption | refine Ext.drew ?_ | refine Ext.drewN ?_ _ | refine Ext.alloc ?_ _ | refine Ext.trans ?_ (by assumption)))⟩
  have d2 : decide (64 < r) = false := decide_eq_false g2
  by_cases g3 : c < 1
  · have d3 : decide (c < 1) = true := decide_eq_true g3
    clear h
    go_enter Try.func19, Try.ntmps19
    go_wp2_with fail
    go_quiet (fail)
    go_wp2_with fail
    go_ret
    exact ⟨rfl, (by repeat (first | exact Ext.refl _ | assumption | refine Ext.drew ?_ | refine Ext.drewN ?_ _ | refine Ext.alloc ?_ _ | refine Ext.trans ?_ (by assumption)))⟩
  have d3 : decide (c < 1) = false := decide_eq_false g3
  by_cases g4 : 64 < c
  · have d4 : decide (64 < c) = true := decide_eq_true g4
    clear h
    go_enter Try.func19, Try.ntmps19
    go_wp2_with fail
    go_quiet (fail)
    go_wp2_with fail
    go_ret
    exact ⟨rfl, (by repeat (first | exact Ext.refl _ | assumption | refine Ext.drew ?_ | refine Ext.drewN ?_ _ | refine Ext.alloc ?_ _ | refine Ext.trans ?_ (by assumption)))⟩
  have d4 : decide (64 < c) = false := decide_eq_false g4
  have hw : IntKind.i64.wrap (r + 1) = r + 1 := by rw [IntKind.wrap_i64]; omega
  obtain ⟨m, hm⟩ : ∃ m : Nat, r = m := ⟨r.toNat, by omega⟩
  obtain ⟨n, hn⟩ : ∃ n : Nat, c = n := ⟨c.toNat, by omega⟩
  by_cases g5 : (bs.length : Int) = r + 1
  case neg =>
    have b5 : ((bs.length : Int) != r + 1) = true := by simp [g5]
    clear h g5 hm hn
    go_enter Try.func19, Try.ntmps19
    go_wp2_with fail
    go_quiet (fail)
    go_wp2_with fail
    go_ret
    exact ⟨rfl, (by repeat (first | exact Ext.refl _ | assumption | refine Ext.drew ?_ | refine Ext.drewN ?_ _ | refine Ext.alloc ?_ _ | refine Ext.trans ?_ (by assumption)))⟩
  have b5 : ((bs.length : Int) != r + 1) = false := by simp [g5]
  by_cases g6 : cs.length = vs.length
  case neg =>
    have b6 : ((cs.length : Int) != (vs.length : Int)) = true := by simp; omega
    clear h g5 hm hn
    go_enter Try.func19, Try.ntmps19
    go_wp2_with fail
    go_quiet (fail)
    go_wp2_with fail
    go_ret
    exact ⟨rfl, (by repeat (first | exact Ext.refl _ | assumption | refine Ext.drew ?_ | refine Ext.drewN ?_ _ | refine Ext.alloc ?_ _ | refine Ext.trans ?_ (by assumption)))⟩
  have b6 : ((cs.length : Int) != (vs.length : Int)) = false := by simp; omega
  have G6 := hid g6
  clear g6
  cases B with
  | false =>
    clear h g5 hm hn
    go_enter Try.func19, Try.ntmps19
    go_wp2_with fail
    go_quiet ((go_at_call 11; first | exact quiet_l (HH.out _ (by repeat (first | exact Ext.refl _ | assumption | refine Ext.drew ?_ | refine Ext.drewN ?_ _ | refine Ext.alloc ?_ _ | refine Ext.trans ?_ (by assumption)))) | exact quiet_add_l (HH.out _ (by repeat (first | exact Ext.refl _ | assumption | refine Ext.drew ?_ | refine Ext.drewN ?_ _ | refine Ext.alloc ?_ _ | refine Ext.trans ?_ (by assumption))))))
    go_wp2_with fail
    go_ret
    exact ⟨rfl, (by repeat (first | exact Ext.refl _ | assumption | refine Ext.drew ?_ | refine Ext.drewN ?_ _ | refine Ext.alloc ?_ _ | refine Ext.trans ?_ (by assumption)))⟩
  | true =>
    subst hm
    subst hn
    obtain ⟨b1, o1, rfl, hb1, hcell⟩ := k3 (by omega)
    have q0 := hcell 0 (by omega)
    have qm := hcell m (by omega)
    obtain ⟨x0, ex0⟩ : ∃ x, bs.getD 0 0 = x := ⟨_, rfl⟩
    obtain ⟨xm, exm⟩ : ∃ x, bs.getD m 0 = x := ⟨_, rfl⟩
    rw [ex0] at q0; rw [exm] at qm
    have EX0 := hid ex0; have EXm := hid exm
    rw [Nat.add_zero] at q0
    have Q0 := hid (fun (W : World) (hW : Ext w W) => (hW.cells _ _ hb1).trans q0)
    have Qm := hid (fun (W : World) (hW : Ext w W) => (hW.cells _ _ hb1).trans qm)
    have f0 := Q0.out _ ((Ext.refl w).alloc (.cells #[.int .i64 (m : Int), .int .i64 (n : Int), .slice (some ⟨b1, o1, none⟩) bs.length e1, .slice a2 cs.length e2, .slice a3 vs.length e3] 28))
    have fm := Qm.out _ ((Ext.refl w).alloc (.cells #[.int .i64 (m : Int), .int .i64 (n : Int), .slice (some ⟨b1, o1, none⟩) bs.length e1, .slice a2 cs.length e2, .slice a3 vs.length e3] 28))
    have mb : (m : Int) < (bs.length : Int) := by omega
    have mb0 : (0 : Int) < (bs.length : Int) := by omega
    have mb1 : (0 : Int) ≤ (m : Int) := by omega
    clear hcell k3 ex0 exm q0 qm
    by_cases g8 : x0 = 0
    · have b8 : (x0 != 0) = false := by simp [g8]
      have g9 : xm ≠ cs.length := fun e => h ⟨m, n, rfl, rfl, by omega, by omega, by omega, G6.out, rfl, by rw [EX0.out]; exact g8, by rw [EXm.out]; exact e⟩
      have b9 : (xm != (cs.length : Int)) = true := by simp [g9]
      clear h g8 g9 g5
      go_enter Try.func19, Try.ntmps19
      go_wp2_with fail
      go_quiet ((go_at_call 11; first | exact quiet_l (HH.out _ (by repeat (first | exact Ext.refl _ | assumption | refine Ext.drew ?_ | refine Ext.drewN ?_ _ | refine Ext.alloc ?_ _ | refine Ext.trans ?_ (by assumption)))) | exact quiet_add_l (HH.out _ (by repeat (first | exact Ext.refl _ | assumption | refine Ext.drew ?_ | refine Ext.drewN ?_ _ | refine Ext.alloc ?_ _ | refine Ext.trans ?_ (by assumption))))))
      go_wp2_with fail
      go_ret
      exact ⟨rfl, (by repeat (first | exact Ext.refl _ | assumption | refine Ext.drew ?_ | refine Ext.drewN ?_ _ | refine Ext.alloc ?_ _ | refine Ext.trans ?_ (by assumption)))⟩
    · have b8 : (x0 != 0) = true := by simp [g8]
      clear h g8 g5
      go_enter Try.func19, Try.ntmps19
      go_wp2_with fail
      go_quiet ((go_at_call 11; first | exact quiet_l (HH.out _ (by repeat (first | exact Ext.refl _ | assumption | refine Ext.drew ?_ | refine Ext.drewN ?_ _ | refine Ext.alloc ?_ _ | refine Ext.trans ?_ (by assumption)))) | exact quiet_add_l (HH.out _ (by repeat (first | exact Ext.refl _ | assumption | refine Ext.drew ?_ | refine Ext.drewN ?_ _ | refine Ext.alloc ?_ _ | refine Ext.trans ?_ (by assumption))))))
      go_wp2_with fail
      go_ret
      exact ⟨rfl, (by repeat (first | exact Ext.refl _ | assumption | refine Ext.drew ?_ | refine Ext.drewN ?_ _ | refine Ext.alloc ?_ _ | refine Ext.trans ?_ (by assumption)))⟩
end Go.Proofs.Ytlociefncogjeaa
