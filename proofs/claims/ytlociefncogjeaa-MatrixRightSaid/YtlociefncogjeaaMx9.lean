/- Package matrix, thin matrices: whether columns rise, whether rows begin right, SparseRight. -/
import Derived.Test.YtlociefncogjeaaMx8
namespace Go.Proofs.Ytlociefncogjeaa
open Go.RowKit Go.Maps

theorem no_iff {P : Prop} (h : ¬ P) : false = true ↔ P := ⟨fun e => absurd e (by decide), fun e => absurd e h⟩
/-- each column is one, and greater than the one ahead -/
def Rise (n : Int) (l : List Int) : Prop := ∀ k, k < l.length → 0 ≤ l.getD k 0 ∧ l.getD k 0 < n ∧ (0 < k → l.getD (k - 1) 0 < l.getD k 0)
/-- answers whether P, the world as it is -/
def RetIffL (P : Prop) (w : World) (e : Ending) (w' : World) : Prop := ∃ b : Bool, e = .returned (.bool b) ∧ (b = true ↔ P) ∧ w = w'
set_option maxHeartbeats 1000000 in
theorem mxRises (n : Int) (v : Value) (l : List Int) (w : World) (hv : Ints .i64 w v l) :
    Calls Try.prog 43 #[v, .int .i64 n] w (RetIffL (Rise n l) w) := by
  obtain ⟨a, cap, rfl, k1, k2, k3⟩ := hv
  have K := hid k3
  clear k3
  go_enter Try.func43, Try.ntmps43
  go_wp2
  go_loop [10, 5] (fun i av => ∃ (k : Nat) (z : Int), i = .int .i64 k ∧ av = .int .i64 z ∧ k ≤ l.length ∧ -1 ≤ z ∧ Hid (∀ j, j < k → 0 ≤ l.getD j 0 ∧ l.getD j 0 < n ∧ (0 < j → l.getD (j - 1) 0 < l.getD j 0)) ∧ Hid (k = 0 ∧ z = -1 ∨ 0 < k ∧ l.getD (k - 1) 0 = z)) (fun i _ => l.length - (intOf i).toNat)
  case atStart => exact ⟨0, -1, rfl, rfl, Nat.zero_le _, Int.le_refl _, hid (by omega), hid (.inl ⟨rfl, rfl⟩)⟩
  case round =>
    obtain ⟨k, z, rfl, rfl, hk, hz, hall, hzz⟩ := hrel
    by_cases hlt : k < l.length
    · obtain ⟨b, off, rfl, hb, hc⟩ := K.out (by omega)
      have g1 := hc k hlt
      obtain ⟨x, ex⟩ : ∃ x, l.getD k 0 = x := ⟨_, rfl⟩
      rw [ex] at g1
      have Ex := hid ex
      clear ex hc
      by_cases hxz : x ≤ z
      · have Hxz := hid hxz
        go_wp2
        go_ret
        refine ⟨false, rfl, no_iff fun h => ?_, rfl⟩
        obtain ⟨h1, h2, h3⟩ := h k hlt
        rw [Ex.out] at h1 h3
        rcases hzz.out with ⟨_, e2⟩ | ⟨e1, e2⟩
        · have := Hxz.out; omega
        · have := h3 e1; rw [e2] at this; have := Hxz.out; omega
      · by_cases hxn : n ≤ x
        · have Hxn := hid hxn
          go_wp2
          go_ret
          refine ⟨false, rfl, no_iff fun h => ?_, rfl⟩
          have h2 := (h k hlt).2.1
          rw [Ex.out] at h2
          have := Hxn.out; omega
        · go_wp2
          go_round
          case rel =>
            refine ⟨k + 1, x, by go_num, rfl, by omega, by omega, hid fun j hj => ?_, hid (.inr ⟨by omega, by rw [Nat.add_sub_cancel]; exact Ex.out⟩)⟩
            by_cases e : j = k
            · subst e
              rw [Ex.out]
              refine ⟨by omega, by omega, fun h0 => ?_⟩
              rcases hzz.out with ⟨e1, _⟩ | ⟨e1, e2⟩
              · omega
              · rw [e2]; omega
            · exact hall.out j (by omega)
          case measure => simp [intOf]; omega
    · obtain rfl : k = l.length := by omega
      go_wp2
      go_ret
      exact ⟨true, rfl, by simp; exact hall.out, rfl⟩

/-- each row is a part of the columns and numbers, and all rows together are these -/
def BeginOk (m : Nat) (bs cs vs : List Int) : Prop := bs.length = m + 1 ∧ bs.getD 0 0 = 0 ∧ Sorted bs ∧ bs.getD m 0 = cs.length ∧ cs.length = vs.length
set_option maxRecDepth 100000 in
set_option maxHeartbeats 8000000 in
theorem mxBegins (m : Nat) (c : Int) (vb vc vv : Value) (bs cs vs : List Int) (w : World) (hb : Ints .i64 w vb bs) (hc : Ints .i64 w vc cs) (hv : Ints .u64 w vv vs) (hm : m ≤ 64) :
    Calls Try.prog 40 #[spV m c vb vc vv] w (RetIff (BeginOk m bs cs vs) w) := by
  have CS := hid fun (W : World) (hW : Ext w W) => sorted_any vb bs W (hb.ext hW)
  obtain ⟨a1, c1, rfl, k1, k2, k3⟩ := hb
  obtain ⟨a2, c2, rfl, l1, l2, l3⟩ := hc
  obtain ⟨a3, c3, rfl, m1, m2, m3⟩ := hv
  clear l3 m3
  have hw1 : IntKind.i64.wrap ((m : Int) + 1) = (m : Int) + 1 := by rw [IntKind.wrap_i64]; omega
  unfold spV
  by_cases g1 : bs.length = m + 1
  case neg =>
    have t1 : ((bs.length : Int) == (m : Int) + 1) = false := by simp; omega
    have G := hid fun h : BeginOk m bs cs vs => g1 h.1
    clear g1 k3
    go_enter Try.func40, Try.ntmps40
    go_wp2_with fail
    go_quiet (fail)
    go_wp2_with fail
    go_ret
    exact ⟨false, rfl, (by repeat (first | exact Ext.refl _ | assumption | refine Ext.drew ?_ | refine Ext.drewN ?_ _ | refine Ext.alloc ?_ _ | refine Ext.trans ?_ (by assumption))), by simp; exact G.out⟩
  have t1 : ((bs.length : Int) == (m : Int) + 1) = true := by simp; omega
  obtain ⟨b, off, rfl, hb, hcell⟩ := k3 (by omega)
  have q0 := hcell 0 (by omega)
  have qm := hcell m (by omega)
  rw [Nat.add_zero] at q0
  obtain ⟨x0, ex0⟩ : ∃ x, bs.getD 0 0 = x := ⟨_, rfl⟩
  obtain ⟨xm, exm⟩ : ∃ x, bs.getD m 0 = x := ⟨_, rfl⟩
  rw [ex0] at q0
  rw [exm] at qm
  have hx0 := (Ext.refl w).alloc (.cells #[.int .i64 (m : Int), .int .i64 c, .slice (some ⟨b, off, none⟩) bs.length c1, .slice a2 cs.length c2, .slice a3 vs.length c3] 28)
  have f0 := (hx0.cells _ _ hb).trans q0
  have fm := (hx0.cells _ _ hb).trans qm
  have mb : (m : Int) < (bs.length : Int) := by omega
  have mb0 : (0 : Int) < (bs.length : Int) := by omega
  have mb1 : (0 : Int) ≤ (m : Int) := by omega
  have G1 := hid g1; have EX0 := hid ex0; have EXm := hid exm
  clear hx0 q0 qm ex0 exm hcell k3 g1
  by_cases g2 : x0 = 0
  case neg =>
    have t2 : (x0 == 0) = false := by simp [g2]
    have G := hid fun h : BeginOk m bs cs vs => g2 (EX0.out ▸ h.2.1)
    clear g2
    go_enter Try.func40, Try.ntmps40
    go_wp2_with fail
    go_quiet (fail)
    go_wp2_with fail
    go_ret
    exact ⟨false, rfl, (by repeat (first | exact Ext.refl _ | assumption | refine Ext.drew ?_ | refine Ext.drewN ?_ _ | refine Ext.alloc ?_ _ | refine Ext.trans ?_ (by assumption))), by simp; exact G.out⟩
  have t2 : (x0 == 0) = true := by simp [g2]
  by_cases g3 : Sorted bs
  case neg =>
    have CF := hid fun (W : World) (hW : Ext w W) => (CS.out W hW).mono fun e w' ⟨b, h1, h2, h3⟩ => (show RetD (.bool false) W e w' from ⟨by rw [h1, Bool.eq_false_iff.2 fun h => g3 (h2.1 h)], h3⟩)
    have G := hid fun h : BeginOk m bs cs vs => g3 h.2.2.1
    clear g2 g3
    go_enter Try.func40, Try.ntmps40
    go_wp2_with fail
    go_quiet ((go_at_call 55; first | exact quiet_d (CF.out _ (by repeat (first | exact Ext.refl _ | assumption | refine Ext.drew ?_ | refine Ext.drewN ?_ _ | refine Ext.alloc ?_ _ | refine Ext.trans ?_ (by assumption)))) | exact quiet_add_d (CF.out _ (by repeat (first | exact Ext.refl _ | assumption | refine Ext.drew ?_ | refine Ext.drewN ?_ _ | refine Ext.alloc ?_ _ | refine Ext.trans ?_ (by assumption))))))
    go_wp2_with fail
    go_ret
    exact ⟨false, rfl, (by repeat (first | exact Ext.refl _ | assumption | refine Ext.drew ?_ | refine Ext.drewN ?_ _ | refine Ext.alloc ?_ _ | refine Ext.trans ?_ (by assumption))), by simp; exact G.out⟩
  have CF := hid fun (W : World) (hW : Ext w W) => (CS.out W hW).mono fun e w' ⟨b, h1, h2, h3⟩ => (show RetD (.bool true) W e w' from ⟨by rw [h1, h2.2 g3], h3⟩)
  by_cases g4 : xm = cs.length
  case neg =>
    have t4 : (xm == (cs.length : Int)) = false := by simp [g4]
    have G := hid fun h : BeginOk m bs cs vs => g4 (EXm.out ▸ h.2.2.2.1)
    clear g2 g3 g4
    go_enter Try.func40, Try.ntmps40
    go_wp2_with fail
    go_quiet ((go_at_call 55; first | exact quiet_d (CF.out _ (by repeat (first | exact Ext.refl _ | assumption | refine Ext.drew ?_ | refine Ext.drewN ?_ _ | refine Ext.alloc ?_ _ | refine Ext.trans ?_ (by assumption)))) | exact quiet_add_d (CF.out _ (by repeat (first | exact Ext.refl _ | assumption | refine Ext.drew ?_ | refine Ext.drewN ?_ _ | refine Ext.alloc ?_ _ | refine Ext.trans ?_ (by assumption))))))
    go_wp2_with fail
    go_ret
    exact ⟨false, rfl, (by repeat (first | exact Ext.refl _ | assumption | refine Ext.drew ?_ | refine Ext.drewN ?_ _ | refine Ext.alloc ?_ _ | refine Ext.trans ?_ (by assumption))), by simp; exact G.out⟩
  have t4 : (xm == (cs.length : Int)) = true := by simp [g4]
  by_cases g5 : cs.length = vs.length
  case neg =>
    have t5 : ((cs.length : Int) == (vs.length : Int)) = false := by simp; omega
    have G := hid fun h : BeginOk m bs cs vs => g5 h.2.2.2.2
    clear g2 g3 g4 g5
    go_enter Try.func40, Try.ntmps40
    go_wp2_with fail
    go_quiet ((go_at_call 55; first | exact quiet_d (CF.out _ (by repeat (first | exact Ext.refl _ | assumption | refine Ext.drew ?_ | refine Ext.drewN ?_ _ | refine Ext.alloc ?_ _ | refine Ext.trans ?_ (by assumption)))) | exact quiet_add_d (CF.out _ (by repeat (first | exact Ext.refl _ | assumption | refine Ext.drew ?_ | refine Ext.drewN ?_ _ | refine Ext.alloc ?_ _ | refine Ext.trans ?_ (by assumption))))))
    go_wp2_with fail
    go_ret
    exact ⟨false, rfl, (by repeat (first | exact Ext.refl _ | assumption | refine Ext.drew ?_ | refine Ext.drewN ?_ _ | refine Ext.alloc ?_ _ | refine Ext.trans ?_ (by assumption))), by simp; exact G.out⟩
  have t5 : ((cs.length : Int) == (vs.length : Int)) = true := by simp; omega
  have G : Hid (BeginOk m bs cs vs) := hid ⟨G1.out, EX0.out.trans g2, g3, EXm.out.trans g4, g5⟩
  clear g2 g3 g4 g5
  go_enter Try.func40, Try.ntmps40
  go_wp2_with fail
  go_quiet ((go_at_call 55; first | exact quiet_d (CF.out _ (by repeat (first | exact Ext.refl _ | assumption | refine Ext.drew ?_ | refine Ext.drewN ?_ _ | refine Ext.alloc ?_ _ | refine Ext.trans ?_ (by assumption)))) | exact quiet_add_d (CF.out _ (by repeat (first | exact Ext.refl _ | assumption | refine Ext.drew ?_ | refine Ext.drewN ?_ _ | refine Ext.alloc ?_ _ | refine Ext.trans ?_ (by assumption))))))
  go_wp2_with fail
  go_ret
  exact ⟨true, rfl, (by repeat (first | exact Ext.refl _ | assumption | refine Ext.drew ?_ | refine Ext.drewN ?_ _ | refine Ext.alloc ?_ _ | refine Ext.trans ?_ (by assumption))), by simp; exact G.out⟩

/-! ### What a right thin matrix is, in the code's own words -/
/-- where row i begins -/
def beg (bs : List Int) (i : Nat) : Nat := (bs.getD i 0).toNat
theorem BeginOk.mono {m : Nat} {bs cs vs : List Int} (h : BeginOk m bs cs vs) : ∀ i, i < m → bs.getD i 0 ≤ bs.getD (i + 1) 0 := fun i hi => h.2.2.1 i (by rw [h.1]; omega)
theorem beg_of {m : Nat} {bs cs : List Int} (h0 : bs.getD 0 0 = 0) (hm : bs.getD m 0 = cs.length) (mono : ∀ i, i < m → bs.getD i 0 ≤ bs.getD (i + 1) 0) {i : Nat} (hi : i ≤ m) : bs.getD i 0 = (beg bs i : Nat) ∧ beg bs i ≤ cs.length := by
  have h1 := mono_ge mono 0 i (Nat.zero_le _) hi
  have h2 := mono_ge mono i m hi (Nat.le_refl _)
  unfold beg
  omega
theorem beg_le {m : Nat} {bs : List Int} (mono : ∀ i, i < m → bs.getD i 0 ≤ bs.getD (i + 1) 0) {i : Nat} (hi : i < m) : beg bs i ≤ beg bs (i + 1) := by
  have := mono i hi
  unfold beg
  omega
/-- each number stands in some row -/
theorem row_of {m : Nat} {bs cs : List Int} (h0 : bs.getD 0 0 = 0) : ∀ (M k : Nat), (k : Int) < bs.getD M 0 → ∃ i, i < M ∧ bs.getD i 0 ≤ k ∧ (k : Int) < bs.getD (i + 1) 0
  | 0, k, h => by rw [h0] at h; omega
  | M + 1, k, h => by
    by_cases e : (k : Int) < bs.getD M 0
    · obtain ⟨i, h1, h2, h3⟩ := row_of (m := m) (cs := cs) h0 M k e
      exact ⟨i, by omega, h2, h3⟩
    · exact ⟨M, by omega, by omega, h⟩
theorem SpOk.begins {p : Int} {m n : Nat} {bs cs vs : List Int} (h : SpOk p m n bs cs vs) : BeginOk m bs cs vs := ⟨h.lb, h.b0, fun j hj => h.mono j (by have := h.lb; omega), h.bm, h.lc⟩
theorem SpOk.nozero {p : Int} {m n : Nat} {bs cs vs : List Int} (h : SpOk p m n bs cs vs) : (0 : Int) ∉ vs := fun h0 => by
  obtain ⟨k, hk, e⟩ := List.mem_iff_getElem.1 h0
  obtain ⟨i, h1, h2, h3⟩ := row_of (m := m) (cs := cs) h.b0 m k (by rw [h.bm, h.lc]; omega)
  exact (h.row i h1 k h2 h3).1 (by simp [List.getD, List.getElem?_eq_getElem hk, e])
theorem SpOk.rises {p : Int} {m n : Nat} {bs cs vs : List Int} (h : SpOk p m n bs cs vs) {i : Nat} (hi : i < m) : Rise n (seg cs (beg bs i) (beg bs (i + 1))) := by
  obtain ⟨e1, l1⟩ := beg_of h.b0 h.bm h.mono (show i ≤ m by omega)
  obtain ⟨e2, l2⟩ := beg_of h.b0 h.bm h.mono (show i + 1 ≤ m by omega)
  intro k hk
  rw [seg_len l2] at hk
  have := h.row i hi (beg bs i + k) (by omega) (by omega)
  obtain ⟨c1, c2, c3, c4⟩ := this
  rw [seg_get _ _ _ _ hk]
  refine ⟨c2, c3, fun h0 => ?_⟩
  rw [seg_get _ _ _ _ (by omega)]
  have := c4 (by omega)
  rwa [show beg bs i + k - 1 = beg bs i + (k - 1) by omega] at this
theorem SpOk.of {p : Int} {m n : Nat} {bs cs vs : List Int} (hm : 1 ≤ m ∧ m ≤ 64) (hn : 1 ≤ n ∧ n ≤ 64) (hb : BeginOk m bs cs vs) (hv : hasB p vs = true) (h0 : (0 : Int) ∉ vs) (hr : ∀ i, i < m → Rise n (seg cs (beg bs i) (beg bs (i + 1)))) : SpOk p m n bs cs vs where
  m1 := hm
  n1 := hn
  lb := hb.1
  lc := hb.2.2.2.2
  hv := hv
  b0 := hb.2.1
  bm := hb.2.2.2.1
  mono := hb.mono
  row := fun i hi k h1 h2 => by
    obtain ⟨e1, l1⟩ := beg_of hb.2.1 hb.2.2.2.1 hb.mono (show i ≤ m by omega)
    obtain ⟨e2, l2⟩ := beg_of hb.2.1 hb.2.2.2.1 hb.mono (show i + 1 ≤ m by omega)
    obtain ⟨t, rfl⟩ : ∃ t, k = beg bs i + t := ⟨k - beg bs i, by omega⟩
    have ht : t < beg bs (i + 1) - beg bs i := by omega
    have hk : beg bs i + t < vs.length := by rw [← hb.2.2.2.2]; omega
    obtain ⟨c1, c2, c3⟩ := hr i hi t (by rw [seg_len l2]; exact ht)
    rw [seg_get _ _ _ _ ht] at c1 c2 c3
    refine ⟨fun e => h0 (by rw [← e]; exact getD_mem 0 hk), c1, c2, fun h => ?_⟩
    have := c3 (by omega)
    rw [seg_get _ _ _ _ (by omega)] at this
    rwa [show beg bs i + t - 1 = beg bs i + (t - 1) by omega]
end Go.Proofs.Ytlociefncogjeaa
