/- What prime.Check and prime.Shows answer. -/
import Derived.Test.YtncidpckokclbaaDoorFirst
namespace Go.Proofs.YtncidpckokclbaaDoor
open Go.RowKit Go.Maps

set_option maxHeartbeats 400000 in
theorem Check_any (v : Value) (l : List Prf) (w : World) (hv : Proofs w v l) (hl : ∀ f ∈ l, f.Ok) :
    Calls Tryd.prog 13 #[v] w (Ret (.bool (decide (firstD l = l.length))) w) := by
  have Hv := hid hv
  obtain ⟨a, cap, rfl, hc1, hc2, hc⟩ := hv
  have Hl := hid hl
  clear hc hl
  go_enter Tryd.func13, Tryd.ntmps13
  go_wp2_with fail
  refine (First_any _ l _ Hv.out Hl.out).mono ?_; rintro _ w1 ⟨rfl, x1⟩
  go_wp2_with fail
  go_ret
  exact ⟨ret_bool (by rw [Bool.eq_iff_iff]; simp; omega), (by repeat (first | exact Ext.refl _ | assumption | refine Ext.drew ?_ | refine Ext.drewN ?_ _ | refine Ext.alloc ?_ _ | refine Ext.trans ?_ (by assumption)))⟩

set_option maxHeartbeats 400000 in
theorem Shows1_any (n r p : Int) (v : Value) (b : Nat) (w : World) (hp : w.cell? ⟨b, 0, none⟩ = some (.int .u64 p)) (ps : List (Int × Int)) (hv : Parts w v ps) :
    Calls Tryd.prog 30 #[.agg #[.int .u64 n, .int .u64 r, v], .pointer (some ⟨b, 0, none⟩)] w (Ret (.bool (decide (n = p))) w) := by
  have hb := cell_lt hp
  obtain ⟨a, cap, rfl, hc1, hc2, hc⟩ := hv
  have hp2 : (w.alloc (.cells #[.int .u64 n, .int .u64 r, .slice a ps.length cap] 42)).cell? ⟨b, 0, none⟩ = some (.int .u64 p) := (World.cell?_alloc_lt w _ _ hb).trans hp
  clear hc
  go_enter Tryd.func30, Tryd.ntmps30
  go_wp2_with fail
  go_ret
  exact ⟨ret_bool (by rw [Bool.eq_iff_iff]; simp), (by repeat (first | exact Ext.refl _ | assumption | refine Ext.drew ?_ | refine Ext.drewN ?_ _ | refine Ext.alloc ?_ _ | refine Ext.trans ?_ (by assumption)))⟩

set_option maxHeartbeats 1000000 in
theorem indexFunc_any (v : Value) (l : List Prf) (p : Int) (b0 : Nat) (w : World) (hv : Proofs w v l) (hp : w.cell? ⟨b0, 0, none⟩ = some (.int .u64 p)) :
    Calls Tryd.prog 42 #[v, .func (.func 30) #[] #[.pointer (some ⟨b0, 0, none⟩)]] w
      fun e w' => ∃ i : Int, Ret (.int .i64 i) w e w' ∧ decide (0 ≤ i) = l.any fun f => decide (f.num = p) := by
  obtain ⟨a, cap, rfl, hc1, hc2, hc⟩ := hv
  have Hc := hid hc
  clear hc
  have hb0 := cell_lt hp
  go_enter Tryd.func42, Tryd.ntmps42
  go_wp2_with fail
  go_loopw [8] (fun i wr => ∃ k : Nat, i = .int .i64 k ∧ k ≤ l.length ∧ (∀ j, j < k → (l.getD j .zero).num ≠ p) ∧ Ext w wr) (fun i _ => l.length - (intOf i).toNat)
  case atStart => exact ⟨0, rfl, by omega, by simp, (by repeat (first | exact Ext.refl _ | assumption | refine Ext.drew ?_ | refine Ext.drewN ?_ _ | refine Ext.alloc ?_ _ | refine Ext.trans ?_ (by assumption)))⟩
  case round =>
    obtain ⟨k, rfl, hk, hall, hw⟩ := hrel
    have Ha := hid hall; clear hall
    by_cases hlt : k < l.length
    · obtain ⟨b, off, rfl, hb, hcell⟩ := Hc.out (by omega)
      obtain ⟨c1, c2, v', c3, c4⟩ := hcell k hlt
      have g1 := (hw.cells _ _ hb).trans c1
      have g2 := (hw.cells _ _ hb).trans c2
      have g3 := (hw.cells _ _ hb).trans c3
      clear hcell c1 c2 c3
      have hm := getD_mem .zero hlt
      obtain ⟨f, ef⟩ : ∃ f, l.getD k .zero = f := ⟨_, rfl⟩
      rw [ef] at g1 g2 c4 hm
      have Ef := hid ef
      have Hm := hid hm
      clear ef hm
      obtain ⟨n, r, ps⟩ := f
      have C4 := hid c4
      obtain ⟨pa, pcap, rfl, p1, p2, p3⟩ := c4
      clear p3
      simp only at g1 g2 g3 p1
      have hpr := (hw.cells _ 0 hb0).trans hp
      have HS := hid (Shows1_any n r p (.slice pa ps.length pcap) b0 wr hpr ps (C4.out.ext hw))
      by_cases he : n = p
      · have e1 : decide (n = p) = true := by simpa using he
        replace he := hid he
        go_wp2_with fail
        refine HS.out.mono ?_; rintro _ w2 ⟨rfl, x2⟩
        rw [e1]
        go_wp2_with fail
        go_ret
        refine ⟨_, ⟨rfl, (by repeat (first | exact Ext.refl _ | assumption | refine Ext.drew ?_ | refine Ext.drewN ?_ _ | refine Ext.alloc ?_ _ | refine Ext.trans ?_ (by assumption)))⟩, ?_⟩
        have : (l.any fun f => decide (f.num = p)) = true := List.any_eq_true.2 ⟨_, Hm.out, by simpa using he.out⟩
        rw [this]; simp
      · have e1 : decide (n = p) = false := by simpa using he
        replace he := hid he
        go_wp2_with fail
        refine HS.out.mono ?_; rintro _ w2 ⟨rfl, x2⟩
        rw [e1]
        go_wp2_with fail
        go_roundw
        case rel => exact ⟨k + 1, by go_num, by omega, fun j hj => by
          by_cases e : j = k
          · rw [e, Ef.out]; exact he.out
          · exact Ha.out j (by omega), (by repeat (first | exact Ext.refl _ | assumption | refine Ext.drew ?_ | refine Ext.drewN ?_ _ | refine Ext.alloc ?_ _ | refine Ext.trans ?_ (by assumption)))⟩
        case measure => simp [intOf]; omega
    · have : (l.any fun f => decide (f.num = p)) = false := by
        rw [List.any_eq_false]
        intro f hf
        obtain ⟨j, hj, rfl⟩ := List.mem_iff_getElem.1 hf
        have := Ha.out j (by omega)
        simpa [List.getD, List.getElem?_eq_getElem hj] using this
      have HH := hid this; clear this
      go_wp2_with fail
      go_ret
      exact ⟨_, ⟨rfl, (by repeat (first | exact Ext.refl _ | assumption | refine Ext.drew ?_ | refine Ext.drewN ?_ _ | refine Ext.alloc ?_ _ | refine Ext.trans ?_ (by assumption)))⟩, by rw [HH.out]; rfl⟩

set_option maxHeartbeats 400000 in
theorem contains_any (v : Value) (l : List Prf) (p : Int) (b0 : Nat) (w : World) (hv : Proofs w v l) (hp : w.cell? ⟨b0, 0, none⟩ = some (.int .u64 p)) :
    Calls Tryd.prog 29 #[v, .func (.func 30) #[] #[.pointer (some ⟨b0, 0, none⟩)]] w
      (Ret (.bool (l.any fun f => decide (f.num = p))) w) := by
  have Hv := hid hv
  obtain ⟨a, cap, rfl, hc1, hc2, hc⟩ := hv
  clear hc
  go_enter Tryd.func29, Tryd.ntmps29
  go_wp2_with fail
  refine (indexFunc_any _ l p b0 _ Hv.out hp).mono ?_; rintro _ w1 ⟨i, ⟨rfl, x1⟩, hi⟩
  have Hi := hid hi; clear hi
  go_wp2_with fail
  go_ret
  exact ⟨ret_bool Hi.out, (by repeat (first | exact Ext.refl _ | assumption | refine Ext.drew ?_ | refine Ext.drewN ?_ _ | refine Ext.alloc ?_ _ | refine Ext.trans ?_ (by assumption)))⟩

/-- does the list show p? -/
def showsB (l : List Prf) (p : Int) : Bool := decide (firstD l = l.length) && knownB l p
theorem knownB_any (l : List Prf) (p : Int) : knownB l p = (decide (p = 2) || l.any fun f => decide (f.num = p)) := by
  rw [Bool.eq_iff_iff]
  simp only [knownB, decide_eq_true_eq, Bool.or_eq_true, List.any_eq_true, List.mem_map]

set_option maxHeartbeats 400000 in
theorem Shows_any (v : Value) (l : List Prf) (p : Int) (w : World) (hv : Proofs w v l) (hl : ∀ f ∈ l, f.Ok) :
    Calls Tryd.prog 14 #[v, .int .u64 p] w (Ret (.bool (showsB l p)) w) := by
  have Hv := hid hv
  obtain ⟨a, cap, rfl, hc1, hc2, hc⟩ := hv
  have Hl := hid hl
  clear hc hl
  obtain ⟨x, ex⟩ : ∃ x, decide (firstD l = l.length) = x := ⟨_, rfl⟩
  have Ex := hid ex; clear ex
  cases x with
  | false =>
    go_enter Tryd.func14, Tryd.ntmps14
    go_wp2_with fail
    refine (Check_any _ l _ (Hv.out.ext (by repeat (first | exact Ext.refl _ | assumption | refine Ext.drew ?_ | refine Ext.drewN ?_ _ | refine Ext.alloc ?_ _ | refine Ext.trans ?_ (by assumption)))) Hl.out).mono ?_; rintro _ w1 ⟨rfl, x1⟩
    rw [Ex.out]
    go_wp2_with fail
    go_ret
    exact ⟨ret_bool (by simp [showsB, Ex.out]), (by repeat (first | exact Ext.refl _ | assumption | refine Ext.drew ?_ | refine Ext.drewN ?_ _ | refine Ext.alloc ?_ _ | refine Ext.trans ?_ (by assumption)))⟩
  | true =>
    by_cases h2 : p = 2
    · have e2 : (p == 2) = true := by simpa using h2
      replace h2 := hid h2
      go_enter Tryd.func14, Tryd.ntmps14
      go_wp2_with fail
      refine (Check_any _ l _ (Hv.out.ext (by repeat (first | exact Ext.refl _ | assumption | refine Ext.drew ?_ | refine Ext.drewN ?_ _ | refine Ext.alloc ?_ _ | refine Ext.trans ?_ (by assumption)))) Hl.out).mono ?_; rintro _ w1 ⟨rfl, x1⟩
      rw [Ex.out]
      have c0 : w1.cell? ⟨w.heap.size, 0, none⟩ = some (.int .u64 p) := (((Blk.new w _ _).ext x1).cell 0).trans rfl
      go_wp2_with fail
      go_ret
      exact ⟨ret_bool (by simp [showsB, Ex.out, knownB, h2.out]), (by repeat (first | exact Ext.refl _ | assumption | refine Ext.drew ?_ | refine Ext.drewN ?_ _ | refine Ext.alloc ?_ _ | refine Ext.trans ?_ (by assumption)))⟩
    · have e2 : (p == 2) = false := by simpa using h2
      go_enter Tryd.func14, Tryd.ntmps14
      go_wp2_with fail
      refine (Check_any _ l _ (Hv.out.ext (by repeat (first | exact Ext.refl _ | assumption | refine Ext.drew ?_ | refine Ext.drewN ?_ _ | refine Ext.alloc ?_ _ | refine Ext.trans ?_ (by assumption)))) Hl.out).mono ?_; rintro _ w1 ⟨rfl, x1⟩
      rw [Ex.out]
      have c0 : w1.cell? ⟨w.heap.size, 0, none⟩ = some (.int .u64 p) := (((Blk.new w _ _).ext x1).cell 0).trans rfl
      have hw1 : Ext w w1 := (by repeat (first | exact Ext.refl _ | assumption | refine Ext.drew ?_ | refine Ext.drewN ?_ _ | refine Ext.alloc ?_ _ | refine Ext.trans ?_ (by assumption)))
      go_wp2_with fail
      refine (contains_any _ l p w.heap.size _ (Hv.out.ext hw1) c0).mono ?_; rintro _ w2 ⟨rfl, x2⟩
      go_wp2_with fail
      go_ret
      exact ⟨ret_bool (by simp only [showsB, Ex.out, knownB_any, decide_eq_false h2, Bool.false_or, Bool.true_and]), (by repeat (first | exact Ext.refl _ | assumption | refine Ext.drew ?_ | refine Ext.drewN ?_ _ | refine Ext.alloc ?_ _ | refine Ext.trans ?_ (by assumption)))⟩
end Go.Proofs.YtncidpckokclbaaDoor
