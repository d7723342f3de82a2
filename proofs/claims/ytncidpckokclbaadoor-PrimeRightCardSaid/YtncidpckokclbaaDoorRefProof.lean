/- What the document's own Proof, First and Shows answer. -/
import Derived.Test.YtncidpckokclbaaDoorRef01
import Derived.Test.YtncidpckokclbaaDoorRef02
import Derived.Test.YtncidpckokclbaaDoorShows
import Derived.Test.YtncidpckokclbaaDoorPrattList
namespace Go.Proofs.YtncidpckokclbaaDoor
open Go.RowKit Go.Maps

set_option maxHeartbeats 1000000 in
theorem rKnown (v : Value) (l : List Prf) (p : Int) (w : World) (hv : Proofs w v l) :
    Calls Tryd.prog 31 #[v, .int .u64 p] w fun e w' => e = .returned (.bool (knownB l p)) ∧ w = w' := by
  obtain ⟨a, cap, rfl, hc1, hc2, hc⟩ := hv
  have Hc := hid hc
  clear hc
  go_enter Tryd.func31, Tryd.ntmps31
  go_wp2_with fail
  go_loop [5] (fun i => ∃ k : Nat, i = .int .i64 k ∧ k ≤ l.length ∧ ∀ j, j < k → (l.getD j .zero).num ≠ p) (fun i => l.length - (intOf i).toNat)
  case atStart => exact ⟨0, rfl, by omega, by simp⟩
  case round =>
    obtain ⟨k, rfl, hk, hall⟩ := hrel
    have Ha := hid hall; clear hall
    by_cases hlt : k < l.length
    · obtain ⟨b, off, rfl, hb, hcell⟩ := Hc.out (by omega)
      have c1 := (hcell k hlt).1
      have hm := getD_mem .zero hlt
      obtain ⟨f, ef⟩ : ∃ f, l.getD k .zero = f := ⟨_, rfl⟩
      rw [ef] at c1 hm
      have Ef := hid ef; have Hm := hid hm
      clear hcell ef hm
      obtain ⟨n, r, ps⟩ := f
      simp only at c1
      by_cases he : n = p
      · have b1 : (n == p) = true := by simpa using he
        have HE := hid he
        clear he
        go_wp2_with fail
        go_ret
        refine ⟨ret_bool ?_, rfl⟩
        have : (l.any fun f => decide (f.num = p)) = true := List.any_eq_true.2 ⟨_, Hm.out, by simpa using HE.out⟩
        rw [knownB_any, this, Bool.or_true]
      · have b1 : (n == p) = false := by simpa using he
        have HE := hid he
        clear he
        go_wp2_with fail
        go_round
        case rel => exact ⟨k + 1, by go_num, by omega, fun j hj => by
          by_cases e : j = k
          · rw [e, Ef.out]; exact HE.out
          · exact Ha.out j (by omega)⟩
        case measure => simp [intOf]; omega
    · have : (l.any fun f => decide (f.num = p)) = false := by
        rw [List.any_eq_false]
        intro f hf
        obtain ⟨j, hj, rfl⟩ := List.mem_iff_getElem.1 hf
        have := Ha.out j (by omega)
        simpa [List.getD, List.getElem?_eq_getElem hj] using this
      have HH := hid this; clear this
      go_wp2_with fail
      go_ret
      exact ⟨ret_bool (by rw [knownB_any, HH.out, Bool.or_false, Bool.eq_iff_iff]; simp), rfl⟩

/-- is the proof at i one, by the document? -/
def refOk (l : List Prf) (i : Nat) : Bool :=
  decide (i < 200) && (decide (i = 0) || decide ((l.getD (i - 1) .zero).num < (l.getD i .zero).num)) && decide (2 < (l.getD i .zero).num) && decide ((l.getD i .zero).num ≤ 9223372036854775807) &&
  decide ((l.getD i .zero).root ≠ 0) && decide ((l.getD i .zero).root < (l.getD i .zero).num) && decide ((l.getD i .zero).parts.length ≠ 0) && decide ((l.getD i .zero).parts.length ≤ 20) &&
  upB 1 (l.getD i .zero).parts ((l.getD i .zero).num - 1) && decide (mpow (l.getD i .zero).num (l.getD i .zero).root ((l.getD i .zero).num - 1) = 1) &&
  (l.getD i .zero).parts.all fun q => knownB (l.take i) q.1 && decide (mpow (l.getD i .zero).num (l.getD i .zero).root (((l.getD i .zero).num - 1) / q.1) ≠ 1)

/-- the prime ahead of one -/
def ahead (ps : List (Int × Int)) : Nat → Int
  | 0 => 1
  | k + 1 => (ps.getD k (0, 0)).1

set_option maxRecDepth 100000 in
set_option maxHeartbeats 2000000 in
theorem rProof_z (v : Value) (l : List Prf) (i : Nat) (w : World) (hv : Proofs w v l) (hl : ∀ f ∈ l, f.Ok) (hi : i < l.length) (hz : i = 0) :
    Calls Tryd.prog 27 #[v, .int .i64 i] w (Ret (.bool (refOk l i)) w) := by
  have Hv := hid hv
  obtain ⟨a, cap, rfl, hc1, hc2, hc⟩ := hv
  obtain ⟨b, off, rfl, hb, hcell⟩ := hc (by omega)
  obtain ⟨c1, c2, v', c3, c4⟩ := hcell i hi
  have hf := hl _ (getD_mem .zero hi)
  obtain ⟨R, eR⟩ : ∃ R, refOk l i = R := ⟨_, rfl⟩
  rw [eR]
  unfold refOk at eR
  have hprev : ∀ j, i = j + 1 → w.cell? ⟨b, off + j * 3, none⟩ = some (.int .u64 (l.getD j .zero).num) := fun j e => (hcell j (by omega)).1
  clear hcell hc
  generalize l.getD i .zero = f at *
  obtain ⟨n, r, ps⟩ := f
  obtain ⟨hn0, hn1, hr0, hr1, ho⟩ := hf
  simp only at c1 c2 c4 hn0 hn1 hr0 hr1 ho eR
  have C4 := hid c4
  obtain ⟨pa, pc, rfl, p1, p2, p3⟩ := c4
  have HP3 := hid p3; have HO := hid ho
  clear p3 ho hl
  by_cases h200 : 200 ≤ i
  · omega
  have t1 : decide ((200 : Int) ≤ (i : Int)) = false := by simp; omega
  have t1n : decide (200 ≤ i) = false := by simp; omega
  have t1m : ¬ 200 ≤ i := h200
  have t9 : decide ((0 : Int) < (i : Int)) = false := by simp; omega
  have t10 : decide (0 < i) = false := by simp; omega
  have t11 : ¬ 0 < i := by omega
  have HZ := hid hz
  clear hprev hz
  by_cases hN2 : n ≤ 2
  · have t3 : decide (n ≤ 2) = true := by simp; omega
    obtain rfl : R = false := by
      rw [← eR, show decide (2 < n) = false from decide_eq_false (by omega)]
      simp
    clear eR
    clear hN2
    go_enter Tryd.func27, Tryd.ntmps27
    go_wp2_with fail
    go_quiet (fail)
    go_wp2_with fail
    go_ret
    exact ⟨rfl, (by repeat (first | exact Ext.refl _ | assumption | refine Ext.drew ?_ | refine Ext.drewN ?_ _ | refine Ext.alloc ?_ _ | refine Ext.trans ?_ (by assumption)))⟩
  have t3 : decide (n ≤ 2) = false := by simp; omega
  by_cases hNm : 9223372036854775807 < n
  · have t4 : decide (9223372036854775807 < n) = true := by simp; omega
    obtain rfl : R = false := by
      rw [← eR, show decide (n ≤ 9223372036854775807) = false from decide_eq_false (by omega)]
      simp
    clear eR
    clear hNm
    go_enter Tryd.func27, Tryd.ntmps27
    go_wp2_with fail
    go_quiet (fail)
    go_wp2_with fail
    go_ret
    exact ⟨rfl, (by repeat (first | exact Ext.refl _ | assumption | refine Ext.drew ?_ | refine Ext.drewN ?_ _ | refine Ext.alloc ?_ _ | refine Ext.trans ?_ (by assumption)))⟩
  have t4 : decide (9223372036854775807 < n) = false := by simp; omega
  by_cases hr00 : r = 0
  · have t5 : (r == 0) = true := by simp; omega
    obtain rfl : R = false := by
      rw [← eR, show decide (r ≠ 0) = false from decide_eq_false (by omega)]
      simp
    clear eR
    clear hr00
    go_enter Tryd.func27, Tryd.ntmps27
    go_wp2_with fail
    go_quiet (fail)
    go_wp2_with fail
    go_ret
    exact ⟨rfl, (by repeat (first | exact Ext.refl _ | assumption | refine Ext.drew ?_ | refine Ext.drewN ?_ _ | refine Ext.alloc ?_ _ | refine Ext.trans ?_ (by assumption)))⟩
  have t5 : (r == 0) = false := by simp; omega
  by_cases hrn : n ≤ r
  · have t6 : decide (n ≤ r) = true := by simp; omega
    obtain rfl : R = false := by
      rw [← eR, show decide (r < n) = false from decide_eq_false (by omega)]
      simp
    clear eR
    clear hrn
    go_enter Tryd.func27, Tryd.ntmps27
    go_wp2_with fail
    go_quiet (fail)
    go_wp2_with fail
    go_ret
    exact ⟨rfl, (by repeat (first | exact Ext.refl _ | assumption | refine Ext.drew ?_ | refine Ext.drewN ?_ _ | refine Ext.alloc ?_ _ | refine Ext.trans ?_ (by assumption)))⟩
  have t6 : decide (n ≤ r) = false := by simp; omega
  by_cases hl0 : ps.length = 0
  · have t7 : ((ps.length : Int) == 0) = true := beq_iff_eq.2 (by omega)
    have t7n : (ps.length == 0) = true := beq_iff_eq.2 (by omega)
    obtain rfl : R = false := by
      rw [← eR, show decide (ps.length ≠ 0) = false from decide_eq_false (by omega)]
      simp
    clear eR
    clear hl0
    go_enter Tryd.func27, Tryd.ntmps27
    go_wp2_with fail
    go_quiet (fail)
    go_wp2_with fail
    go_ret
    exact ⟨rfl, (by repeat (first | exact Ext.refl _ | assumption | refine Ext.drew ?_ | refine Ext.drewN ?_ _ | refine Ext.alloc ?_ _ | refine Ext.trans ?_ (by assumption)))⟩
  have t7 : ((ps.length : Int) == 0) = false := beq_eq_false_iff_ne.2 (by omega)
  have t7n : (ps.length == 0) = false := beq_eq_false_iff_ne.2 (by omega)
  by_cases hl20 : 20 < ps.length
  · have t8 : decide ((20 : Int) < (ps.length : Int)) = true := by simp; omega
    have t8n : decide (20 < ps.length) = true := by simp; omega
    obtain rfl : R = false := by
      rw [← eR, show decide (ps.length ≤ 20) = false from decide_eq_false (by omega)]
      simp
    clear eR
    clear hl20
    go_enter Tryd.func27, Tryd.ntmps27
    go_wp2_with fail
    go_quiet (fail)
    go_wp2_with fail
    go_ret
    exact ⟨rfl, (by repeat (first | exact Ext.refl _ | assumption | refine Ext.drew ?_ | refine Ext.drewN ?_ _ | refine Ext.alloc ?_ _ | refine Ext.trans ?_ (by assumption)))⟩
  have t8 : decide ((20 : Int) < (ps.length : Int)) = false := by simp; omega
  have t8n : decide (20 < ps.length) = false := by simp; omega
  rw [decide_eq_true (show i < 200 by omega), decide_eq_true (show i = 0 from HZ.out), decide_eq_true (show 2 < n by omega), decide_eq_true (show n ≤ 9223372036854775807 by omega), decide_eq_true (show r ≠ 0 by omega), decide_eq_true (show r < n by omega), decide_eq_true (show ps.length ≠ 0 by omega), decide_eq_true (show ps.length ≤ 20 by omega)] at eR
  simp only [Bool.true_and, Bool.true_or, Bool.and_true] at eR
  have HER := hid eR
  obtain ⟨U, eU⟩ : ∃ U, upB 1 ps (n - 1) = U := ⟨_, rfl⟩
  have HU := hid eU
  clear eR eU
  go_enter Tryd.func27, Tryd.ntmps27
  go_wp2_with fail
  go_quiet (fail)
  go_wp2_with fail
  have B1 : Blk ((w.alloc (.cells #[.int .u64 n, .int .u64 r, .slice pa ps.length pc] 42)).drewN nq) w.heap.size 42 #[.int .u64 n, .int .u64 r, .slice pa ps.length pc] := Blk.new w _ _
  have hE1 : Ext w ((w.alloc (.cells #[.int .u64 n, .int .u64 r, .slice pa ps.length pc] 42)).drewN nq) := ((Ext.refl w).alloc _).drewN _
  generalize (w.alloc (.cells #[.int .u64 n, .int .u64 r, .slice pa ps.length pc] 42)).drewN nq = w1 at *
  have HB1 := hid B1
  clear B1
  have hs1 := hE1.size
  go_loopw [7, 6] (fun i m wr => ∃ (k : Nat) (y : Int), i = .int .i64 k ∧ m = .int .u64 y ∧ k ≤ ps.length ∧ 0 ≤ y ∧ y ≤ 18446744073709551615 ∧ 1 ≤ ahead ps k ∧ (0 < k → 2 ≤ ahead ps k) ∧ upB (ahead ps k) (ps.drop k) y = U ∧ Ext w1 wr) (fun i _ _ => ps.length - (intOf i).toNat)
  case atStart => exact ⟨0, n - 1, rfl, rfl, by omega, by omega, by omega, by simp [ahead], by simp, HU.out, Ext.refl _⟩
  case round =>
    obtain ⟨k, y, rfl, rfl, hk, hy0, hy1, hah1, hah2, hup, hxw⟩ := hrel
    have hB := HB1.out.ext hxw
    have d0 := hB.cell 0; have d1 := hB.cell 1; have d2 := hB.cell 2
    simp only [List.getElem?_toArray, List.getElem?_cons_zero, List.getElem?_cons_succ] at d0 d1 d2
    have hwr := hE1.trans hxw
    have hbs := cell_lt d2
    simp only at hbs
    clear hB
    by_cases hlt : k < ps.length
    · have hd : ps.drop k = ps.getD k (0, 0) :: ps.drop (k + 1) := by
        rw [List.drop_eq_getElem_cons hlt]; simp [List.getD, List.getElem?_eq_getElem hlt]
      obtain ⟨b', of', rfl, hb', hcl⟩ := HP3.out (by omega)
      have g1 := (hwr.cells _ _ hb').trans (hcl k hlt).1
      have g2 := (hwr.cells _ _ hb').trans (hcl k hlt).2
      have hq := HO.out.get hlt
      have hprv : ∀ j, k = j + 1 → wr.cell? ⟨b', of' + j * 2, none⟩ = some (.int .u64 (ahead ps k)) := fun j e => by
        subst e
        exact (hwr.cells _ _ hb').trans (hcl j (by omega)).1
      have hnx : ahead ps (k + 1) = (ps.getD k (0, 0)).1 := rfl
      have hbl := cell_lt g1
      rw [hd] at hup
      generalize ps.getD k (0, 0) = q at *
      obtain ⟨q1, q2⟩ := q
      simp only at g1 g2 hq hnx
      clear hcl hd
      have HNX := hid hnx
      clear hnx
      have hla0 : k = 0 → ahead ps k = 1 := fun e => by subst e; rfl
      generalize ahead ps k = la at *
      by_cases hA : q1 < 2
      · have tA : decide (q1 < 2) = true := by simpa using hA
        rw [upB_bad (.inl (by omega))] at hup
        obtain rfl : R = false := by rw [← HER.out, HU.out, ← hup]; simp
        clear HER HU hup hprv
        go_wp2_with fail
        go_quiet (fail)
        go_wp2_with fail
        go_ret
        exact ⟨rfl, (by repeat (first | exact Ext.refl _ | assumption | refine Ext.drew ?_ | refine Ext.drewN ?_ _ | refine Ext.alloc ?_ _ | refine Ext.trans ?_ (by assumption)))⟩
      have tA : decide (q1 < 2) = false := by simpa using hA
      by_cases hB2 : q2 < 1
      · have tB : decide (q2 < 1) = true := by simpa using hB2
        rw [upB_bad (.inr hB2)] at hup
        obtain rfl : R = false := by rw [← HER.out, HU.out, ← hup]; simp
        clear HER HU hup hprv
        go_wp2_with fail
        go_quiet (fail)
        go_wp2_with fail
        go_ret
        exact ⟨rfl, (by repeat (first | exact Ext.refl _ | assumption | refine Ext.drew ?_ | refine Ext.drewN ?_ _ | refine Ext.alloc ?_ _ | refine Ext.trans ?_ (by assumption)))⟩
      have tB : decide (q2 < 1) = false := by simpa using hB2
      by_cases hC : q1 ≤ la
      · rw [upB_bad (.inl hC)] at hup
        obtain rfl : R = false := by rw [← HER.out, HU.out, ← hup]; simp
        have tC : decide (q1 ≤ la) = true := by simpa using hC
        obtain ⟨kk, rfl⟩ : ∃ kk, k = kk + 1 := ⟨k - 1, by have := hla0; omega⟩
        have g0 := hprv kk rfl
        have tk : decide ((0 : Int) < (kk : Int) + 1) = true := decide_eq_true (by omega)
        clear HER HU hup hprv hla0
        go_wp2_with fail
        go_quiet (fail)
        go_wp2_with fail
        go_ret
        exact ⟨rfl, (by repeat (first | exact Ext.refl _ | assumption | refine Ext.drew ?_ | refine Ext.drewN ?_ _ | refine Ext.alloc ?_ _ | refine Ext.trans ?_ (by assumption)))⟩
      have tC : decide (q1 ≤ la) = false := by simpa using hC
      rw [upB_cons (by omega) (by omega)] at hup
      have HUP := hid hup
      clear hup
      rcases Nat.eq_zero_or_pos k with hk0 | hkp
      · have tk1 : decide ((0 : Int) < (k : Int)) = false := decide_eq_false (by omega)
        have tk2 : decide (0 < k) = false := decide_eq_false (by omega)
        have tk3 : ¬ 0 < k := by omega
        have HK0 := hid hk0
        clear hprv hla0 hk0
        go_wp2_with fail
        go_quiet (fail)
        go_wp2_with fail
        go_loop [9, 6] (fun i m => ∃ (t : Nat) (z : Int), i = .int .i64 t ∧ m = .int .u64 z ∧ (t : Int) ≤ q2 ∧ 0 ≤ z ∧ z ≤ 18446744073709551615 ∧ upIn q1 (q2.toNat - t) (ps.drop (k + 1)) z = U) (fun i _ => q2.toNat - (intOf i).toNat)
        case atStart => exact ⟨0, y, rfl, rfl, by omega, hy0, hy1, by simpa using HUP.out⟩
        case round =>
          obtain ⟨t, z, rfl, rfl, ht, hz0, hz1, hu⟩ := hrel
          by_cases hlt2 : (t : Int) < q2
          · rw [show q2.toNat - t = (q2.toNat - (t + 1)) + 1 by omega] at hu
            by_cases hz : z % q1 = 0
            · rw [upIn_yes hz] at hu
              have HU2 := hid hu
              have hdv : 0 ≤ z / q1 ∧ z / q1 ≤ z := ⟨Int.ediv_nonneg (by omega) (by omega), Int.ediv_le_self _ (by omega)⟩
              have bz : (z % q1 != 0) = false := by simpa using hz
              clear hu hz
              go_wp2_with fail
              go_round
              case rel => exact ⟨t + 1, z / q1, by go_num, rfl, by omega, hdv.1, by omega, HU2.out⟩
              case measure => simp [intOf]; omega
            · rw [upIn_no hz] at hu
              obtain rfl : R = false := by rw [← HER.out, HU.out, ← hu]; simp
              have bz : (z % q1 != 0) = true := by simpa using hz
              clear hu hz HER HU HUP
              go_wp2_with fail
              go_ret
              exact ⟨rfl, (by repeat (first | exact Ext.refl _ | assumption | refine Ext.drew ?_ | refine Ext.drewN ?_ _ | refine Ext.alloc ?_ _ | refine Ext.trans ?_ (by assumption)))⟩
          · rw [show q2.toNat - t = 0 by omega, upIn_zero] at hu
            have HU2 := hid hu
            clear hu
            go_wp2_with fail
            go_roundw
            case rel => exact ⟨k + 1, z, by go_num, rfl, by omega, hz0, hz1, by rw [HNX.out]; omega, fun _ => by rw [HNX.out]; omega, by rw [HNX.out]; exact HU2.out, (by repeat (first | exact Ext.refl _ | assumption | refine Ext.drew ?_ | refine Ext.drewN ?_ _ | refine Ext.alloc ?_ _ | refine Ext.trans ?_ (by assumption)))⟩
            case measure => simp [intOf]; omega
      · obtain ⟨kk, rfl⟩ : ∃ kk, k = kk + 1 := ⟨k - 1, by omega⟩
        have g0 := hprv kk rfl
        have tk : decide ((0 : Int) < (kk : Int) + 1) = true := decide_eq_true (by omega)
        clear hprv hla0
        go_wp2_with fail
        go_quiet (fail)
        go_wp2_with fail
        go_loop [9, 6] (fun i m => ∃ (t : Nat) (z : Int), i = .int .i64 t ∧ m = .int .u64 z ∧ (t : Int) ≤ q2 ∧ 0 ≤ z ∧ z ≤ 18446744073709551615 ∧ upIn q1 (q2.toNat - t) (ps.drop (kk + 1 + 1)) z = U) (fun i _ => q2.toNat - (intOf i).toNat)
        case atStart => exact ⟨0, y, rfl, rfl, by omega, hy0, hy1, by simpa using HUP.out⟩
        case round =>
          obtain ⟨t, z, rfl, rfl, ht, hz0, hz1, hu⟩ := hrel
          by_cases hlt2 : (t : Int) < q2
          · rw [show q2.toNat - t = (q2.toNat - (t + 1)) + 1 by omega] at hu
            by_cases hz : z % q1 = 0
            · rw [upIn_yes hz] at hu
              have HU2 := hid hu
              have hdv : 0 ≤ z / q1 ∧ z / q1 ≤ z := ⟨Int.ediv_nonneg (by omega) (by omega), Int.ediv_le_self _ (by omega)⟩
              have bz : (z % q1 != 0) = false := by simpa using hz
              clear hu hz
              go_wp2_with fail
              go_round
              case rel => exact ⟨t + 1, z / q1, by go_num, rfl, by omega, hdv.1, by omega, HU2.out⟩
              case measure => simp [intOf]; omega
            · rw [upIn_no hz] at hu
              obtain rfl : R = false := by rw [← HER.out, HU.out, ← hu]; simp
              have bz : (z % q1 != 0) = true := by simpa using hz
              clear hu hz HER HU HUP
              go_wp2_with fail
              go_ret
              exact ⟨rfl, (by repeat (first | exact Ext.refl _ | assumption | refine Ext.drew ?_ | refine Ext.drewN ?_ _ | refine Ext.alloc ?_ _ | refine Ext.trans ?_ (by assumption)))⟩
          · rw [show q2.toNat - t = 0 by omega, upIn_zero] at hu
            have HU2 := hid hu
            clear hu
            go_wp2_with fail
            go_roundw
            case rel => exact ⟨kk + 1 + 1, z, by go_num, rfl, by omega, hz0, hz1, by rw [HNX.out]; omega, fun _ => by rw [HNX.out]; omega, by rw [HNX.out]; exact HU2.out, (by repeat (first | exact Ext.refl _ | assumption | refine Ext.drew ?_ | refine Ext.drewN ?_ _ | refine Ext.alloc ?_ _ | refine Ext.trans ?_ (by assumption)))⟩
            case measure => simp [intOf]; omega
    · rw [List.drop_eq_nil_of_le (by omega), upB] at hup
      by_cases hy : y = 1
      · have hU1 : U = true := by rw [← hup]; simp [hy]
        subst hU1
        have ty : (y != 1) = false := by simpa using hy
        obtain ⟨pw, epw⟩ : ∃ pw, mpow n r (n - 1) = pw := ⟨_, rfl⟩
        have EPW := hid epw
        have hnr : rightB n = true := rightB_mk ⟨by omega, by omega⟩
        have HNR := hid hnr
        clear hup hy epw hnr
        by_cases hpw : pw = 1
        · have tp : (pw != 1) = false := by simpa using hpw
          have hER := HER.out
          rw [HU.out, EPW.out, decide_eq_true hpw, Bool.true_and, Bool.true_and] at hER
          have HE2 := hid hER
          have hup1 : ∀ q ∈ ps, 1 < q.1 := fun q hq => upB_pos HU.out q hq
          have HUP1 := hid hup1
          clear hER hpw hup1
          go_wp2_with fail
          refine (rPow n r (n - 1) pw _ HNR.out hr0 (by omega) (by omega) (by omega) EPW.out).mono ?_; rintro _ w5 ⟨rfl, rfl⟩
          go_wp2_with fail
          go_loopw [10] (fun ix wl => ∃ k : Nat, ix = .int .i64 k ∧ k ≤ ps.length ∧ (∀ jj, jj < k → (knownB (l.take i) (ps.getD jj (0, 0)).1 && decide (mpow n r ((n - 1) / (ps.getD jj (0, 0)).1) ≠ 1)) = true) ∧ Ext w1 wl) (fun ix _ => ps.length - (intOf ix).toNat)
          case atStart => exact ⟨0, rfl, by omega, by simp, (by repeat (first | exact Ext.refl _ | assumption | refine Ext.drew ?_ | refine Ext.drewN ?_ _ | refine Ext.alloc ?_ _ | refine Ext.trans ?_ (by assumption)))⟩
          case round =>
            obtain ⟨k, rfl, hk, hall, hxw⟩ := hrel
            have HALL := hid hall
            have hB := HB1.out.ext hxw
            have d0 := hB.cell 0; have d1 := hB.cell 1; have d2 := hB.cell 2
            simp only [List.getElem?_toArray, List.getElem?_cons_zero, List.getElem?_cons_succ] at d0 d1 d2
            have hwl := hE1.trans hxw
            have hbs := cell_lt d2
            simp only at hbs
            clear hB hall
            by_cases hlt : k < ps.length
            · obtain ⟨b', of', rfl, hb', hcl⟩ := HP3.out (by omega)
              have g1 := (hwl.cells _ _ hb').trans (hcl k hlt).1
              have hm := getD_mem (xs := ps) (0, 0) hlt
              have hq := HO.out.get hlt
              have hq1 := HUP1.out _ hm
              obtain ⟨q, eq⟩ : ∃ q, ps.getD k (0, 0) = q := ⟨_, rfl⟩
              rw [eq] at g1 hm hq hq1
              have EQ := hid eq; have HM := hid hm
              obtain ⟨q1, q2⟩ := q
              simp only at g1 hq hq1
              clear hcl eq hm
              have htk := (Hv.out.ext hwl).take (i) (by omega)
              have HTK := hid htk
              clear htk
              obtain ⟨kb, ekb⟩ : ∃ kb, knownB (l.take i) q1 = kb := ⟨_, rfl⟩
              obtain ⟨d, ed⟩ : ∃ d, (n - 1) / q1 = d := ⟨_, rfl⟩
              have hdr : 0 ≤ d ∧ d ≤ n - 1 := by rw [← ed]; exact ⟨Int.ediv_nonneg (by omega) (by omega), Int.ediv_le_self _ (by omega)⟩
              obtain ⟨pv, epv⟩ : ∃ pv, mpow n r d = pv := ⟨_, rfl⟩
              have hwrp : IntKind.u64.wrap (n - 1) = n - 1 := by rw [u64_wrap]; omega
              have htd : (n - 1).tdiv q1 = d := by rw [Int.tdiv_eq_ediv_of_nonneg (by omega)]; exact ed
              have hq0 : ¬ q1 = 0 := by omega
              have EKB := hid ekb; have EPV := hid epv; have ED := hid ed
              clear ekb epv
              have hkn : ∀ w0, Proofs w0 (.slice (some ⟨b, off, none⟩) (i) cap) (l.take (i)) → Calls Tryd.prog 31 #[.slice (some ⟨b, off, none⟩) (i) cap, .int .u64 q1] w0 fun e w' => e = .returned (.bool kb) ∧ w0 = w' := fun w0 h0 => by
                have := rKnown _ (l.take (i)) q1 w0 h0
                rw [EKB.out] at this
                exact this
              have HKN := hid hkn
              clear hkn
              have hno : (kb && decide (pv ≠ 1)) = false → R = false := fun h => by
                rw [← HE2.out, List.all_eq_false]
                exact ⟨_, HM.out, by simp only [EKB.out, ED.out, EPV.out, h]; simp⟩
              have HNO := hid hno
              clear hno
              cases kb with
              | false =>
                obtain rfl : R = false := HNO.out rfl
                go_wp2_with fail
                go_quiet ((go_at_call 31; exact quiet_l (HKN.out _ (HTK.out.ext ((Ext.refl _).drewN _)))))
                go_wp2_with fail
                go_ret
                exact ⟨rfl, (by repeat (first | exact Ext.refl _ | assumption | refine Ext.drew ?_ | refine Ext.drewN ?_ _ | refine Ext.alloc ?_ _ | refine Ext.trans ?_ (by assumption)))⟩
              | true =>
                by_cases hpv : pv = 1
                · obtain rfl : R = false := HNO.out (by simp [hpv])
                  have tv : (pv == 1) = true := by simpa using hpv
                  clear hpv
                  go_wp2_with fail
                  go_quiet ((first
                    | (go_at_call 31; exact quiet_l (HKN.out _ (HTK.out.ext ((Ext.refl _).drewN _))))
                    | (go_at_call 36; exact quiet_l (rPow n r d pv _ HNR.out hr0 (by omega) hdr.1 (by omega) EPV.out))))
                  go_wp2_with fail
                  go_ret
                  exact ⟨rfl, (by repeat (first | exact Ext.refl _ | assumption | refine Ext.drew ?_ | refine Ext.drewN ?_ _ | refine Ext.alloc ?_ _ | refine Ext.trans ?_ (by assumption)))⟩
                · have tv : (pv == 1) = false := by simpa using hpv
                  have HPV := hid hpv
                  clear hpv
                  go_wp2_with fail
                  go_quiet ((first
                    | (go_at_call 31; exact quiet_l (HKN.out _ (HTK.out.ext ((Ext.refl _).drewN _))))
                    | (go_at_call 36; exact quiet_l (rPow n r d pv _ HNR.out hr0 (by omega) hdr.1 (by omega) EPV.out))))
                  go_wp2_with fail
                  go_roundw
                  case rel => exact ⟨k + 1, by go_num, by omega, fun j' hj' => by
                    by_cases e : j' = k
                    · rw [e, EQ.out]; simp only [EKB.out, ED.out, EPV.out]; simpa using HPV.out
                    · exact HALL.out j' (by omega), (by repeat (first | exact Ext.refl _ | assumption | refine Ext.drew ?_ | refine Ext.drewN ?_ _ | refine Ext.alloc ?_ _ | refine Ext.trans ?_ (by assumption)))⟩
                  case measure => simp [intOf]; omega
            · have hR : R = true := by
                rw [← HE2.out, List.all_eq_true]
                intro q hq
                obtain ⟨j', hj', rfl⟩ := List.mem_iff_getElem.1 hq
                have := HALL.out j' (by omega)
                simpa [List.getD, List.getElem?_eq_getElem hj'] using this
              subst hR
              go_wp2_with fail
              go_ret
              exact ⟨rfl, (by repeat (first | exact Ext.refl _ | assumption | refine Ext.drew ?_ | refine Ext.drewN ?_ _ | refine Ext.alloc ?_ _ | refine Ext.trans ?_ (by assumption)))⟩
        · have tp : (pw != 1) = true := by simpa using hpw
          obtain rfl : R = false := by rw [← HER.out, EPW.out, decide_eq_false hpw]; simp
          clear hpw
          go_wp2_with fail
          refine (rPow n r (n - 1) pw _ HNR.out hr0 (by omega) (by omega) (by omega) EPW.out).mono ?_; rintro _ w5 ⟨rfl, rfl⟩
          go_wp2_with fail
          go_ret
          exact ⟨rfl, (by repeat (first | exact Ext.refl _ | assumption | refine Ext.drew ?_ | refine Ext.drewN ?_ _ | refine Ext.alloc ?_ _ | refine Ext.trans ?_ (by assumption)))⟩
      · have ty : (y != 1) = true := by simpa using hy
        rw [decide_eq_false hy] at hup
        obtain rfl : R = false := by rw [← HER.out, HU.out, ← hup]; simp
        clear hup hy
        go_wp2_with fail
        go_ret
        exact ⟨rfl, (by repeat (first | exact Ext.refl _ | assumption | refine Ext.drew ?_ | refine Ext.drewN ?_ _ | refine Ext.alloc ?_ _ | refine Ext.trans ?_ (by assumption)))⟩
set_option maxRecDepth 100000 in
set_option maxHeartbeats 2000000 in
theorem rProof_s (v : Value) (l : List Prf) (i : Nat) (w : World) (hv : Proofs w v l) (hl : ∀ f ∈ l, f.Ok) (hi : i < l.length) (hpos : 0 < i) :
    Calls Tryd.prog 27 #[v, .int .i64 i] w (Ret (.bool (refOk l i)) w) := by
  have Hv := hid hv
  obtain ⟨a, cap, rfl, hc1, hc2, hc⟩ := hv
  obtain ⟨b, off, rfl, hb, hcell⟩ := hc (by omega)
  obtain ⟨c1, c2, v', c3, c4⟩ := hcell i hi
  have hf := hl _ (getD_mem .zero hi)
  obtain ⟨R, eR⟩ : ∃ R, refOk l i = R := ⟨_, rfl⟩
  rw [eR]
  unfold refOk at eR
  have hprev : ∀ j, i = j + 1 → w.cell? ⟨b, off + j * 3, none⟩ = some (.int .u64 (l.getD j .zero).num) := fun j e => (hcell j (by omega)).1
  clear hcell hc
  generalize l.getD i .zero = f at *
  obtain ⟨n, r, ps⟩ := f
  obtain ⟨hn0, hn1, hr0, hr1, ho⟩ := hf
  simp only at c1 c2 c4 hn0 hn1 hr0 hr1 ho eR
  have C4 := hid c4
  obtain ⟨pa, pc, rfl, p1, p2, p3⟩ := c4
  have HP3 := hid p3; have HO := hid ho
  clear p3 ho hl
  by_cases h200 : 200 ≤ i
  · have t1 : decide ((200 : Int) ≤ (i : Int)) = true := by simp; omega
    obtain rfl : R = false := by
      rw [← eR, show decide (i < 200) = false from decide_eq_false (by omega)]
      simp
    clear eR
    clear hprev h200
    go_enter Tryd.func27, Tryd.ntmps27
    go_wp2_with fail
    go_quiet (fail)
    go_wp2_with fail
    go_ret
    exact ⟨rfl, (by repeat (first | exact Ext.refl _ | assumption | refine Ext.drew ?_ | refine Ext.drewN ?_ _ | refine Ext.alloc ?_ _ | refine Ext.trans ?_ (by assumption)))⟩
  have t1 : decide ((200 : Int) ≤ (i : Int)) = false := by simp; omega
  have t1n : decide (200 ≤ i) = false := by simp; omega
  have t1m : ¬ 200 ≤ i := h200
  obtain ⟨j, rfl⟩ : ∃ j, i = j + 1 := ⟨i - 1, by omega⟩
  have g0 := hprev j rfl
  have t1j : decide ((200 : Int) ≤ (j : Int) + 1) = false := by simp; omega
  have t9j : decide ((0 : Int) < (j : Int) + 1) = true := decide_eq_true (by omega)
  simp only [Nat.add_sub_cancel] at eR
  generalize (l.getD j .zero).num = pn at *
  clear hprev
  by_cases hprv : n ≤ pn
  · have t2 : decide (n ≤ pn) = true := by simpa using hprv
    obtain rfl : R = false := by
      rw [← eR, show decide (pn < n) = false from decide_eq_false (by omega)]
      simp
    clear eR
    go_enter Tryd.func27, Tryd.ntmps27
    go_wp2_with fail
    go_quiet (fail)
    go_wp2_with fail
    go_ret
    exact ⟨rfl, (by repeat (first | exact Ext.refl _ | assumption | refine Ext.drew ?_ | refine Ext.drewN ?_ _ | refine Ext.alloc ?_ _ | refine Ext.trans ?_ (by assumption)))⟩
  have t2 : decide (n ≤ pn) = false := by simpa using hprv
  by_cases hN2 : n ≤ 2
  · have t3 : decide (n ≤ 2) = true := by simp; omega
    obtain rfl : R = false := by
      rw [← eR, show decide (2 < n) = false from decide_eq_false (by omega)]
      simp
    clear eR
    clear hN2
    go_enter Tryd.func27, Tryd.ntmps27
    go_wp2_with fail
    go_quiet (fail)
    go_wp2_with fail
    go_ret
    exact ⟨rfl, (by repeat (first | exact Ext.refl _ | assumption | refine Ext.drew ?_ | refine Ext.drewN ?_ _ | refine Ext.alloc ?_ _ | refine Ext.trans ?_ (by assumption)))⟩
  have t3 : decide (n ≤ 2) = false := by simp; omega
  by_cases hNm : 9223372036854775807 < n
  · have t4 : decide (9223372036854775807 < n) = true := by simp; omega
    obtain rfl : R = false := by
      rw [← eR, show decide (n ≤ 9223372036854775807) = false from decide_eq_false (by omega)]
      simp
    clear eR
    clear hNm
    go_enter Tryd.func27, Tryd.ntmps27
    go_wp2_with fail
    go_quiet (fail)
    go_wp2_with fail
    go_ret
    exact ⟨rfl, (by repeat (first | exact Ext.refl _ | assumption | refine Ext.drew ?_ | refine Ext.drewN ?_ _ | refine Ext.alloc ?_ _ | refine Ext.trans ?_ (by assumption)))⟩
  have t4 : decide (9223372036854775807 < n) = false := by simp; omega
  by_cases hr00 : r = 0
  · have t5 : (r == 0) = true := by simp; omega
    obtain rfl : R = false := by
      rw [← eR, show decide (r ≠ 0) = false from decide_eq_false (by omega)]
      simp
    clear eR
    clear hr00
    go_enter Tryd.func27, Tryd.ntmps27
    go_wp2_with fail
    go_quiet (fail)
    go_wp2_with fail
    go_ret
    exact ⟨rfl, (by repeat (first | exact Ext.refl _ | assumption | refine Ext.drew ?_ | refine Ext.drewN ?_ _ | refine Ext.alloc ?_ _ | refine Ext.trans ?_ (by assumption)))⟩
  have t5 : (r == 0) = false := by simp; omega
  by_cases hrn : n ≤ r
  · have t6 : decide (n ≤ r) = true := by simp; omega
    obtain rfl : R = false := by
      rw [← eR, show decide (r < n) = false from decide_eq_false (by omega)]
      simp
    clear eR
    clear hrn
    go_enter Tryd.func27, Tryd.ntmps27
    go_wp2_with fail
    go_quiet (fail)
    go_wp2_with fail
    go_ret
    exact ⟨rfl, (by repeat (first | exact Ext.refl _ | assumption | refine Ext.drew ?_ | refine Ext.drewN ?_ _ | refine Ext.alloc ?_ _ | refine Ext.trans ?_ (by assumption)))⟩
  have t6 : decide (n ≤ r) = false := by simp; omega
  by_cases hl0 : ps.length = 0
  · have t7 : ((ps.length : Int) == 0) = true := beq_iff_eq.2 (by omega)
    have t7n : (ps.length == 0) = true := beq_iff_eq.2 (by omega)
    obtain rfl : R = false := by
      rw [← eR, show decide (ps.length ≠ 0) = false from decide_eq_false (by omega)]
      simp
    clear eR
    clear hl0
    go_enter Tryd.func27, Tryd.ntmps27
    go_wp2_with fail
    go_quiet (fail)
    go_wp2_with fail
    go_ret
    exact ⟨rfl, (by repeat (first | exact Ext.refl _ | assumption | refine Ext.drew ?_ | refine Ext.drewN ?_ _ | refine Ext.alloc ?_ _ | refine Ext.trans ?_ (by assumption)))⟩
  have t7 : ((ps.length : Int) == 0) = false := beq_eq_false_iff_ne.2 (by omega)
  have t7n : (ps.length == 0) = false := beq_eq_false_iff_ne.2 (by omega)
  by_cases hl20 : 20 < ps.length
  · have t8 : decide ((20 : Int) < (ps.length : Int)) = true := by simp; omega
    have t8n : decide (20 < ps.length) = true := by simp; omega
    obtain rfl : R = false := by
      rw [← eR, show decide (ps.length ≤ 20) = false from decide_eq_false (by omega)]
      simp
    clear eR
    clear hl20
    go_enter Tryd.func27, Tryd.ntmps27
    go_wp2_with fail
    go_quiet (fail)
    go_wp2_with fail
    go_ret
    exact ⟨rfl, (by repeat (first | exact Ext.refl _ | assumption | refine Ext.drew ?_ | refine Ext.drewN ?_ _ | refine Ext.alloc ?_ _ | refine Ext.trans ?_ (by assumption)))⟩
  have t8 : decide ((20 : Int) < (ps.length : Int)) = false := by simp; omega
  have t8n : decide (20 < ps.length) = false := by simp; omega
  rw [decide_eq_true (show j + 1 < 200 by omega), decide_eq_true (show pn < n by omega), decide_eq_true (show 2 < n by omega), decide_eq_true (show n ≤ 9223372036854775807 by omega), decide_eq_true (show r ≠ 0 by omega), decide_eq_true (show r < n by omega), decide_eq_true (show ps.length ≠ 0 by omega), decide_eq_true (show ps.length ≤ 20 by omega)] at eR
  simp only [Bool.true_and, Bool.or_true, Bool.and_true] at eR
  have HER := hid eR
  obtain ⟨U, eU⟩ : ∃ U, upB 1 ps (n - 1) = U := ⟨_, rfl⟩
  have HU := hid eU
  clear eR eU
  go_enter Tryd.func27, Tryd.ntmps27
  go_wp2_with fail
  go_quiet (fail)
  go_wp2_with fail
  have B1 : Blk ((w.alloc (.cells #[.int .u64 n, .int .u64 r, .slice pa ps.length pc] 42)).drewN nq) w.heap.size 42 #[.int .u64 n, .int .u64 r, .slice pa ps.length pc] := Blk.new w _ _
  have hE1 : Ext w ((w.alloc (.cells #[.int .u64 n, .int .u64 r, .slice pa ps.length pc] 42)).drewN nq) := ((Ext.refl w).alloc _).drewN _
  generalize (w.alloc (.cells #[.int .u64 n, .int .u64 r, .slice pa ps.length pc] 42)).drewN nq = w1 at *
  have HB1 := hid B1
  clear B1
  have hs1 := hE1.size
  go_loopw [7, 6] (fun i m wr => ∃ (k : Nat) (y : Int), i = .int .i64 k ∧ m = .int .u64 y ∧ k ≤ ps.length ∧ 0 ≤ y ∧ y ≤ 18446744073709551615 ∧ 1 ≤ ahead ps k ∧ (0 < k → 2 ≤ ahead ps k) ∧ upB (ahead ps k) (ps.drop k) y = U ∧ Ext w1 wr) (fun i _ _ => ps.length - (intOf i).toNat)
  case atStart => exact ⟨0, n - 1, rfl, rfl, by omega, by omega, by omega, by simp [ahead], by simp, HU.out, Ext.refl _⟩
  case round =>
    obtain ⟨k, y, rfl, rfl, hk, hy0, hy1, hah1, hah2, hup, hxw⟩ := hrel
    have hB := HB1.out.ext hxw
    have d0 := hB.cell 0; have d1 := hB.cell 1; have d2 := hB.cell 2
    simp only [List.getElem?_toArray, List.getElem?_cons_zero, List.getElem?_cons_succ] at d0 d1 d2
    have hwr := hE1.trans hxw
    have hbs := cell_lt d2
    simp only at hbs
    clear hB
    by_cases hlt : k < ps.length
    · have hd : ps.drop k = ps.getD k (0, 0) :: ps.drop (k + 1) := by
        rw [List.drop_eq_getElem_cons hlt]; simp [List.getD, List.getElem?_eq_getElem hlt]
      obtain ⟨b', of', rfl, hb', hcl⟩ := HP3.out (by omega)
      have g1 := (hwr.cells _ _ hb').trans (hcl k hlt).1
      have g2 := (hwr.cells _ _ hb').trans (hcl k hlt).2
      have hq := HO.out.get hlt
      have hprv : ∀ j, k = j + 1 → wr.cell? ⟨b', of' + j * 2, none⟩ = some (.int .u64 (ahead ps k)) := fun j e => by
        subst e
        exact (hwr.cells _ _ hb').trans (hcl j (by omega)).1
      have hnx : ahead ps (k + 1) = (ps.getD k (0, 0)).1 := rfl
      have hbl := cell_lt g1
      rw [hd] at hup
      generalize ps.getD k (0, 0) = q at *
      obtain ⟨q1, q2⟩ := q
      simp only at g1 g2 hq hnx
      clear hcl hd
      have HNX := hid hnx
      clear hnx
      have hla0 : k = 0 → ahead ps k = 1 := fun e => by subst e; rfl
      generalize ahead ps k = la at *
      by_cases hA : q1 < 2
      · have tA : decide (q1 < 2) = true := by simpa using hA
        rw [upB_bad (.inl (by omega))] at hup
        obtain rfl : R = false := by rw [← HER.out, HU.out, ← hup]; simp
        clear HER HU hup hprv
        go_wp2_with fail
        go_quiet (fail)
        go_wp2_with fail
        go_ret
        exact ⟨rfl, (by repeat (first | exact Ext.refl _ | assumption | refine Ext.drew ?_ | refine Ext.drewN ?_ _ | refine Ext.alloc ?_ _ | refine Ext.trans ?_ (by assumption)))⟩
      have tA : decide (q1 < 2) = false := by simpa using hA
      by_cases hB2 : q2 < 1
      · have tB : decide (q2 < 1) = true := by simpa using hB2
        rw [upB_bad (.inr hB2)] at hup
        obtain rfl : R = false := by rw [← HER.out, HU.out, ← hup]; simp
        clear HER HU hup hprv
        go_wp2_with fail
        go_quiet (fail)
        go_wp2_with fail
        go_ret
        exact ⟨rfl, (by repeat (first | exact Ext.refl _ | assumption | refine Ext.drew ?_ | refine Ext.drewN ?_ _ | refine Ext.alloc ?_ _ | refine Ext.trans ?_ (by assumption)))⟩
      have tB : decide (q2 < 1) = false := by simpa using hB2
      by_cases hC : q1 ≤ la
      · rw [upB_bad (.inl hC)] at hup
        obtain rfl : R = false := by rw [← HER.out, HU.out, ← hup]; simp
        have tC : decide (q1 ≤ la) = true := by simpa using hC
        obtain ⟨kk, rfl⟩ : ∃ kk, k = kk + 1 := ⟨k - 1, by have := hla0; omega⟩
        have g0 := hprv kk rfl
        have tk : decide ((0 : Int) < (kk : Int) + 1) = true := decide_eq_true (by omega)
        clear HER HU hup hprv hla0
        go_wp2_with fail
        go_quiet (fail)
        go_wp2_with fail
        go_ret
        exact ⟨rfl, (by repeat (first | exact Ext.refl _ | assumption | refine Ext.drew ?_ | refine Ext.drewN ?_ _ | refine Ext.alloc ?_ _ | refine Ext.trans ?_ (by assumption)))⟩
      have tC : decide (q1 ≤ la) = false := by simpa using hC
      rw [upB_cons (by omega) (by omega)] at hup
      have HUP := hid hup
      clear hup
      rcases Nat.eq_zero_or_pos k with hk0 | hkp
      · have tk1 : decide ((0 : Int) < (k : Int)) = false := decide_eq_false (by omega)
        have tk2 : decide (0 < k) = false := decide_eq_false (by omega)
        have tk3 : ¬ 0 < k := by omega
        have HK0 := hid hk0
        clear hprv hla0 hk0
        go_wp2_with fail
        go_quiet (fail)
        go_wp2_with fail
        go_loop [9, 6] (fun i m => ∃ (t : Nat) (z : Int), i = .int .i64 t ∧ m = .int .u64 z ∧ (t : Int) ≤ q2 ∧ 0 ≤ z ∧ z ≤ 18446744073709551615 ∧ upIn q1 (q2.toNat - t) (ps.drop (k + 1)) z = U) (fun i _ => q2.toNat - (intOf i).toNat)
        case atStart => exact ⟨0, y, rfl, rfl, by omega, hy0, hy1, by simpa using HUP.out⟩
        case round =>
          obtain ⟨t, z, rfl, rfl, ht, hz0, hz1, hu⟩ := hrel
          by_cases hlt2 : (t : Int) < q2
          · rw [show q2.toNat - t = (q2.toNat - (t + 1)) + 1 by omega] at hu
            by_cases hz : z % q1 = 0
            · rw [upIn_yes hz] at hu
              have HU2 := hid hu
              have hdv : 0 ≤ z / q1 ∧ z / q1 ≤ z := ⟨Int.ediv_nonneg (by omega) (by omega), Int.ediv_le_self _ (by omega)⟩
              have bz : (z % q1 != 0) = false := by simpa using hz
              clear hu hz
              go_wp2_with fail
              go_round
              case rel => exact ⟨t + 1, z / q1, by go_num, rfl, by omega, hdv.1, by omega, HU2.out⟩
              case measure => simp [intOf]; omega
            · rw [upIn_no hz] at hu
              obtain rfl : R = false := by rw [← HER.out, HU.out, ← hu]; simp
              have bz : (z % q1 != 0) = true := by simpa using hz
              clear hu hz HER HU HUP
              go_wp2_with fail
              go_ret
              exact ⟨rfl, (by repeat (first | exact Ext.refl _ | assumption | refine Ext.drew ?_ | refine Ext.drewN ?_ _ | refine Ext.alloc ?_ _ | refine Ext.trans ?_ (by assumption)))⟩
          · rw [show q2.toNat - t = 0 by omega, upIn_zero] at hu
            have HU2 := hid hu
            clear hu
            go_wp2_with fail
            go_roundw
            case rel => exact ⟨k + 1, z, by go_num, rfl, by omega, hz0, hz1, by rw [HNX.out]; omega, fun _ => by rw [HNX.out]; omega, by rw [HNX.out]; exact HU2.out, (by repeat (first | exact Ext.refl _ | assumption | refine Ext.drew ?_ | refine Ext.drewN ?_ _ | refine Ext.alloc ?_ _ | refine Ext.trans ?_ (by assumption)))⟩
            case measure => simp [intOf]; omega
      · obtain ⟨kk, rfl⟩ : ∃ kk, k = kk + 1 := ⟨k - 1, by omega⟩
        have g0 := hprv kk rfl
        have tk : decide ((0 : Int) < (kk : Int) + 1) = true := decide_eq_true (by omega)
        clear hprv hla0
        go_wp2_with fail
        go_quiet (fail)
        go_wp2_with fail
        go_loop [9, 6] (fun i m => ∃ (t : Nat) (z : Int), i = .int .i64 t ∧ m = .int .u64 z ∧ (t : Int) ≤ q2 ∧ 0 ≤ z ∧ z ≤ 18446744073709551615 ∧ upIn q1 (q2.toNat - t) (ps.drop (kk + 1 + 1)) z = U) (fun i _ => q2.toNat - (intOf i).toNat)
        case atStart => exact ⟨0, y, rfl, rfl, by omega, hy0, hy1, by simpa using HUP.out⟩
        case round =>
          obtain ⟨t, z, rfl, rfl, ht, hz0, hz1, hu⟩ := hrel
          by_cases hlt2 : (t : Int) < q2
          · rw [show q2.toNat - t = (q2.toNat - (t + 1)) + 1 by omega] at hu
            by_cases hz : z % q1 = 0
            · rw [upIn_yes hz] at hu
              have HU2 := hid hu
              have hdv : 0 ≤ z / q1 ∧ z / q1 ≤ z := ⟨Int.ediv_nonneg (by omega) (by omega), Int.ediv_le_self _ (by omega)⟩
              have bz : (z % q1 != 0) = false := by simpa using hz
              clear hu hz
              go_wp2_with fail
              go_round
              case rel => exact ⟨t + 1, z / q1, by go_num, rfl, by omega, hdv.1, by omega, HU2.out⟩
              case measure => simp [intOf]; omega
            · rw [upIn_no hz] at hu
              obtain rfl : R = false := by rw [← HER.out, HU.out, ← hu]; simp
              have bz : (z % q1 != 0) = true := by simpa using hz
              clear hu hz HER HU HUP
              go_wp2_with fail
              go_ret
              exact ⟨rfl, (by repeat (first | exact Ext.refl _ | assumption | refine Ext.drew ?_ | refine Ext.drewN ?_ _ | refine Ext.alloc ?_ _ | refine Ext.trans ?_ (by assumption)))⟩
          · rw [show q2.toNat - t = 0 by omega, upIn_zero] at hu
            have HU2 := hid hu
            clear hu
            go_wp2_with fail
            go_roundw
            case rel => exact ⟨kk + 1 + 1, z, by go_num, rfl, by omega, hz0, hz1, by rw [HNX.out]; omega, fun _ => by rw [HNX.out]; omega, by rw [HNX.out]; exact HU2.out, (by repeat (first | exact Ext.refl _ | assumption | refine Ext.drew ?_ | refine Ext.drewN ?_ _ | refine Ext.alloc ?_ _ | refine Ext.trans ?_ (by assumption)))⟩
            case measure => simp [intOf]; omega
    · rw [List.drop_eq_nil_of_le (by omega), upB] at hup
      by_cases hy : y = 1
      · have hU1 : U = true := by rw [← hup]; simp [hy]
        subst hU1
        have ty : (y != 1) = false := by simpa using hy
        obtain ⟨pw, epw⟩ : ∃ pw, mpow n r (n - 1) = pw := ⟨_, rfl⟩
        have EPW := hid epw
        have hnr : rightB n = true := rightB_mk ⟨by omega, by omega⟩
        have HNR := hid hnr
        clear hup hy epw hnr
        by_cases hpw : pw = 1
        · have tp : (pw != 1) = false := by simpa using hpw
          have hER := HER.out
          rw [HU.out, EPW.out, decide_eq_true hpw, Bool.true_and, Bool.true_and] at hER
          have HE2 := hid hER
          have hup1 : ∀ q ∈ ps, 1 < q.1 := fun q hq => upB_pos HU.out q hq
          have HUP1 := hid hup1
          clear hER hpw hup1
          go_wp2_with fail
          refine (rPow n r (n - 1) pw _ HNR.out hr0 (by omega) (by omega) (by omega) EPW.out).mono ?_; rintro _ w5 ⟨rfl, rfl⟩
          go_wp2_with fail
          go_loopw [10] (fun ix wl => ∃ k : Nat, ix = .int .i64 k ∧ k ≤ ps.length ∧ (∀ jj, jj < k → (knownB (l.take (j + 1)) (ps.getD jj (0, 0)).1 && decide (mpow n r ((n - 1) / (ps.getD jj (0, 0)).1) ≠ 1)) = true) ∧ Ext w1 wl) (fun ix _ => ps.length - (intOf ix).toNat)
          case atStart => exact ⟨0, rfl, by omega, by simp, (by repeat (first | exact Ext.refl _ | assumption | refine Ext.drew ?_ | refine Ext.drewN ?_ _ | refine Ext.alloc ?_ _ | refine Ext.trans ?_ (by assumption)))⟩
          case round =>
            obtain ⟨k, rfl, hk, hall, hxw⟩ := hrel
            have HALL := hid hall
            have hB := HB1.out.ext hxw
            have d0 := hB.cell 0; have d1 := hB.cell 1; have d2 := hB.cell 2
            simp only [List.getElem?_toArray, List.getElem?_cons_zero, List.getElem?_cons_succ] at d0 d1 d2
            have hwl := hE1.trans hxw
            have hbs := cell_lt d2
            simp only at hbs
            clear hB hall
            by_cases hlt : k < ps.length
            · obtain ⟨b', of', rfl, hb', hcl⟩ := HP3.out (by omega)
              have g1 := (hwl.cells _ _ hb').trans (hcl k hlt).1
              have hm := getD_mem (xs := ps) (0, 0) hlt
              have hq := HO.out.get hlt
              have hq1 := HUP1.out _ hm
              obtain ⟨q, eq⟩ : ∃ q, ps.getD k (0, 0) = q := ⟨_, rfl⟩
              rw [eq] at g1 hm hq hq1
              have EQ := hid eq; have HM := hid hm
              obtain ⟨q1, q2⟩ := q
              simp only at g1 hq hq1
              clear hcl eq hm
              have htk := (Hv.out.ext hwl).take (j + 1) (by omega)
              have HTK := hid htk
              clear htk
              obtain ⟨kb, ekb⟩ : ∃ kb, knownB (l.take (j + 1)) q1 = kb := ⟨_, rfl⟩
              obtain ⟨d, ed⟩ : ∃ d, (n - 1) / q1 = d := ⟨_, rfl⟩
              have hdr : 0 ≤ d ∧ d ≤ n - 1 := by rw [← ed]; exact ⟨Int.ediv_nonneg (by omega) (by omega), Int.ediv_le_self _ (by omega)⟩
              obtain ⟨pv, epv⟩ : ∃ pv, mpow n r d = pv := ⟨_, rfl⟩
              have hwrp : IntKind.u64.wrap (n - 1) = n - 1 := by rw [u64_wrap]; omega
              have htd : (n - 1).tdiv q1 = d := by rw [Int.tdiv_eq_ediv_of_nonneg (by omega)]; exact ed
              have hq0 : ¬ q1 = 0 := by omega
              have EKB := hid ekb; have EPV := hid epv; have ED := hid ed
              clear ekb epv
              have hkn : ∀ w0, Proofs w0 (.slice (some ⟨b, off, none⟩) (j + 1) cap) (l.take (j + 1)) → Calls Tryd.prog 31 #[.slice (some ⟨b, off, none⟩) (j + 1) cap, .int .u64 q1] w0 fun e w' => e = .returned (.bool kb) ∧ w0 = w' := fun w0 h0 => by
                have := rKnown _ (l.take (j + 1)) q1 w0 h0
                rw [EKB.out] at this
                exact this
              have HKN := hid hkn
              clear hkn
              have hno : (kb && decide (pv ≠ 1)) = false → R = false := fun h => by
                rw [← HE2.out, List.all_eq_false]
                exact ⟨_, HM.out, by simp only [EKB.out, ED.out, EPV.out, h]; simp⟩
              have HNO := hid hno
              clear hno
              cases kb with
              | false =>
                obtain rfl : R = false := HNO.out rfl
                go_wp2_with fail
                go_quiet ((go_at_call 31; exact quiet_l (HKN.out _ (HTK.out.ext ((Ext.refl _).drewN _)))))
                go_wp2_with fail
                go_ret
                exact ⟨rfl, (by repeat (first | exact Ext.refl _ | assumption | refine Ext.drew ?_ | refine Ext.drewN ?_ _ | refine Ext.alloc ?_ _ | refine Ext.trans ?_ (by assumption)))⟩
              | true =>
                by_cases hpv : pv = 1
                · obtain rfl : R = false := HNO.out (by simp [hpv])
                  have tv : (pv == 1) = true := by simpa using hpv
                  clear hpv
                  go_wp2_with fail
                  go_quiet ((first
                    | (go_at_call 31; exact quiet_l (HKN.out _ (HTK.out.ext ((Ext.refl _).drewN _))))
                    | (go_at_call 36; exact quiet_l (rPow n r d pv _ HNR.out hr0 (by omega) hdr.1 (by omega) EPV.out))))
                  go_wp2_with fail
                  go_ret
                  exact ⟨rfl, (by repeat (first | exact Ext.refl _ | assumption | refine Ext.drew ?_ | refine Ext.drewN ?_ _ | refine Ext.alloc ?_ _ | refine Ext.trans ?_ (by assumption)))⟩
                · have tv : (pv == 1) = false := by simpa using hpv
                  have HPV := hid hpv
                  clear hpv
                  go_wp2_with fail
                  go_quiet ((first
                    | (go_at_call 31; exact quiet_l (HKN.out _ (HTK.out.ext ((Ext.refl _).drewN _))))
                    | (go_at_call 36; exact quiet_l (rPow n r d pv _ HNR.out hr0 (by omega) hdr.1 (by omega) EPV.out))))
                  go_wp2_with fail
                  go_roundw
                  case rel => exact ⟨k + 1, by go_num, by omega, fun j' hj' => by
                    by_cases e : j' = k
                    · rw [e, EQ.out]; simp only [EKB.out, ED.out, EPV.out]; simpa using HPV.out
                    · exact HALL.out j' (by omega), (by repeat (first | exact Ext.refl _ | assumption | refine Ext.drew ?_ | refine Ext.drewN ?_ _ | refine Ext.alloc ?_ _ | refine Ext.trans ?_ (by assumption)))⟩
                  case measure => simp [intOf]; omega
            · have hR : R = true := by
                rw [← HE2.out, List.all_eq_true]
                intro q hq
                obtain ⟨j', hj', rfl⟩ := List.mem_iff_getElem.1 hq
                have := HALL.out j' (by omega)
                simpa [List.getD, List.getElem?_eq_getElem hj'] using this
              subst hR
              go_wp2_with fail
              go_ret
              exact ⟨rfl, (by repeat (first | exact Ext.refl _ | assumption | refine Ext.drew ?_ | refine Ext.drewN ?_ _ | refine Ext.alloc ?_ _ | refine Ext.trans ?_ (by assumption)))⟩
        · have tp : (pw != 1) = true := by simpa using hpw
          obtain rfl : R = false := by rw [← HER.out, EPW.out, decide_eq_false hpw]; simp
          clear hpw
          go_wp2_with fail
          refine (rPow n r (n - 1) pw _ HNR.out hr0 (by omega) (by omega) (by omega) EPW.out).mono ?_; rintro _ w5 ⟨rfl, rfl⟩
          go_wp2_with fail
          go_ret
          exact ⟨rfl, (by repeat (first | exact Ext.refl _ | assumption | refine Ext.drew ?_ | refine Ext.drewN ?_ _ | refine Ext.alloc ?_ _ | refine Ext.trans ?_ (by assumption)))⟩
      · have ty : (y != 1) = true := by simpa using hy
        rw [decide_eq_false hy] at hup
        obtain rfl : R = false := by rw [← HER.out, HU.out, ← hup]; simp
        clear hup hy
        go_wp2_with fail
        go_ret
        exact ⟨rfl, (by repeat (first | exact Ext.refl _ | assumption | refine Ext.drew ?_ | refine Ext.drewN ?_ _ | refine Ext.alloc ?_ _ | refine Ext.trans ?_ (by assumption)))⟩
theorem rProof (v : Value) (l : List Prf) (i : Nat) (w : World) (hv : Proofs w v l) (hl : ∀ f ∈ l, f.Ok) (hi : i < l.length) :
    Calls Tryd.prog 27 #[v, .int .i64 i] w (Ret (.bool (refOk l i)) w) := by
  rcases Nat.eq_zero_or_pos i with h | h
  · exact rProof_z v l i w hv hl hi h
  · exact rProof_s v l i w hv hl hi h
end Go.Proofs.YtncidpckokclbaaDoor
