/- What package prime's functions answer: what a list shows. -/
import Derived.Test.YtncidpckokclbaaDoorField
import Derived.Test.YtncidpckokclbaaDoorPKit
import Derived.Maps.OwnSet
import Derived.Maps.AppendAt
namespace Go.Proofs.YtncidpckokclbaaDoor
open Go.RowKit Go.Maps

/-- a power, or 0 where it is none -/
def powv (n a t : Int) : Int := if hasB n [a] then mpow n a t else 0
theorem hasB_iff {n a : Int} : hasB n [a] = true ↔ (2 ≤ n ∧ n ≤ 9223372036854775807) ∧ a < n := by simp [hasB, rightB]
theorem powv_range (n a t : Int) : 0 ≤ powv n a t ∧ powv n a t ≤ 9223372036854775807 := by
  unfold powv
  split
  · have h := hasB_iff.1 ‹_›
    have := mpow_range (p := n) a t h.1.1
    omega
  · omega

set_option maxHeartbeats 400000 in
theorem power_any (n a t : Int) (w : World) (hn0 : 0 ≤ n) (hn : n ≤ 18446744073709551615) (ha0 : 0 ≤ a) (ha : a ≤ 18446744073709551615) (ht0 : 0 ≤ t) (ht : t ≤ 18446744073709551615) :
    Calls Tryd.prog 50 #[.int .u64 n, .int .u64 a, .int .u64 t] w (Ret (.int .u64 (powv n a t)) w) := by
  cases e : hasB n [a] with
  | true =>
    have e2 : powv n a t = mpow n a t := by simp [powv, e]
    rw [e2]
    have h := hasB_iff.1 e
    have hr := rightB_mk h.1
    have Hr := hid hr
    have h2 := h.2
    clear e e2 h hr
    go_enter Tryd.func50, Tryd.ntmps50
    go_wp2_with fail
    refine (pow_yes _ _ _ _ Hr.out ha0 h2 ht0 ht).mono ?_; rintro _ w1 ⟨rfl, h1⟩
    go_wp2_with fail
    go_ret
    exact ⟨rfl, (by repeat (first | exact Ext.refl _ | assumption | refine Ext.drew ?_ | refine Ext.drewN ?_ _ | refine Ext.alloc ?_ _ | refine Ext.trans ?_ (by assumption)))⟩
  | false =>
    have e2 : powv n a t = 0 := by simp [powv, e]
    rw [e2]
    have E := hid e
    clear e e2
    go_enter Tryd.func50, Tryd.ntmps50
    go_wp2_with fail
    refine (pow_no _ _ _ _ hn0 hn ha0 ha E.out).mono ?_; rintro _ w1 ⟨rfl, h1⟩
    go_wp2_with fail
    go_ret
    exact ⟨rfl, (by repeat (first | exact Ext.refl _ | assumption | refine Ext.drew ?_ | refine Ext.drewN ?_ _ | refine Ext.alloc ?_ _ | refine Ext.trans ?_ (by assumption)))⟩

/-- is the power n - 1 the first that is 1? -/
def rootB (n r : Int) (ps : List (Int × Int)) : Bool := decide (powv n r (n - 1) = 1) && ps.all fun q => decide (powv n r ((n - 1) / q.1) ≠ 1)

set_option maxHeartbeats 1000000 in
theorem isRoot_any (n r : Int) (v : Value) (ps : List (Int × Int)) (w : World) (hn0 : 1 ≤ n) (hn : n ≤ 18446744073709551615) (hr0 : 0 ≤ r) (hr : r ≤ 18446744073709551615) (hv : Parts w v ps) (ho : PartsOk ps) (hp : ∀ q ∈ ps, 1 ≤ q.1) :
    Calls Tryd.prog 41 #[.int .u64 n, .int .u64 r, v] w (Ret (.bool (rootB n r ps)) w) := by
  obtain ⟨a, cap, rfl, hc1, hc2, hc⟩ := hv
  have Hc := hid hc; have Ho := hid ho; have Hp := hid hp
  clear hc ho hp
  obtain ⟨m, em⟩ : ∃ m, powv n r (n - 1) = m := ⟨_, rfl⟩
  have Em := hid em
  have hm := powv_range n r (n - 1)
  rw [em] at hm
  clear em
  by_cases h1 : m = 1
  · subst h1
    go_enter Tryd.func41, Tryd.ntmps41
    go_wp2_with fail
    refine (power_any n r (n - 1) _ (by omega) hn hr0 hr (by omega) (by omega)).mono ?_; rintro _ w1 ⟨rfl, x1⟩
    rw [Em.out]
    go_wp2_with fail
    go_loopw [17] (fun i wr => ∃ (k : Nat), i = .int .i64 k ∧ k ≤ ps.length ∧ (∀ j, j < k → powv n r ((n - 1) / (ps.getD j (0, 0)).1) ≠ 1) ∧ Ext w wr) (fun i _ => ps.length - (intOf i).toNat)
    case atStart => exact ⟨0, rfl, by omega, by simp, (by repeat (first | exact Ext.refl _ | assumption | refine Ext.drew ?_ | refine Ext.drewN ?_ _ | refine Ext.alloc ?_ _ | refine Ext.trans ?_ (by assumption)))⟩
    case round =>
      obtain ⟨k, rfl, hk, hall, hw⟩ := hrel
      have Ha := hid hall; clear hall
      by_cases hlt : k < ps.length
      · obtain ⟨b, off, rfl, hb, hcell⟩ := Hc.out (by omega)
        have g1 := (hw.cells _ _ hb).trans (hcell k hlt).1
        have g2 := (hw.cells _ _ hb).trans (hcell k hlt).2
        have hg := Ho.out.get hlt
        have hg1 := Hp.out _ (getD_mem (0, 0) hlt)
        clear hcell
        obtain ⟨q, eq⟩ : ∃ q, ps.getD k (0, 0) = q := ⟨_, rfl⟩
        obtain ⟨q1, q2⟩ := q
        rw [eq] at g1 g2 hg hg1
        have Eq := hid eq; clear eq
        simp only at g1 g2 hg hg1
        have hd : 0 ≤ (n - 1) / q1 ∧ (n - 1) / q1 ≤ n - 1 := ⟨Int.ediv_nonneg (by omega) (by omega), Int.ediv_le_self _ (by omega)⟩
        obtain ⟨x, ex⟩ : ∃ x, powv n r ((n - 1) / q1) = x := ⟨_, rfl⟩
        have hx := powv_range n r ((n - 1) / q1)
        rw [ex] at hx
        obtain ⟨y, ey⟩ : ∃ y, (n - 1) / q1 = y := ⟨_, rfl⟩
        rw [ey] at ex hd
        have Ex := hid ex; have Ey := hid ey
        clear ex
        by_cases h1 : x = 1
        · subst h1
          go_wp2_with fail
          refine (power_any n r y _ (by omega) hn hr0 hr hd.1 (by omega)).mono ?_; rintro _ w2 ⟨rfl, x2⟩
          rw [Ex.out]
          go_wp2_with fail
          go_ret
          refine ⟨ret_bool ?_, (by repeat (first | exact Ext.refl _ | assumption | refine Ext.drew ?_ | refine Ext.drewN ?_ _ | refine Ext.alloc ?_ _ | refine Ext.trans ?_ (by assumption)))⟩
          have : (ps.all fun q => decide (powv n r ((n - 1) / q.1) ≠ 1)) = false := by
            rw [List.all_eq_false]
            exact ⟨_, getD_mem (0, 0) hlt, by rw [Eq.out]; simp [Ey.out, Ex.out]⟩
          simp only [rootB, this, Bool.and_false]
        · go_wp2_with fail
          refine (power_any n r y _ (by omega) hn hr0 hr hd.1 (by omega)).mono ?_; rintro _ w2 ⟨rfl, x2⟩
          rw [Ex.out]
          go_wp2_with fail
          go_roundw
          case rel => exact ⟨k + 1, by go_num, by omega, fun j hj => by
            by_cases e : j = k
            · rw [e, Eq.out]; simp only [Ey.out, Ex.out]; exact h1
            · exact Ha.out j (by omega), (by repeat (first | exact Ext.refl _ | assumption | refine Ext.drew ?_ | refine Ext.drewN ?_ _ | refine Ext.alloc ?_ _ | refine Ext.trans ?_ (by assumption)))⟩
          case measure => simp [intOf]; omega
      · have : (ps.all fun q => decide (powv n r ((n - 1) / q.1) ≠ 1)) = true := by
          rw [List.all_eq_true]
          intro q hq
          obtain ⟨j, hj, rfl⟩ := List.mem_iff_getElem.1 hq
          have := Ha.out j (by omega)
          simpa [List.getD, List.getElem?_eq_getElem hj] using this
        have H := hid this; clear this
        go_wp2_with fail
        go_ret
        refine ⟨ret_bool ?_, (by repeat (first | exact Ext.refl _ | assumption | refine Ext.drew ?_ | refine Ext.drewN ?_ _ | refine Ext.alloc ?_ _ | refine Ext.trans ?_ (by assumption)))⟩
        simp only [rootB, H.out, Em.out, Bool.and_true, decide_true]
  · go_enter Tryd.func41, Tryd.ntmps41
    go_wp2_with fail
    refine (power_any n r (n - 1) _ (by omega) hn hr0 hr (by omega) (by omega)).mono ?_; rintro _ w1 ⟨rfl, x1⟩
    rw [Em.out]
    go_wp2_with fail
    go_ret
    refine ⟨ret_bool ?_, (by repeat (first | exact Ext.refl _ | assumption | refine Ext.drew ?_ | refine Ext.drewN ?_ _ | refine Ext.alloc ?_ _ | refine Ext.trans ?_ (by assumption)))⟩
    simp only [rootB, Em.out, h1, decide_false, Bool.false_and]

/-- n divided by q, t times; none where it doesn't go -/
def divs (q : Int) : Nat → Int → Option Int
  | 0, n => some n
  | t + 1, n => if n % q = 0 then divs q t (n / q) else none
/-- do parts rise above last, and is n their product? -/
def upB : Int → List (Int × Int) → Int → Bool
  | _, [], n => decide (n = 1)
  | last, (q, t) :: ps, n => if q ≤ last ∨ t < 1 then false else match divs q t.toNat n with
    | none => false
    | some m => upB q ps m
/-- the rest of it, while one part is divided out -/
def upIn (q : Int) (t : Nat) (ps : List (Int × Int)) (n : Int) : Bool := match divs q t n with
  | none => false
  | some m => upB q ps m
theorem upB_cons {last q t n : Int} {ps : List (Int × Int)} (h : last < q) (ht : 1 ≤ t) : upB last ((q, t) :: ps) n = upIn q t.toNat ps n := by
  rw [upB, if_neg (by omega)]; rfl
theorem upB_bad {last q t n : Int} {ps : List (Int × Int)} (h : q ≤ last ∨ t < 1) : upB last ((q, t) :: ps) n = false := by
  rw [upB, if_pos h]
theorem upIn_zero (q n : Int) (ps : List (Int × Int)) : upIn q 0 ps n = upB q ps n := rfl
theorem upIn_yes {q n : Int} {t : Nat} {ps : List (Int × Int)} (h : n % q = 0) : upIn q (t + 1) ps n = upIn q t ps (n / q) := by
  simp only [upIn, divs, if_pos h]
theorem upIn_no {q n : Int} {t : Nat} {ps : List (Int × Int)} (h : n % q ≠ 0) : upIn q (t + 1) ps n = false := by
  simp only [upIn, divs, if_neg h]
theorem upB_pos : ∀ {ps : List (Int × Int)} {last n : Int}, upB last ps n = true → ∀ q ∈ ps, last < q.1
  | [], _, _, _ => by simp
  | (q, t) :: ps, last, n, h => by
    by_cases hb : q ≤ last ∨ t < 1
    · rw [upB_bad hb] at h; cases h
    · rw [upB, if_neg hb] at h
      cases e : divs q t.toNat n with
      | none => rw [e] at h; cases h
      | some m =>
        rw [e] at h
        intro x hx
        rcases List.mem_cons.1 hx with rfl | hx
        · simp only; omega
        · have := upB_pos h x hx; omega

set_option maxHeartbeats 1000000 in
theorem makeUp_any (v : Value) (ps : List (Int × Int)) (n0 : Int) (w : World) (hn0 : 0 ≤ n0) (hn : n0 ≤ 18446744073709551615) (hv : Parts w v ps) (ho : PartsOk ps) :
    Calls Tryd.prog 40 #[v, .int .u64 n0] w (Ret (.bool (upB 1 ps n0)) w) := by
  obtain ⟨a, cap, rfl, hc1, hc2, hc⟩ := hv
  have Hc := hid hc; have Ho := hid ho
  clear hc ho
  obtain ⟨R, eR⟩ : ∃ R, upB 1 ps n0 = R := ⟨_, rfl⟩
  rw [eR]
  have ER := hid eR; clear eR
  go_enter Tryd.func40, Tryd.ntmps40
  go_wp2_with fail
  go_loopw [10, 1, 5] (fun i m l wr => ∃ (k : Nat) (n last : Int), i = .int .i64 k ∧ m = .int .u64 n ∧ l = .int .u64 last ∧ k ≤ ps.length ∧ 0 ≤ n ∧ n ≤ 18446744073709551615 ∧ 1 ≤ last ∧ last ≤ 18446744073709551615 ∧ upB last (ps.drop k) n = R ∧ Ext w wr) (fun i _ _ _ => ps.length - (intOf i).toNat)
  case atStart => exact ⟨0, n0, 1, rfl, rfl, rfl, by omega, hn0, hn, by omega, by omega, ER.out, (by repeat (first | exact Ext.refl _ | assumption | refine Ext.drew ?_ | refine Ext.drewN ?_ _ | refine Ext.alloc ?_ _ | refine Ext.trans ?_ (by assumption)))⟩
  case round =>
    obtain ⟨k, n, last, rfl, rfl, rfl, hk, hn0, hn, hl0, hl, hR, hw⟩ := hrel
    have HR := hid hR; clear hR
    by_cases hlt : k < ps.length
    · obtain ⟨b, off, rfl, hb, hcell⟩ := Hc.out (by omega)
      have g1 := (hw.cells _ _ hb).trans (hcell k hlt).1
      have g2 := (hw.cells _ _ hb).trans (hcell k hlt).2
      have hg := Ho.out.get hlt
      have hd : ps.drop k = ps.getD k (0, 0) :: ps.drop (k + 1) := by
        rw [List.drop_eq_getElem_cons hlt]; simp [List.getD, List.getElem?_eq_getElem hlt]
      clear hcell
      generalize ps.getD k (0, 0) = q at *
      obtain ⟨q1, q2⟩ := q
      simp only at g1 g2 hg
      have Hd := hid hd; clear hd
      by_cases hbad : q1 ≤ last ∨ q2 < 1
      · have e : R = false := by rw [← HR.out, Hd.out, upB_bad hbad]
        rw [e]
        have He := hid e; clear e HR ER
        rcases Int.lt_or_le last q1 with h1 | h1
        · have h2 : q2 < 1 := by omega
          clear hbad
          go_wp2_with fail
          go_ret
          exact ⟨rfl, (by repeat (first | exact Ext.refl _ | assumption | refine Ext.drew ?_ | refine Ext.drewN ?_ _ | refine Ext.alloc ?_ _ | refine Ext.trans ?_ (by assumption)))⟩
        · clear hbad
          go_wp2_with fail
          go_ret
          exact ⟨rfl, (by repeat (first | exact Ext.refl _ | assumption | refine Ext.drew ?_ | refine Ext.drewN ?_ _ | refine Ext.alloc ?_ _ | refine Ext.trans ?_ (by assumption)))⟩
      · have h1 : last < q1 := by omega
        have h2 : 1 ≤ q2 := by omega
        clear hbad
        have e := HR.out
        rw [Hd.out, upB_cons h1 h2] at e
        have He := hid e; clear e
        go_wp2_with fail
        go_loop [27, 1] (fun i m => ∃ (j : Nat) (n' : Int), i = .int .i64 j ∧ m = .int .u64 n' ∧ (j : Int) ≤ q2 ∧ 0 ≤ n' ∧ n' ≤ 18446744073709551615 ∧ upIn q1 (q2.toNat - j) (ps.drop (k + 1)) n' = R) (fun i _ => q2.toNat - (intOf i).toNat)
        case atStart => exact ⟨0, n, rfl, rfl, by omega, hn0, hn, He.out⟩
        case round =>
          obtain ⟨j, n', rfl, rfl, hj, hm0, hm, hI⟩ := hrel
          have HI := hid hI; clear hI He HR Hd
          by_cases hlj : (j : Int) < q2
          · have ej : q2.toNat - j = (q2.toNat - (j + 1)) + 1 := by omega
            have hI := HI.out
            rw [ej] at hI
            by_cases hz : n' % q1 = 0
            · rw [upIn_yes hz] at hI
              have HI2 := hid hI; clear hI
              have hq : 0 ≤ n' / q1 ∧ n' / q1 ≤ n' := ⟨Int.ediv_nonneg (by omega) (by omega), Int.ediv_le_self _ (by omega)⟩
              go_wp2_with fail
              go_round
              case rel => exact ⟨j + 1, n' / q1, by go_num, rfl, by omega, hq.1, by omega, HI2.out⟩
              case measure => simp [intOf]; omega
            · rw [upIn_no hz] at hI
              subst hI
              have hz0 := hid hz
              clear HI ER
              obtain ⟨z, ez⟩ : ∃ z, n' % q1 = z := ⟨_, rfl⟩
              rw [ez] at hz
              go_wp2_with fail
              go_ret
              exact ⟨rfl, (by repeat (first | exact Ext.refl _ | assumption | refine Ext.drew ?_ | refine Ext.drewN ?_ _ | refine Ext.alloc ?_ _ | refine Ext.trans ?_ (by assumption)))⟩
          · have ej : q2.toNat - j = 0 := by omega
            have hI := HI.out
            rw [ej, upIn_zero] at hI
            have HI2 := hid hI; clear hI
            go_wp2_with fail
            go_roundw
            case rel => exact ⟨k + 1, n', q1, by go_num, rfl, rfl, by omega, hm0, hm, by omega, by omega, HI2.out, (by repeat (first | exact Ext.refl _ | assumption | refine Ext.drew ?_ | refine Ext.drewN ?_ _ | refine Ext.alloc ?_ _ | refine Ext.trans ?_ (by assumption)))⟩
            case measure => simp [intOf]; omega
    · have e := HR.out
      rw [List.drop_eq_nil_of_le (by omega), upB] at e
      have He := hid e; clear e
      go_wp2_with fail
      go_ret
      exact ⟨ret_bool (by rw [← He.out]; rfl), (by repeat (first | exact Ext.refl _ | assumption | refine Ext.drew ?_ | refine Ext.drewN ?_ _ | refine Ext.alloc ?_ _ | refine Ext.trans ?_ (by assumption)))⟩
end Go.Proofs.YtncidpckokclbaaDoor
