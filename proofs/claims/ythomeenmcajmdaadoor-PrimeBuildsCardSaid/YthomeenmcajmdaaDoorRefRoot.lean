/- What affidavitref02.Root answers of a number and parts: the least that no part takes to 1. -/
import Derived.Test.YthomeenmcajmdaaDoorBun15
import Derived.Test.YthomeenmcajmdaaDoorPKit
namespace Go.Proofs.YthomeenmcajmdaaDoor
open Go.RowKit Go.Maps

set_option maxRecDepth 100000 in
set_option maxHeartbeats 2000000 in
theorem rRoot (N g : Nat) (v : Value) (ps : List (Int × Int)) (w : World) (h3 : 3 ≤ N) (hN : N < 16777216) (hv : Parts w v ps) (hps : ∀ q ∈ ps, 2 ≤ q.1 ∧ q.1 ≤ N - 1)
    (hg1 : 1 ≤ g) (hg : g < N) (hroot : ∀ q ∈ ps, mpow N g (((N : Int) - 1) / q.1) ≠ 1) (hless : ∀ j : Nat, 1 ≤ j → j < g → ∃ q ∈ ps, mpow N j (((N : Int) - 1) / q.1) = 1) :
    Calls Tryd.prog 10 #[.int .u64 N, v] w (RetD (.int .u64 g) w) := by
  obtain ⟨a, cap, rfl, hc1, hc2, hc⟩ := hv
  have hrt : rightB (N : Int) = true := rightB_mk ⟨by omega, by omega⟩
  have hwrp : IntKind.u64.wrap ((N : Int) - 1) = (N : Int) - 1 := by rw [u64_wrap]; omega
  have Hc := hid hc; have HP := hid hps; have HR := hid hroot; have HL := hid hless; have HRT := hid hrt
  clear hc hps hroot hless hrt
  go_enter Tryd.func10, Tryd.ntmps10
  go_wp2_with fail
  go_loopw [5] (fun i wr => ∃ j : Nat, i = .int .u64 j ∧ 1 ≤ j ∧ j ≤ g ∧ Drw w wr) (fun i _ => g - (intOf i).toNat)
  case atStart => exact ⟨1, rfl, by omega, hg1, Drw.refl _⟩
  case round =>
    obtain ⟨j, rfl, hj1, hj2, hw⟩ := hrel
    have tj : decide (j < N) = true := decide_eq_true (by omega)
    have tj2 : decide ((j : Int) < (N : Int)) = true := decide_eq_true (by omega)
    go_wp2_with fail
    go_loopw [7, 6] (fun i m wi => ∃ (k : Nat) (b : Bool), i = .int .i64 k ∧ m = .bool b ∧ k ≤ ps.length ∧ b = (ps.take k).all (fun q => decide (mpow N j (((N : Int) - 1) / q.1) ≠ 1)) ∧ Drw wr wi) (fun i _ _ => ps.length - (intOf i).toNat)
    case atStart => exact ⟨0, true, rfl, rfl, Nat.zero_le _, rfl, Drw.refl _⟩
    case round =>
      obtain ⟨k, b, rfl, rfl, hk, hb, hx⟩ := hrel
      have HB := hid hb
      clear hb
      by_cases hlt : k < ps.length
      · obtain ⟨b', off, rfl, hb', hcl⟩ := Hc.out (by omega)
        have g1 := ((hw.trans hx).ext.cells _ _ hb').trans (hcl k hlt).1
        have hm := HP.out _ (getD_mem (xs := ps) (0, 0) hlt)
        have htk : (ps.take (k + 1)).all (fun q => decide (mpow N j (((N : Int) - 1) / q.1) ≠ 1)) = ((ps.take k).all (fun q => decide (mpow N j (((N : Int) - 1) / q.1) ≠ 1)) && decide (mpow N j (((N : Int) - 1) / (ps.getD k (0, 0)).1) ≠ 1)) := by
          rw [List.take_succ_eq_append_getElem hlt, List.all_append]; simp [List.getD, List.getElem?_eq_getElem hlt]
        generalize (ps.getD k (0, 0)).1 = q1 at *
        obtain ⟨d, ed⟩ : ∃ d, ((N : Int) - 1) / q1 = d := ⟨_, rfl⟩
        have hdr : 0 ≤ d ∧ d ≤ (N : Int) - 1 := by rw [← ed]; exact ⟨Int.ediv_nonneg (by omega) (by omega), Int.ediv_le_self _ (by omega)⟩
        have htd : ((N : Int) - 1).tdiv q1 = d := by rw [Int.tdiv_eq_ediv_of_nonneg (by omega)]; exact ed
        have hq0 : ¬ q1 = 0 := by omega
        rw [ed, ← HB.out] at htk
        obtain ⟨pv, epv⟩ : ∃ pv, mpow (N : Int) (j : Int) d = pv := ⟨_, rfl⟩
        rw [epv] at htk
        have HTK := hid htk; have EPV := hid epv
        clear htk epv ed hcl
        cases b with
        | false =>
          go_wp2_with fail
          go_roundw
          case rel => exact ⟨k + 1, false, by go_num, rfl, by omega, by rw [HTK.out]; rfl, (by repeat (first | exact Drw.refl _ | assumption | refine Drw.drewN ?_ _ | refine Drw.trans ?_ (by assumption)))⟩
          case measure => simp [intOf]; omega
        | true =>
          obtain ⟨B, eB⟩ : ∃ B, (pv != 1) = B := ⟨_, rfl⟩
          have hB : decide (pv ≠ 1) = B := by rw [← eB, Bool.eq_iff_iff]; simp
          have HB2 := hid hB
          clear hB
          go_wp2_with fail
          refine (rPow (N : Int) (j : Int) d pv _ HRT.out (by omega) (by omega) hdr.1 (by omega) EPV.out).mono ?_; rintro _ w2 ⟨rfl, rfl⟩
          go_wp2_with fail
          go_roundw
          case rel => exact ⟨k + 1, B, by go_num, rfl, by omega, by rw [HTK.out, HB2.out]; rfl, (by repeat (first | exact Drw.refl _ | assumption | refine Drw.drewN ?_ _ | refine Drw.trans ?_ (by assumption)))⟩
          case measure => simp [intOf]; omega
      · obtain rfl : k = ps.length := by omega
        rw [List.take_length] at HB
        by_cases hjg : j = g
        · obtain rfl : b = true := by
            rw [HB.out, List.all_eq_true]
            exact fun q hq => decide_eq_true (by rw [hjg]; exact HR.out q hq)
          have HJ := hid hjg
          clear hjg
          go_wp2_with fail
          go_ret
          exact ⟨by rw [HJ.out]; rfl, (by repeat (first | exact Drw.refl _ | assumption | refine Drw.drewN ?_ _ | refine Drw.trans ?_ (by assumption)))⟩
        · obtain rfl : b = false := by
            rw [HB.out, List.all_eq_false]
            obtain ⟨q, hq, e⟩ := HL.out j hj1 (by omega)
            exact ⟨q, hq, by simp [e]⟩
          go_wp2_with fail
          go_roundw
          case rel => exact ⟨j + 1, by go_num, by omega, by omega, (by repeat (first | exact Drw.refl _ | assumption | refine Drw.drewN ?_ _ | refine Drw.trans ?_ (by assumption)))⟩
          case measure => simp [intOf]; omega
end Go.Proofs.YthomeenmcajmdaaDoor
