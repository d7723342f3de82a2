import Derived.Test.YthomeenmcajmdaaGreatDoorBun07
import Derived.Test.YthomeenmcajmdaaGreatDoorProof
namespace Go.Proofs.YthomeenmcajmdaaGreatDoor
open Go.RowKit Go.Maps
set_option maxHeartbeats 1000000 in
theorem Same_eqD (v u : Value) (ps : List (Int × Int)) (w : World) (hv : Parts w v ps) (hu : Parts w u ps) :
    Calls Tryz.prog 42 #[v, u] w (RetD (.bool true) w) := by
  obtain ⟨a, cap, rfl, hc1, hc2, hc⟩ := hv
  obtain ⟨a', cap', rfl, hd1, hd2, hd⟩ := hu
  have Hc := hid hc; have Hd := hid hd
  clear hc hd
  go_enter Tryz.func42, Tryz.ntmps42
  go_wp2_with fail
  go_loopw [5] (fun i wr => ∃ k : Nat, i = .int .i64 k ∧ k ≤ ps.length ∧ Drw w wr) (fun i _ => ps.length - (intOf i).toNat)
  case atStart => exact ⟨0, rfl, by omega, (by repeat (first | exact Drw.refl _ | assumption | refine Drw.drewN ?_ _ | refine Drw.trans ?_ (by assumption)))⟩
  case round =>
    obtain ⟨k, rfl, hk, hw⟩ := hrel
    by_cases hlt : k < ps.length
    · obtain ⟨b, off, rfl, hb, hcell⟩ := Hc.out (by omega)
      obtain ⟨b', off', rfl, hb', hcell'⟩ := Hd.out (by omega)
      have g1 := (hw.ext.cells _ _ hb).trans (hcell k hlt).1
      have g2 := (hw.ext.cells _ _ hb).trans (hcell k hlt).2
      have g3 := (hw.ext.cells _ _ hb').trans (hcell' k hlt).1
      have g4 := (hw.ext.cells _ _ hb').trans (hcell' k hlt).2
      clear hcell hcell'
      generalize ps.getD k (0, 0) = q at *
      obtain ⟨q1, q2⟩ := q
      simp only at g1 g2 g3 g4
      go_wp2_with fail
      go_quiet (fail)
      go_wp2_with fail
      go_roundw
      case rel => exact ⟨k + 1, by go_num, by omega, (by repeat (first | exact Drw.refl _ | assumption | refine Drw.drewN ?_ _ | refine Drw.trans ?_ (by assumption)))⟩
      case measure => simp [intOf]; omega
    · go_wp2_with fail
      go_ret
      exact ⟨rfl, (by repeat (first | exact Drw.refl _ | assumption | refine Drw.drewN ?_ _ | refine Drw.trans ?_ (by assumption)))⟩
theorem Same_eq (v u : Value) (ps : List (Int × Int)) (w : World) (hv : Parts w v ps) (hu : Parts w u ps) :
    Calls Tryz.prog 42 #[v, u] w (Ret (.bool true) w) := RetD.ret (Same_eqD v u ps w hv hu)
end Go.Proofs.YthomeenmcajmdaaGreatDoor
