/- KrylovRight, where the law says nothing. -/
import Derived.Test.YthmmakkldkjnlaaLaw9
import Derived.Test.YthmmakkldkjnlaaBun05
import Derived.Test.YthmmakkldkjnlaaBun14
import Derived.Test.YthmmakkldkjnlaaBun26
namespace Go.Proofs.Ythmmakkldkjnlaa.krylovRight
open Go.ChangeShapes Go.WideShapes Go.ChangeAt Go.RowKit Go.Maps

set_option maxRecDepth 100000 in
set_option maxHeartbeats 2000000 in
theorem walk_skip (p r c : Int) (v u vf : Value) (xs b f : List Int) (many : Int) (w : World) (h0 : 0 ≤ p) (hv : Ints .u64 w v xs) (hu : Ints .u64 w u b) (hfv : Ints .u64 w vf f) (h : 25 < xs.length ∨ 10 < b.length ∨ 10 < f.length ∨ (12 < many ∧ many ≤ 200) ∨ takenB p = false) :
    Calls Try.prog 3 #[.int .u64 p, matV r c v, u, vf, .int .i64 many] w (Ret (.bool true) w) := by
  have C1 := hid fun (W : World) => prime_any09 p W h0
  obtain ⟨T, eT⟩ : ∃ T, takenB p = T := ⟨_, rfl⟩
  rw [eT] at C1 h
  obtain ⟨a, cap, rfl, -, -, -⟩ := hv
  obtain ⟨a', cap', rfl, -, -, -⟩ := hu
  obtain ⟨af, cf, rfl, -, -, -⟩ := hfv
  clear eT
  unfold matV
  have HA := hid (Blk.new w 25 #[.int .i64 r, .int .i64 c, .slice a xs.length cap])
  by_cases g1 : 25 < xs.length
  · clear h
    go_enter Try.func3, Try.ntmps3
    go_wp2_with fail
    refine (awake09 _).mono ?_
    rintro _ w1 ⟨rfl, x1⟩
    obtain ⟨b0, b1, b2⟩ := (HA.out.ext x1).at3
    go_wp2_with fail
    go_ret
    exact ⟨rfl, Ext.trans (by repeat (first | exact Ext.refl _ | assumption | refine Ext.drew ?_ | refine Ext.drewN ?_ _ | refine Ext.alloc ?_ _ | refine Ext.trans ?_ (by assumption))) x1⟩
  by_cases g2 : 10 < b.length
  · clear h
    go_enter Try.func3, Try.ntmps3
    go_wp2_with fail
    refine (awake09 _).mono ?_
    rintro _ w1 ⟨rfl, x1⟩
    obtain ⟨b0, b1, b2⟩ := (HA.out.ext x1).at3
    go_wp2_with fail
    go_ret
    exact ⟨rfl, Ext.trans (by repeat (first | exact Ext.refl _ | assumption | refine Ext.drew ?_ | refine Ext.drewN ?_ _ | refine Ext.alloc ?_ _ | refine Ext.trans ?_ (by assumption))) x1⟩
  by_cases g3 : 10 < f.length
  · clear h
    go_enter Try.func3, Try.ntmps3
    go_wp2_with fail
    refine (awake09 _).mono ?_
    rintro _ w1 ⟨rfl, x1⟩
    obtain ⟨b0, b1, b2⟩ := (HA.out.ext x1).at3
    go_wp2_with fail
    go_ret
    exact ⟨rfl, Ext.trans (by repeat (first | exact Ext.refl _ | assumption | refine Ext.drew ?_ | refine Ext.drewN ?_ _ | refine Ext.alloc ?_ _ | refine Ext.trans ?_ (by assumption))) x1⟩
  by_cases g4 : 12 < many
  · by_cases g5 : many ≤ 200
    · clear h
      go_enter Try.func3, Try.ntmps3
      go_wp2_with fail
      refine (awake09 _).mono ?_
      rintro _ w1 ⟨rfl, x1⟩
      obtain ⟨b0, b1, b2⟩ := (HA.out.ext x1).at3
      go_wp2_with fail
      go_ret
      exact ⟨rfl, Ext.trans (by repeat (first | exact Ext.refl _ | assumption | refine Ext.drew ?_ | refine Ext.drewN ?_ _ | refine Ext.alloc ?_ _ | refine Ext.trans ?_ (by assumption))) x1⟩
    · obtain rfl : T = false := by
        rcases h with h | h | h | h | h
        · omega
        · omega
        · omega
        · omega
        · exact h
      clear h
      go_enter Try.func3, Try.ntmps3
      go_wp2_with fail
      refine (awake09 _).mono ?_
      rintro _ w1 ⟨rfl, x1⟩
      obtain ⟨b0, b1, b2⟩ := (HA.out.ext x1).at3
      go_wp2_with fail
      refine (C1.out _).mono ?_
      rintro _ _ ⟨rfl, rfl⟩
      go_wp2_with fail
      go_ret
      exact ⟨rfl, Ext.trans (by repeat (first | exact Ext.refl _ | assumption | refine Ext.drew ?_ | refine Ext.drewN ?_ _ | refine Ext.alloc ?_ _ | refine Ext.trans ?_ (by assumption))) x1⟩
  · obtain rfl : T = false := by
      rcases h with h | h | h | h | h
      · omega
      · omega
      · omega
      · omega
      · exact h
    clear h
    go_enter Try.func3, Try.ntmps3
    go_wp2_with fail
    refine (awake09 _).mono ?_
    rintro _ w1 ⟨rfl, x1⟩
    obtain ⟨b0, b1, b2⟩ := (HA.out.ext x1).at3
    go_wp2_with fail
    refine (C1.out _).mono ?_
    rintro _ _ ⟨rfl, rfl⟩
    go_wp2_with fail
    go_ret
    exact ⟨rfl, Ext.trans (by repeat (first | exact Ext.refl _ | assumption | refine Ext.drew ?_ | refine Ext.drewN ?_ _ | refine Ext.alloc ?_ _ | refine Ext.trans ?_ (by assumption))) x1⟩
end Go.Proofs.Ythmmakkldkjnlaa.krylovRight
