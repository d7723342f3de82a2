/- What poly.Add, Sub, Mul and Monic answer to what is right. -/
import Derived.Test.YtgeinhlhhlmciaaJoin
import Derived.Test.YtgeinhlhhlmciaaProd
namespace Go.Proofs.Ytgeinhlhhlmciaa
open Go.RowKit

/-- what a call answers: a polynomial, and OK -/
def RetT (p : Int) (f : Ser p) (w : World) (e : Ending) (w' : World) : Prop := ∃ v zs, e = .returned (.tuple #[v, .int .i64 0]) ∧ Ints .u64 w' v zs ∧ Pol p zs ∧ pol p zs = f ∧ Ext w w'

set_option maxHeartbeats 400000 in
theorem pAdd_yes (p : Int) (v u : Value) (xs ys : List Int) (w : World) (hp : rightB p = true) (hv : Ints .u64 w v xs) (hu : Ints .u64 w u ys) (hx : Pol p xs) (hy : Pol p ys) (hl : xs.length ≤ 512 ∧ ys.length ≤ 512) :
    Calls Try.prog 14 #[.int .u64 p, v, u] w (RetT p (pol p xs + pol p ys) w) := by
  have c1 := hid (polRight_yes p v xs w hp hv hx hl.1)
  have c2 := hid (polRight_yes p u ys w hp hu hy hl.2)
  have c3 := hid (joined_plus p v u xs ys w hp hv hu hx.rng hy.rng (by omega))
  clear hp hv hu hx hy
  go_enter Try.func14, Try.ntmps14
  go_wp2_with (first
    | (go_at_call_of 11 v; refine c1.out.mono ?_; rintro _ _ ⟨rfl, rfl⟩)
    | (go_at_call_of 11 u; refine c2.out.mono ?_; rintro _ _ ⟨rfl, rfl⟩)
    | (go_at_call 34; refine c3.out.mono ?_; rintro _ w1 ⟨v1, zs, rfl, h1, h2, h3, h4⟩))
  go_ret2
  exact ⟨v1, zs, rfl, h1, h2, h3, h4⟩
set_option maxHeartbeats 400000 in
theorem pSub_yes (p : Int) (v u : Value) (xs ys : List Int) (w : World) (hp : rightB p = true) (hv : Ints .u64 w v xs) (hu : Ints .u64 w u ys) (hx : Pol p xs) (hy : Pol p ys) (hl : xs.length ≤ 512 ∧ ys.length ≤ 512) :
    Calls Try.prog 23 #[.int .u64 p, v, u] w (RetT p (pol p xs - pol p ys) w) := by
  have c1 := hid (polRight_yes p v xs w hp hv hx hl.1)
  have c2 := hid (polRight_yes p u ys w hp hu hy hl.2)
  have c3 := hid (joined_minus p v u xs ys w hp hv hu hx.rng hy.rng (by omega))
  clear hp hv hu hx hy
  go_enter Try.func23, Try.ntmps23
  go_wp2_with (first
    | (go_at_call_of 11 v; refine c1.out.mono ?_; rintro _ _ ⟨rfl, rfl⟩)
    | (go_at_call_of 11 u; refine c2.out.mono ?_; rintro _ _ ⟨rfl, rfl⟩)
    | (go_at_call 34; refine c3.out.mono ?_; rintro _ w1 ⟨v1, zs, rfl, h1, h2, h3, h4⟩))
  go_ret2
  exact ⟨v1, zs, rfl, h1, h2, h3, h4⟩
set_option maxHeartbeats 400000 in
theorem pMul_yes (p : Int) (v u : Value) (xs ys : List Int) (w : World) (hp : rightB p = true) (hv : Ints .u64 w v xs) (hu : Ints .u64 w u ys) (hx : Pol p xs) (hy : Pol p ys) (hl : xs.length ≤ 512 ∧ ys.length ≤ 512) (hm : (pol p xs * pol p ys).low 512) :
    Calls Try.prog 13 #[.int .u64 p, v, u] w (RetT p (pol p xs * pol p ys) w) := by
  have c1 := hid (polRight_yes p v xs w hp hv hx hl.1)
  have c2 := hid (polRight_yes p u ys w hp hu hy hl.2)
  have c3 := hid (product_any p v u xs ys w hp hv hu hx.rng hy.rng (by omega))
  have Hm := hid hm
  clear hp hv hu hx hy hm
  go_enter Try.func13, Try.ntmps13
  go_wp2_with (first
    | (go_at_call_of 11 v; refine c1.out.mono ?_; rintro _ _ ⟨rfl, rfl⟩)
    | (go_at_call_of 11 u; refine c2.out.mono ?_; rintro _ _ ⟨rfl, rfl⟩)
    | fail)
  refine c3.out.mono ?_
  rintro _ w1 ⟨v1, zs, rfl, h1, h2, h3, h4⟩
  have H1 := hid h1
  have hzl := h2.len_le (h3 ▸ Hm.out)
  have H2 := hid h2; have H3 := hid h3
  obtain ⟨a1, cap1, rfl, k1, k2, k3⟩ := h1
  clear k3 h2 h3
  go_wp2_with fail
  go_ret2
  exact ⟨_, zs, rfl, H1.out, H2.out, H3.out, h4⟩
set_option maxHeartbeats 400000 in
theorem pMonic_nil (p : Int) (v : Value) (w : World) (hp : rightB p = true) (hv : Ints .u64 w v []) :
    Calls Try.prog 18 #[.int .u64 p, v] w (RetT p 0 w) := by
  have c1 := hid (polRight_yes p v [] w hp hv Pol.nil (by simp))
  have hz := hid (pol_nil (p := p))
  obtain ⟨a, cap, rfl, k1, k2, k3⟩ := hv
  clear hp k3
  go_enter Try.func18, Try.ntmps18
  go_wp2_with (go_at_call 11; refine c1.out.mono ?_; rintro _ _ ⟨rfl, rfl⟩)
  go_ret2
  exact ⟨_, [], rfl, Ints.nil, Pol.nil, hz.out, (by repeat (first | exact Ext.refl _ | assumption | refine Ext.drew ?_ | refine Ext.drewN ?_ _ | refine Ext.alloc ?_ _ | refine Ext.trans ?_ (by assumption)))⟩
set_option maxHeartbeats 400000 in
theorem pMonic_yes (p : Int) (v : Value) (xs : List Int) (w : World) (hp : rightB p = true) (hv : Ints .u64 w v xs) (hx : Pol p xs) (h0 : xs ≠ []) (hl : xs.length ≤ 512) (hu : unitB p (lead xs) = true) :
    Calls Try.prog 18 #[.int .u64 p, v] w (RetT p (pol p xs * Ser.C p (minv p (lead xs))) w) := by
  have hp2 := rightB_true hp
  have hpos := List.length_pos_iff.2 h0
  have hr := hx.lead_range h0
  have c1 := hid (polRight_yes p v xs w hp hv hx hl)
  have c2 := hid (invLast_yes p v xs w hp hv hpos (by omega) hu)
  have hm := minv_range p (lead xs) hp2.1
  obtain ⟨m, em⟩ : ∃ m, minv p (lead xs) = m := ⟨_, rfl⟩
  rw [em] at c2 hm ⊢
  have Hv := hid hv; have Hx := hid hx; have Hp := hid hp
  obtain ⟨a, cap, rfl, k1, k2, k3⟩ := hv
  have b1 : ((xs.length : Int) == 0) = false := by rw [beq_eq_false_iff_ne]; omega
  rw [← pol_single]
  obtain ⟨f, hf⟩ : ∃ f, pol p xs * pol p [m] = f := ⟨_, rfl⟩
  rw [hf]
  have Hf := hid hf
  clear hp hx k3 hr em hu h0 hf
  go_enter Try.func18, Try.ntmps18
  go_wp2_with (first
    | (go_at_call 11; refine c1.out.mono ?_; rintro _ _ ⟨rfl, rfl⟩)
    | (go_at_call 28; refine c2.out.mono ?_; rintro _ w1 ⟨rfl, h1⟩)
    | (go_at_call 33; refine (product_any p _ _ xs [m] _ Hp.out (Hv.out.ext (show Ext w _ from (by repeat (first | exact Ext.refl _ | assumption | refine Ext.drew ?_ | refine Ext.drewN ?_ _ | refine Ext.alloc ?_ _ | refine Ext.trans ?_ (by assumption))))) Ints.new1 Hx.out.rng (Rng.one hm.1 hm.2) (by simp; omega)).mono ?_; rintro _ w2 ⟨v1, zs, rfl, h2, h3, h4, h5⟩))
  go_ret2
  exact ⟨v1, zs, rfl, h2, h3, h4.trans Hf.out, (by repeat (first | exact Ext.refl _ | assumption | refine Ext.drew ?_ | refine Ext.drewN ?_ _ | refine Ext.alloc ?_ _ | refine Ext.trans ?_ (by assumption)))⟩
end Go.Proofs.Ytgeinhlhhlmciaa
