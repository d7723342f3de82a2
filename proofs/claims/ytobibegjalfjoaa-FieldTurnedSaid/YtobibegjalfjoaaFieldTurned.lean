/- FieldTurned: whatever the three numbers, the law answers true, and nothing that was there has turned. No condition. -/
import Derived.Test.YtobibegjalfjoaaAwake01
import Derived.Test.YtobibegjalfjoaaRef01
namespace Go.Proofs.Ytobibegjalfjoaa.fieldTurned
open Go.ChangeShapes Go.WideShapes Go.ChangeAt Go.RowKit

theorem turned {p a b x : Int} (hb0 : 0 ≤ b) (hb : b < p) (h : a * x % p = 1) : b * x % p * a % p = b := by
  rw [mm_l, Int.mul_assoc, ← mm_r, unit_sym h, Int.mul_one, mod_small hb0 hb]
set_option maxRecDepth 100000 in
set_option maxHeartbeats 2000000 in
theorem walk_yes (p a b : Int) (w : World) (hp : rightB p = true) (ha0 : 0 ≤ a) (ha : a < p) (hb0 : 0 ≤ b) (hb : b < p) (hu : unitB p a = true) :
    Calls Try.prog 5 #[.int .u64 p, .int .u64 a, .int .u64 b] w (Ret (.bool true) w) := by
  have hp2 := rightB_true hp
  have Hh : Hid (hasB p [a, b] = true) := hid (hasB_two hp ha hb)
  have hx := unit_inv p a hp2.1 ha0 hu
  have hr := minv_range p a hp2.1
  obtain ⟨x, ex⟩ : ∃ x, minv p a = x := ⟨_, rfl⟩
  rw [ex] at hx hr
  obtain ⟨q, eq, q0, q1⟩ := name_mod (b * x) hp2.1
  have e1 := hid hx
  have e2 : Hid (unitB p x = true) := hid (unit_of (unit_sym hx))
  have e3 : Hid (minv p x = a) := hid (minv_eq ha0 ha (unit_sym hx))
  have e4 : Hid (b * minv p a % p = q) := hid (by rw [ex]; exact eq)
  have e5 : Hid (q * a % p = b) := hid (by rw [← eq]; exact turned hb0 hb hx)
  have e6 := hid (unitB_gcd hu)
  have Ex := hid ex; have Hp := hid hp; have Hu := hid hu
  clear hp hx ex eq hu
  go_enter Try.func5, Try.ntmps5
  go_wp2_with fail
  refine (awake01 _).mono ?_; rintro _ w1 ⟨rfl, h1⟩
  go_wp2_with fail
  refine (has_yes p _ [a, b] _ Ints.new2 (U64s.cons ha0 (by omega) (U64s.one hb0 (by omega))) Hh.out).mono ?_; rintro _ _ ⟨rfl, rfl⟩
  go_wp2_with fail
  refine (inv_as p a x _ Hp.out ha0 ha Hu.out Ex.out).mono ?_; rintro _ w2 ⟨rfl, h2⟩
  go_wp2_with fail
  refine (rGcd_as p a 1 _ (by omega) (by omega) ha0 (by omega) e6.out).mono ?_; rintro _ w3 ⟨rfl, h3⟩
  go_wp2_with fail
  refine (mul_as p a x 1 _ Hp.out ha0 ha hr.1 hr.2 e1.out).mono ?_; rintro _ w4 ⟨rfl, h4⟩
  go_wp2_with fail
  refine (inv_as p x a _ Hp.out hr.1 hr.2 e2.out e3.out).mono ?_; rintro _ w5 ⟨rfl, h5⟩
  go_wp2_with fail
  refine (div_as p b a q _ Hp.out hb0 hb ha0 ha Hu.out e4.out).mono ?_; rintro _ w6 ⟨rfl, h6⟩
  go_wp2_with fail
  refine (mul_as p q a b _ Hp.out q0 q1 ha0 ha e5.out).mono ?_; rintro _ w7 ⟨rfl, h7⟩
  go_wp2_with fail
  go_ret
  exact ⟨rfl, (by repeat (first | exact Ext.refl _ | assumption | refine Ext.drew ?_ | refine Ext.drewN ?_ _ | refine Ext.alloc ?_ _ | refine Ext.trans ?_ (by assumption)))⟩
set_option maxRecDepth 100000 in
set_option maxHeartbeats 2000000 in
theorem walk_zero (p a b : Int) (w : World) (hp : rightB p = true) (ha0 : 0 ≤ a) (ha : a < p) (hb0 : 0 ≤ b) (hb : b < p) (hu : unitB p a = false) :
    Calls Try.prog 5 #[.int .u64 p, .int .u64 a, .int .u64 b] w (Ret (.bool true) w) := by
  have hp2 := rightB_true hp
  have Hh : Hid (hasB p [a, b] = true) := hid (hasB_two hp ha hb)
  have hg := unitB_gcd' hu
  obtain ⟨g, eg⟩ : ∃ g, ((Int.gcd p a : Nat) : Int) = g := ⟨_, rfl⟩
  rw [eg] at hg
  have Eg := hid eg; have Hp := hid hp; have Hu := hid hu
  clear eg hp hu
  go_enter Try.func5, Try.ntmps5
  go_wp2_with fail
  refine (awake01 _).mono ?_; rintro _ w1 ⟨rfl, h1⟩
  go_wp2_with fail
  refine (has_yes p _ [a, b] _ Ints.new2 (U64s.cons ha0 (by omega) (U64s.one hb0 (by omega))) Hh.out).mono ?_; rintro _ _ ⟨rfl, rfl⟩
  go_wp2_with fail
  refine (inv_zero p a _ Hp.out ha0 ha Hu.out).mono ?_; rintro _ w2 ⟨rfl, h2⟩
  go_wp2_with fail
  refine (rGcd_as p a g _ (by omega) (by omega) ha0 (by omega) Eg.out).mono ?_; rintro _ w3 ⟨rfl, h3⟩
  go_wp2_with fail
  go_ret
  exact ⟨rfl, (by repeat (first | exact Ext.refl _ | assumption | refine Ext.drew ?_ | refine Ext.drewN ?_ _ | refine Ext.alloc ?_ _ | refine Ext.trans ?_ (by assumption)))⟩
set_option maxRecDepth 100000 in
set_option maxHeartbeats 2000000 in
theorem walk_no (p a b : Int) (w : World) (hp0 : 0 ≤ p) (hp : p ≤ 18446744073709551615) (ha0 : 0 ≤ a) (ha : a ≤ 18446744073709551615) (hb0 : 0 ≤ b) (hb : b ≤ 18446744073709551615)
    (h : hasB p [a, b] = false) : Calls Try.prog 5 #[.int .u64 p, .int .u64 a, .int .u64 b] w (Ret (.bool true) w) := by
  have Hh := hid h; clear h
  go_enter Try.func5, Try.ntmps5
  go_wp2_with fail
  refine (awake01 _).mono ?_; rintro _ w1 ⟨rfl, h1⟩
  go_wp2_with fail
  refine (has_no p _ [a, b] _ hp0 hp Ints.new2 (U64s.cons ha0 ha (U64s.one hb0 hb)) Hh.out).mono ?_; rintro _ _ ⟨rfl, rfl⟩
  go_wp2_with fail
  go_ret
  exact ⟨rfl, (by repeat (first | exact Ext.refl _ | assumption | refine Ext.drew ?_ | refine Ext.drewN ?_ _ | refine Ext.alloc ?_ _ | refine Ext.trans ?_ (by assumption)))⟩
theorem walk (p a b : Int) (w : World) (hp : (Lit.int .u64 p).wf = true) (ha : (Lit.int .u64 a).wf = true) (hb : (Lit.int .u64 b).wf = true) :
    Calls Try.prog 5 #[.int .u64 p, .int .u64 a, .int .u64 b] w (Ret (.bool true) w) := by
  have hp := u64_wf hp; have ha := u64_wf ha; have hb := u64_wf hb
  cases h : hasB p [a, b] with
  | false => exact walk_no p a b w hp.1 hp.2 ha.1 ha.2 hb.1 hb.2 h
  | true =>
    obtain ⟨h1, h2⟩ := hasB_true h
    cases hu : unitB p a with
    | false => exact walk_zero p a b w h1 ha.1 (h2 a (by simp)) hb.1 (h2 b (by simp)) hu
    | true => exact walk_yes p a b w h1 ha.1 (h2 a (by simp)) hb.1 (h2 b (by simp)) hu

theorem own : ownKnob Try.prog.godebug = none := by kernel_rfl
set_option maxRecDepth 100000 in
theorem lifted (os : Os) (started : os.Started) (H : Type) (enc : TypeId × Value → H) :
    ReturnsInHanded {} Try.checked os 5 .any (Rows.fieldTurnedSpec.pre6 enc Try.prog Try.f5 Rows.fieldTurnedRow.domain false) (Rows.fieldTurnedSpec.post enc Try.prog Try.f5 false true false false) := by
  refine returnsInHanded_of_change (C := Try.checked) own started (by kernel_rfl) Try.func5
    (ChangeSpec.witness6 (enc := enc) (C := Try.checked) false ⟨#[], #[.int .u64 0, .int .u64 0, .int .u64 0], []⟩ 8 (by kernel_rfl) (by kernel_rfl) (by kernel_rfl) (by kernel_rfl)) ?_
  intro W base args ds gs before hval0 hW _ _
  have hval : ∀ (j : Nat) t v, Try.f5.params[j]? = some t → args[j]? = some v → Value.okWide Try.prog W .any base t v := hval0
  have hW' := hW
  obtain ⟨p, q, hA0, hV, rfl, _, _⟩ := hW
  have hA : DataW.TrodAll enc Try.prog W 0 (fun _ => true) true Try.f5.params.toList args.toList ds p := hA0
  rw [Try.params5] at hA hval
  obtain ⟨v0, vs0, d0, ds0, p0, q0, hargs, rfl, rfl, h0, r0⟩ := trodAll_cons hA
  obtain ⟨v1, vs1, d1, ds1, p1, q1, rfl, rfl, rfl, h1, r1⟩ := trodAll_cons r0
  obtain ⟨v2, vs2, d2, ds2, p2, q2, rfl, rfl, rfl, h2, r2⟩ := trodAll_cons r1
  obtain ⟨rfl, rfl, rfl⟩ := trodAll_nil r2
  obtain rfl : args = #[v0, v1, v2] := by cases args; simp_all
  obtain ⟨rfl, rfl⟩ := trodVars_none hV
  obtain ⟨a0, rfl, rfl, rfl, w0⟩ := open_int Try.underlying22 (hval 0 22 v0 rfl rfl) h0
  obtain ⟨a1, rfl, rfl, rfl, w1⟩ := open_int Try.underlying22 (hval 1 22 v1 rfl rfl) h1
  obtain ⟨a2, rfl, rfl, rfl, w2⟩ := open_int Try.underlying22 (hval 2 22 v2 rfl rfl) h2
  refine (walk a0 a1 a2 W w0 w1 w2).mono fun e W' ⟨he, hg⟩ => ⟨_, he, ?_⟩
  exact law_post (by kernel_rfl) (by kernel_rfl) rfl Try.underlying4 rfl rfl hW' hg

/-- the statement -/
theorem proved : Rows.FieldTurnedSaid :=
  OpenClaim.holds_of_wide 5 Try.f5 rfl rfl rfl rfl rfl rfl rfl ⟨rfl, rfl, rfl, rfl, rfl⟩ rfl rfl rfl rfl rfl (by kernel_rfl) Try.func5 (by kernel_rfl)
    (of_decide_eq_true (by kernel_rfl)) (by unfold Func.isWrapper; first | (rw [if_pos (by decide +kernel)]; kernel_rfl) | (rw [if_neg (by decide +kernel)]; exact ⟨rfl, rfl⟩))
    (fun os started H enc _ => lifted os started H enc)
end Go.Proofs.Ytobibegjalfjoaa.fieldTurned
