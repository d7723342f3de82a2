/- FieldPowers: whatever the numbers, the law answers true, and nothing that was there has turned. No condition. -/
import Derived.Test.YtobibegjalfjoaaAwake01
namespace Go.Proofs.Ytobibegjalfjoaa.fieldPowers
open Go.ChangeShapes Go.WideShapes Go.ChangeAt Go.RowKit

theorem mpow_add (p a : Int) {n m : Int} (hn : 0 ≤ n) (hm : 0 ≤ m) : mpow p a n * mpow p a m % p = mpow p a (n + m) := by
  unfold mpow
  rw [mm_l, mm_r, ← Int.pow_add]
  congr 2; omega
theorem mpow_mul (p a : Int) {n m : Int} (hn : 0 ≤ n) (hm : 0 ≤ m) : mpow p (mpow p a n) m = mpow p a (n * m) := by
  unfold mpow
  rw [pow_mod, ← Int.pow_mul]
  congr 2
  obtain ⟨x, rfl⟩ := Int.eq_ofNat_of_zero_le hn
  obtain ⟨y, rfl⟩ := Int.eq_ofNat_of_zero_le hm
  rw [← Int.natCast_mul]; rfl
theorem mpow_one {p a : Int} (h0 : 0 ≤ a) (h : a < p) : mpow p a 1 = a := by
  show a ^ 1 % p = a
  rw [Int.pow_succ, Int.pow_zero, Int.one_mul]; exact mod_small h0 h

set_option maxRecDepth 100000 in
set_option maxHeartbeats 2000000 in
theorem walk_yes (p a n m : Int) (w : World) (hp : rightB p = true) (ha0 : 0 ≤ a) (ha : a < p) (hn0 : 0 ≤ n) (hn : n ≤ 4294967295) (hm0 : 0 ≤ m) (hm : m ≤ 4294967295) :
    Calls Try.prog 6 #[.int .u64 p, .int .u64 a, .int .u32 n, .int .u32 m] w (Ret (.bool true) w) := by
  have hp2 := rightB_true hp
  have Hh : Hid (hasB p [a] = true) := hid (hasB_one hp ha)
  have hx := mpow_range a n hp2.1
  have hy := mpow_range a m hp2.1
  have hs := mpow_range a (n + m) hp2.1
  have hu := mpow_range a (n * m) hp2.1
  have e1 := hid (mpow_add p a hn0 hm0)
  have e2 := hid (mpow_mul p a hn0 hm0)
  obtain ⟨x, ex⟩ : ∃ x, mpow p a n = x := ⟨_, rfl⟩
  obtain ⟨y, ey⟩ : ∃ y, mpow p a m = y := ⟨_, rfl⟩
  obtain ⟨s, es⟩ : ∃ s, mpow p a (n + m) = s := ⟨_, rfl⟩
  obtain ⟨u, eu⟩ : ∃ u, mpow p a (n * m) = u := ⟨_, rfl⟩
  rw [ex, ey, es] at e1
  rw [ex, eu] at e2
  rw [ex] at hx; rw [ey] at hy; rw [es] at hs; rw [eu] at hu
  have e3 := hid (mpow_zero a hp2.1)
  have e4 := hid (mpow_one ha0 ha)
  have b1 := Int.mul_nonneg hn0 hm0
  have b2 : n * m ≤ 4294967295 * 4294967295 := Int.mul_le_mul hn hm hm0 (by omega)
  have Hp := hid hp; have Ex := hid ex; have Ey := hid ey; have Es := hid es; have Eu := hid eu
  clear hp ex ey es eu
  go_enter Try.func6, Try.ntmps6
  go_wp2_with fail
  refine (awake01 _).mono ?_; rintro _ w1 ⟨rfl, h1⟩
  go_wp2_with fail
  refine (has_yes p _ [a] _ Ints.new1 (U64s.one ha0 (by omega)) Hh.out).mono ?_; rintro _ _ ⟨rfl, rfl⟩
  go_wp2_with fail
  refine (pow_as p a n x _ Hp.out ha0 ha hn0 (by omega) Ex.out).mono ?_; rintro _ w2 ⟨rfl, h2⟩
  go_wp2_with fail
  refine (pow_as p a m y _ Hp.out ha0 ha hm0 (by omega) Ey.out).mono ?_; rintro _ w3 ⟨rfl, h3⟩
  go_wp2_with fail
  refine (mul_as p x y s _ Hp.out hx.1 hx.2 hy.1 hy.2 e1.out).mono ?_; rintro _ w4 ⟨rfl, h4⟩
  go_wp2_with fail
  refine (pow_as p a (n + m) s _ Hp.out ha0 ha (by omega) (by omega) Es.out).mono ?_; rintro _ w5 ⟨rfl, h5⟩
  go_wp2_with fail
  refine (pow_as p x m u _ Hp.out hx.1 hx.2 hm0 (by omega) e2.out).mono ?_; rintro _ w6 ⟨rfl, h6⟩
  go_wp2_with fail
  refine (pow_as p a (n * m) u _ Hp.out ha0 ha (by omega) (by omega) Eu.out).mono ?_; rintro _ w7 ⟨rfl, h7⟩
  go_wp2_with fail
  refine (pow_as p a 0 1 _ Hp.out ha0 ha (by omega) (by omega) e3.out).mono ?_; rintro _ w8 ⟨rfl, h8⟩
  go_wp2_with fail
  refine (pow_as p a 1 a _ Hp.out ha0 ha (by omega) (by omega) e4.out).mono ?_; rintro _ w9 ⟨rfl, h9⟩
  go_wp2_with fail
  go_ret
  exact ⟨rfl, (by repeat (first | exact Ext.refl _ | assumption | refine Ext.drew ?_ | refine Ext.drewN ?_ _ | refine Ext.alloc ?_ _ | refine Ext.trans ?_ (by assumption)))⟩
set_option maxRecDepth 100000 in
set_option maxHeartbeats 2000000 in
theorem walk_no (p a n m : Int) (w : World) (hp0 : 0 ≤ p) (hp : p ≤ 18446744073709551615) (ha0 : 0 ≤ a) (ha : a ≤ 18446744073709551615)
    (h : hasB p [a] = false) : Calls Try.prog 6 #[.int .u64 p, .int .u64 a, .int .u32 n, .int .u32 m] w (Ret (.bool true) w) := by
  have Hh := hid h; clear h
  go_enter Try.func6, Try.ntmps6
  go_wp2_with fail
  refine (awake01 _).mono ?_; rintro _ w1 ⟨rfl, h1⟩
  go_wp2_with fail
  refine (has_no p _ [a] _ hp0 hp Ints.new1 (U64s.one ha0 ha) Hh.out).mono ?_; rintro _ _ ⟨rfl, rfl⟩
  go_wp2_with fail
  go_ret
  exact ⟨rfl, (by repeat (first | exact Ext.refl _ | assumption | refine Ext.drew ?_ | refine Ext.drewN ?_ _ | refine Ext.alloc ?_ _ | refine Ext.trans ?_ (by assumption)))⟩
theorem walk (p a n m : Int) (w : World) (hp : (Lit.int .u64 p).wf = true) (ha : (Lit.int .u64 a).wf = true) (hn : (Lit.int .u32 n).wf = true) (hm : (Lit.int .u32 m).wf = true) :
    Calls Try.prog 6 #[.int .u64 p, .int .u64 a, .int .u32 n, .int .u32 m] w (Ret (.bool true) w) := by
  have hp := u64_wf hp; have ha := u64_wf ha; have hn := u32_wf hn; have hm := u32_wf hm
  cases h : hasB p [a] with
  | false => exact walk_no p a n m w hp.1 hp.2 ha.1 ha.2 h
  | true =>
    obtain ⟨h1, h2⟩ := hasB_true h
    exact walk_yes p a n m w h1 ha.1 (h2 a (by simp)) hn.1 hn.2 hm.1 hm.2

theorem own : ownKnob Try.prog.godebug = none := by kernel_rfl
set_option maxRecDepth 100000 in
theorem lifted (os : Os) (started : os.Started) (H : Type) (enc : TypeId × Value → H) :
    ReturnsInHanded {} Try.checked os 6 .any (Rows.fieldPowersSpec.pre6 enc Try.prog Try.f6 Rows.fieldPowersRow.domain false) (Rows.fieldPowersSpec.post enc Try.prog Try.f6 false true false false) := by
  refine returnsInHanded_of_change (C := Try.checked) own started (by kernel_rfl) Try.func6
    (ChangeSpec.witness6 (enc := enc) (C := Try.checked) false ⟨#[], #[.int .u64 0, .int .u64 0, .int .u32 0, .int .u32 0], []⟩ 8 (by kernel_rfl) (by kernel_rfl) (by kernel_rfl) (by kernel_rfl)) ?_
  intro W base args ds gs before hval0 hW _ _
  have hval : ∀ (j : Nat) t v, Try.f6.params[j]? = some t → args[j]? = some v → Value.okWide Try.prog W .any base t v := hval0
  have hW' := hW
  obtain ⟨p, q, hA0, hV, rfl, _, _⟩ := hW
  have hA : DataW.TrodAll enc Try.prog W 0 (fun _ => true) true Try.f6.params.toList args.toList ds p := hA0
  rw [Try.params6] at hA hval
  obtain ⟨v0, vs0, d0, ds0, p0, q0, hargs, rfl, rfl, h0, r0⟩ := trodAll_cons hA
  obtain ⟨v1, vs1, d1, ds1, p1, q1, rfl, rfl, rfl, h1, r1⟩ := trodAll_cons r0
  obtain ⟨v2, vs2, d2, ds2, p2, q2, rfl, rfl, rfl, h2, r2⟩ := trodAll_cons r1
  obtain ⟨v3, vs3, d3, ds3, p3, q3, rfl, rfl, rfl, h3, r3⟩ := trodAll_cons r2
  obtain ⟨rfl, rfl, rfl⟩ := trodAll_nil r3
  obtain rfl : args = #[v0, v1, v2, v3] := by cases args; simp_all
  obtain ⟨rfl, rfl⟩ := trodVars_none hV
  obtain ⟨a0, rfl, rfl, rfl, w0⟩ := open_int Try.underlying22 (hval 0 22 v0 rfl rfl) h0
  obtain ⟨a1, rfl, rfl, rfl, w1⟩ := open_int Try.underlying22 (hval 1 22 v1 rfl rfl) h1
  obtain ⟨a2, rfl, rfl, rfl, w2⟩ := open_int Try.underlying41 (hval 2 41 v2 rfl rfl) h2
  obtain ⟨a3, rfl, rfl, rfl, w3⟩ := open_int Try.underlying41 (hval 3 41 v3 rfl rfl) h3
  refine (walk a0 a1 a2 a3 W w0 w1 w2 w3).mono fun e W' ⟨he, hg⟩ => ⟨_, he, ?_⟩
  exact law_post (by kernel_rfl) (by kernel_rfl) rfl Try.underlying4 rfl rfl hW' hg

/-- the statement -/
theorem proved : Rows.FieldPowersSaid :=
  OpenClaim.holds_of_wide 6 Try.f6 rfl rfl rfl rfl rfl rfl rfl ⟨rfl, rfl, rfl, rfl, rfl⟩ rfl rfl rfl rfl rfl (by kernel_rfl) Try.func6 (by kernel_rfl)
    (of_decide_eq_true (by kernel_rfl)) (by unfold Func.isWrapper; first | (rw [if_pos (by decide +kernel)]; kernel_rfl) | (rw [if_neg (by decide +kernel)]; exact ⟨rfl, rfl⟩))
    (fun os started H enc _ => lifted os started H enc)
end Go.Proofs.Ytobibegjalfjoaa.fieldPowers
