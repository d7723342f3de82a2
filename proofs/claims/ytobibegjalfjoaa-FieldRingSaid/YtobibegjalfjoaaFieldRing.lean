/- FieldRing: whatever the four numbers, the law answers true, and nothing that was there has turned. No condition. -/
import Derived.Test.YtobibegjalfjoaaAwake01
namespace Go.Proofs.Ytobibegjalfjoaa.fieldRing
open Go.ChangeShapes Go.WideShapes Go.ChangeAt Go.RowKit

set_option maxRecDepth 100000 in
set_option maxHeartbeats 2000000 in
theorem walk_yes (p a b c : Int) (w : World) (hp : rightB p = true) (ha0 : 0 ≤ a) (ha : a < p) (hb0 : 0 ≤ b) (hb : b < p) (hc0 : 0 ≤ c) (hc : c < p) :
    Calls Try.prog 4 #[.int .u64 p, .int .u64 a, .int .u64 b, .int .u64 c] w (Ret (.bool true) w) := by
  have hp2 := rightB_true hp
  have Hh : Hid (hasB p [a, b, c] = true) := hid (hasB_mk hp (by simpa using ⟨ha, hb, hc⟩))
  obtain ⟨ab, eab, ab0, ab1⟩ := name_mod (a + b) hp2.1
  obtain ⟨x, ex, x0, x1⟩ := name_mod (ab + c) hp2.1
  obtain ⟨bc, ebc, bc0, bc1⟩ := name_mod (b + c) hp2.1
  obtain ⟨m, em, m0, m1⟩ := name_mod (a * b) hp2.1
  obtain ⟨u, eu, u0, u1⟩ := name_mod (m * c) hp2.1
  obtain ⟨k, ek, k0, k1⟩ := name_mod (b * c) hp2.1
  obtain ⟨ac, eac, ac0, ac1⟩ := name_mod (a * c) hp2.1
  obtain ⟨l, el, l0, l1⟩ := name_mod (a * bc) hp2.1
  have eba : Hid ((b + a) % p = ab) := hid (by rw [Int.add_comm]; exact eab)
  have ey : Hid ((a + bc) % p = x) := hid (by rw [← ebc, ma_r, ← ex, ← eab, ma_l, Int.add_assoc])
  have en : Hid (b * a % p = m) := hid (by rw [Int.mul_comm]; exact em)
  have ev : Hid (a * k % p = u) := hid (by rw [← ek, mm_r, ← eu, ← em, mm_l, Int.mul_assoc])
  have er : Hid ((m + ac) % p = l) := hid (by rw [← em, ← eac, ma_l, ma_r, ← el, ← ebc, mm_r, Int.mul_add])
  have es : Hid ((ab - b) % p = a) := hid (by rw [← eab, ms_l, show a + b - b = a by omega]; exact mod_small ha0 ha)
  have Hl : Hid (hasB p [ab, x, m, u, l, a] = true) := hid (hasB_mk hp (by simpa using ⟨ab1, x1, m1, u1, l1, ha⟩))
  have Hp := hid hp; have Eab := hid eab; have Ex := hid ex; have Ebc := hid ebc; have Em := hid em; have Eu := hid eu; have Ek := hid ek; have Eac := hid eac; have El := hid el
  clear hp eab ex ebc em eu ek eac el
  go_enter Try.func4, Try.ntmps4
  go_wp2_with fail
  refine (awake01 _).mono ?_; rintro _ w1 ⟨rfl, h1⟩
  go_wp2_with fail
  refine (has_yes p _ [a, b, c] _ Ints.new3 (U64s.cons ha0 (by omega) (U64s.cons hb0 (by omega) (U64s.one hc0 (by omega)))) Hh.out).mono ?_; rintro _ _ ⟨rfl, rfl⟩
  go_wp2_with fail
  refine (add_as p a b ab _ Hp.out ha0 ha hb0 hb Eab.out).mono ?_; rintro _ w2 ⟨rfl, h2⟩
  go_wp2_with fail
  refine (add_as p b a ab _ Hp.out hb0 hb ha0 ha eba.out).mono ?_; rintro _ w3 ⟨rfl, h3⟩
  go_wp2_with fail
  refine (add_as p ab c x _ Hp.out ab0 ab1 hc0 hc Ex.out).mono ?_; rintro _ w4 ⟨rfl, h4⟩
  go_wp2_with fail
  refine (add_as p b c bc _ Hp.out hb0 hb hc0 hc Ebc.out).mono ?_; rintro _ w5 ⟨rfl, h5⟩
  go_wp2_with fail
  refine (add_as p a bc x _ Hp.out ha0 ha bc0 bc1 ey.out).mono ?_; rintro _ w6 ⟨rfl, h6⟩
  go_wp2_with fail
  refine (mul_as p a b m _ Hp.out ha0 ha hb0 hb Em.out).mono ?_; rintro _ w7 ⟨rfl, h7⟩
  go_wp2_with fail
  refine (mul_as p b a m _ Hp.out hb0 hb ha0 ha en.out).mono ?_; rintro _ w8 ⟨rfl, h8⟩
  go_wp2_with fail
  refine (mul_as p m c u _ Hp.out m0 m1 hc0 hc Eu.out).mono ?_; rintro _ w9 ⟨rfl, h9⟩
  go_wp2_with fail
  refine (mul_as p b c k _ Hp.out hb0 hb hc0 hc Ek.out).mono ?_; rintro _ w10 ⟨rfl, h10⟩
  go_wp2_with fail
  refine (mul_as p a k u _ Hp.out ha0 ha k0 k1 ev.out).mono ?_; rintro _ w11 ⟨rfl, h11⟩
  go_wp2_with fail
  refine (mul_as p a c ac _ Hp.out ha0 ha hc0 hc Eac.out).mono ?_; rintro _ w12 ⟨rfl, h12⟩
  go_wp2_with fail
  refine (mul_as p a bc l _ Hp.out ha0 ha bc0 bc1 El.out).mono ?_; rintro _ w13 ⟨rfl, h13⟩
  go_wp2_with fail
  refine (add_as p m ac l _ Hp.out m0 m1 ac0 ac1 er.out).mono ?_; rintro _ w14 ⟨rfl, h14⟩
  go_wp2_with fail
  refine (sub_as p ab b a _ Hp.out ab0 ab1 hb0 hb es.out).mono ?_; rintro _ w15 ⟨rfl, h15⟩
  go_wp2_with fail
  refine (has_yes p _ [ab, x, m, u, l, a] _ (Ints.lit [ab, x, m, u, l, a] (by simp) rfl) (by intro z hz; simp at hz; omega) Hl.out).mono ?_; rintro _ _ ⟨rfl, rfl⟩
  go_wp2_with fail
  go_ret
  exact ⟨rfl, (by repeat (first | exact Ext.refl _ | assumption | refine Ext.drew ?_ | refine Ext.drewN ?_ _ | refine Ext.alloc ?_ _ | refine Ext.trans ?_ (by assumption)))⟩

set_option maxRecDepth 100000 in
set_option maxHeartbeats 1000000 in
theorem walk_no (p a b c : Int) (w : World) (hp0 : 0 ≤ p) (hp : p ≤ 18446744073709551615) (ha0 : 0 ≤ a) (ha : a ≤ 18446744073709551615) (hb0 : 0 ≤ b) (hb : b ≤ 18446744073709551615) (hc0 : 0 ≤ c) (hc : c ≤ 18446744073709551615)
    (h : hasB p [a, b, c] = false) : Calls Try.prog 4 #[.int .u64 p, .int .u64 a, .int .u64 b, .int .u64 c] w (Ret (.bool true) w) := by
  have Hh := hid h; clear h
  go_enter Try.func4, Try.ntmps4
  go_wp2_with fail
  refine (awake01 _).mono ?_; rintro _ w1 ⟨rfl, h1⟩
  go_wp2_with fail
  refine (has_no p _ [a, b, c] _ hp0 hp Ints.new3 (U64s.cons ha0 ha (U64s.cons hb0 hb (U64s.one hc0 hc))) Hh.out).mono ?_; rintro _ _ ⟨rfl, rfl⟩
  go_wp2_with fail
  go_ret
  exact ⟨rfl, (by repeat (first | exact Ext.refl _ | assumption | refine Ext.drew ?_ | refine Ext.drewN ?_ _ | refine Ext.alloc ?_ _ | refine Ext.trans ?_ (by assumption)))⟩

theorem walk (p a b c : Int) (w : World) (hp : (Lit.int .u64 p).wf = true) (ha : (Lit.int .u64 a).wf = true) (hb : (Lit.int .u64 b).wf = true) (hc : (Lit.int .u64 c).wf = true) :
    Calls Try.prog 4 #[.int .u64 p, .int .u64 a, .int .u64 b, .int .u64 c] w (Ret (.bool true) w) := by
  have hp := u64_wf hp; have ha := u64_wf ha; have hb := u64_wf hb; have hc := u64_wf hc
  cases h : hasB p [a, b, c] with
  | false => exact walk_no p a b c w hp.1 hp.2 ha.1 ha.2 hb.1 hb.2 hc.1 hc.2 h
  | true =>
    obtain ⟨h1, h2⟩ := hasB_true h
    exact walk_yes p a b c w h1 ha.1 (h2 a (by simp)) hb.1 (h2 b (by simp)) hc.1 (h2 c (by simp))

theorem own : ownKnob Try.prog.godebug = none := by kernel_rfl
set_option maxRecDepth 100000 in
theorem lifted (os : Os) (started : os.Started) (H : Type) (enc : TypeId × Value → H) :
    ReturnsInHanded {} Try.checked os 4 .any (Rows.fieldRingSpec.pre6 enc Try.prog Try.f4 Rows.fieldRingRow.domain false) (Rows.fieldRingSpec.post enc Try.prog Try.f4 false true false false) := by
  refine returnsInHanded_of_change (C := Try.checked) own started (by kernel_rfl) Try.func4
    (ChangeSpec.witness6 (enc := enc) (C := Try.checked) false ⟨#[], #[.int .u64 0, .int .u64 0, .int .u64 0, .int .u64 0], []⟩ 8 (by kernel_rfl) (by kernel_rfl) (by kernel_rfl) (by kernel_rfl)) ?_
  intro W base args ds gs before hval0 hW _ _
  have hval : ∀ (j : Nat) t v, Try.f4.params[j]? = some t → args[j]? = some v → Value.okWide Try.prog W .any base t v := hval0
  have hW' := hW
  obtain ⟨p, q, hA0, hV, rfl, _, _⟩ := hW
  have hA : DataW.TrodAll enc Try.prog W 0 (fun _ => true) true Try.f4.params.toList args.toList ds p := hA0
  rw [Try.params4] at hA hval
  obtain ⟨v0, vs0, d0, ds0, p0, q0, hargs, rfl, rfl, h0, r0⟩ := trodAll_cons hA
  obtain ⟨v1, vs1, d1, ds1, p1, q1, rfl, rfl, rfl, h1, r1⟩ := trodAll_cons r0
  obtain ⟨v2, vs2, d2, ds2, p2, q2, rfl, rfl, rfl, h2, r2⟩ := trodAll_cons r1
  obtain ⟨v3, vs3, d3, ds3, p3, q3, rfl, rfl, rfl, h3, r3⟩ := trodAll_cons r2
  obtain ⟨rfl, rfl, rfl⟩ := trodAll_nil r3
  obtain rfl : args = #[v0, v1, v2, v3] := by cases args; simp_all
  obtain ⟨rfl, rfl⟩ := trodVars_none hV
  obtain ⟨a0, rfl, rfl, rfl, w0⟩ := open_int Try.underlying22 (hval 0 22 v0 rfl rfl) h0
  obtain ⟨a1, rfl, rfl, rfl, w1⟩ := open_int Try.underlying22 (hval 1 22 v1 rfl rfl) h1
  obtain ⟨a2, rfl, rfl, rfl, w2⟩ := open_int Try.underlying22 (hval 2 22 v2 rfl rfl) h2
  obtain ⟨a3, rfl, rfl, rfl, w3⟩ := open_int Try.underlying22 (hval 3 22 v3 rfl rfl) h3
  refine (walk a0 a1 a2 a3 W w0 w1 w2 w3).mono fun e W' ⟨he, hg⟩ => ⟨_, he, ?_⟩
  exact law_post (by kernel_rfl) (by kernel_rfl) rfl Try.underlying4 rfl rfl hW' hg

/-- the statement -/
theorem proved : Rows.FieldRingSaid :=
  OpenClaim.holds_of_wide 4 Try.f4 rfl rfl rfl rfl rfl rfl rfl ⟨rfl, rfl, rfl, rfl, rfl⟩ rfl rfl rfl rfl rfl (by kernel_rfl) Try.func4 (by kernel_rfl)
    (of_decide_eq_true (by kernel_rfl)) (by unfold Func.isWrapper; first | (rw [if_pos (by decide +kernel)]; kernel_rfl) | (rw [if_neg (by decide +kernel)]; exact ⟨rfl, rfl⟩))
    (fun os started H enc _ => lifted os started H enc)
end Go.Proofs.Ytobibegjalfjoaa.fieldRing
