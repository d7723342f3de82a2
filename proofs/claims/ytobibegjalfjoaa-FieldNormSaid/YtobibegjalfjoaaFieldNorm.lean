/- FieldNorm: whatever the numbers and the list, the law answers true, and nothing that was there has turned. No condition. -/
import Derived.Test.YtobibegjalfjoaaAwake01
namespace Go.Proofs.Ytobibegjalfjoaa.fieldNorm
open Go.ChangeShapes Go.WideShapes Go.ChangeAt Go.RowKit

theorem hasB_take {p : Int} (hp : rightB p = true) (xs : List Int) (k : Nat) (hk : k < xs.length) : (hasB p (xs.take k) && hasB p [xs.getD k 0]) = hasB p (xs.take (k + 1)) := by
  rw [take_snoc xs k hk]
  simp [hasB, hp, List.all_append]
set_option maxRecDepth 100000 in
set_option maxHeartbeats 2000000 in
theorem walk_yes (p a b : Int) (v : Value) (xs : List Int) (w : World) (hp : rightB p = true) (ha0 : 0 ≤ a) (ha : a ≤ 4294967295) (hb0 : 0 ≤ b) (hb : b ≤ 4294967295) (hv : Ints .u64 w v xs) (hx : U64s xs) (hl : xs.length ≤ 60) :
    Calls Try.prog 8 #[.int .u64 p, .int .u32 a, .int .u32 b, v] w (Ret (.bool true) w) := by
  have hp2 := rightB_true hp
  obtain ⟨x, ex, x0, x1⟩ := name_mod a hp2.1
  obtain ⟨y, ey, y0, y1⟩ := name_mod b hp2.1
  obtain ⟨s, es, s0, s1⟩ := name_mod (a + b) hp2.1
  obtain ⟨m, em, m0, m1⟩ := name_mod (a * b) hp2.1
  have e1 : Hid ((x + y) % p = s) := hid (by rw [← ex, ← ey, ma_l, ma_r]; exact es)
  have e2 : Hid (x * y % p = m) := hid (by rw [← ex, ← ey, mm_l, mm_r]; exact em)
  have b1 := Int.mul_nonneg ha0 hb0
  have b2 : a * b ≤ 4294967295 * 4294967295 := Int.mul_le_mul ha hb hb0 (by omega)
  have hn : hasB p [] = true := hasB_mk hp (by simp)
  have Hp := hid hp; have Ex := hid ex; have Ey := hid ey; have Es := hid es; have Em := hid em; have Hn := hid hn
  clear hp ex ey es em hn
  have Hv := hid hv
  obtain ⟨q, cap, rfl, hc1, hc2, hc⟩ := hv
  have Hc := hid hc; have Hx := hid hx
  clear hc hx
  go_enter Try.func8, Try.ntmps8
  go_wp2_with fail
  refine (awake01 _).mono ?_; rintro _ w1 ⟨rfl, h1⟩
  go_wp2_with fail
  refine (right_any p _ (by omega) (by omega)).mono ?_; rw [Hp.out]; rintro _ _ ⟨rfl, rfl⟩
  go_wp2_with fail
  refine (norm_as p a x _ Hp.out ha0 Ex.out).mono ?_; rintro _ w2 ⟨rfl, h2⟩
  go_wp2_with fail
  refine (norm_as p b y _ Hp.out hb0 Ey.out).mono ?_; rintro _ w3 ⟨rfl, h3⟩
  go_wp2_with fail
  refine (norm_as p (a + b) s _ Hp.out (by omega) Es.out).mono ?_; rintro _ w4 ⟨rfl, h4⟩
  go_wp2_with fail
  refine (norm_as p (a * b) m _ Hp.out (by omega) Em.out).mono ?_; rintro _ w5 ⟨rfl, h5⟩
  go_wp2_with fail
  refine (add_as p x y s _ Hp.out x0 x1 y0 y1 e1.out).mono ?_; rintro _ w6 ⟨rfl, h6⟩
  go_wp2_with fail
  refine (mul_as p x y m _ Hp.out x0 x1 y0 y1 e2.out).mono ?_; rintro _ w7 ⟨rfl, h7⟩
  go_wp2_with fail
  have hw0 : Ext w w7 := (by repeat (first | exact Ext.refl _ | assumption | refine Ext.drew ?_ | refine Ext.drewN ?_ _ | refine Ext.alloc ?_ _ | refine Ext.trans ?_ (by assumption)))
  clear h1 h2 h3 h4 h5 h6 h7
  go_loopw [22, 21] (fun i t wr => ∃ k : Nat, i = .int .i64 k ∧ k ≤ xs.length ∧ t = .bool (hasB p (xs.take k)) ∧ Ext w wr) (fun i _ _ => xs.length - (intOf i).toNat)
  case atStart => exact ⟨0, rfl, by omega, by rw [List.take_zero, Hn.out], hw0⟩
  case round =>
    obtain ⟨k, rfl, hk, rfl, hw⟩ := hrel
    by_cases hlt : k < xs.length
    · have hst := hasB_take Hp.out xs k hlt
      obtain ⟨b', off, rfl, hb', hcell⟩ := Hc.out (by omega)
      have g := (hw.cells _ _ hb').trans (hcell k hlt)
      have hg := U64s.get Hx.out hlt
      clear hcell
      generalize xs.getD k 0 = z at *
      obtain ⟨h, eh⟩ : ∃ h, hasB p (xs.take k) = h := ⟨_, rfl⟩
      obtain ⟨h', eh'⟩ : ∃ h', hasB p (xs.take (k + 1)) = h' := ⟨_, rfl⟩
      rw [eh, eh'] at hst
      rw [eh]
      have Eh' := hid eh'; clear eh'
      cases h with
      | false =>
        have Hst := hid hst; clear hst eh
        go_wp2_with fail
        go_roundw
        case rel => exact ⟨k + 1, by go_num, by omega, by rw [Eh'.out, ← Hst.out]; rfl, (by repeat (first | exact Ext.refl _ | assumption | refine Ext.drew ?_ | refine Ext.drewN ?_ _ | refine Ext.alloc ?_ _ | refine Ext.trans ?_ (by assumption)))⟩
        case measure => simp [intOf]; omega
      | true =>
        cases h'' : hasB p [z] with
        | false =>
          rw [h''] at hst
          have Hst := hid hst; have H3 := hid h''; clear hst h'' eh
          go_wp2_with fail
          refine (has_no p _ [z] _ (by omega) (by omega) Ints.new1 (U64s.one hg.1 hg.2) H3.out).mono ?_; rintro _ _ ⟨rfl, rfl⟩
          go_wp2_with fail
          go_roundw
          case rel => exact ⟨k + 1, by go_num, by omega, by rw [Eh'.out, ← Hst.out]; rfl, (by repeat (first | exact Ext.refl _ | assumption | refine Ext.drew ?_ | refine Ext.drewN ?_ _ | refine Ext.alloc ?_ _ | refine Ext.trans ?_ (by assumption)))⟩
          case measure => simp [intOf]; omega
        | true =>
          rw [h''] at hst
          have Hst := hid hst; have H3 := hid h''; clear hst h'' eh
          go_wp2_with fail
          refine (has_yes p _ [z] _ Ints.new1 (U64s.one hg.1 hg.2) H3.out).mono ?_; rintro _ _ ⟨rfl, rfl⟩
          go_wp2_with fail
          go_roundw
          case rel => exact ⟨k + 1, by go_num, by omega, by rw [Eh'.out, ← Hst.out]; rfl, (by repeat (first | exact Ext.refl _ | assumption | refine Ext.drew ?_ | refine Ext.drewN ?_ _ | refine Ext.alloc ?_ _ | refine Ext.trans ?_ (by assumption)))⟩
          case measure => simp [intOf]; omega
    · obtain rfl : k = xs.length := by omega
      have hv2 := Hv.out.ext hw
      have Hv2 := hid hv2; clear hv2
      rw [List.take_of_length_le (Nat.le_refl _)]
      obtain ⟨h, eh⟩ : ∃ h, hasB p xs = h := ⟨_, rfl⟩
      rw [eh]
      have Eh := hid eh; clear eh
      go_wp2_with fail
      refine (has_any p _ xs _ (by omega) (by omega) Hv2.out Hx.out).mono ?_; rw [Eh.out]; rintro _ _ ⟨rfl, rfl⟩
      go_wp2_with fail
      refine (has_yes p _ [] _ Ints.nil (by intro z hz; simp at hz) Hn.out).mono ?_; rintro _ _ ⟨rfl, rfl⟩
      go_wp2_with fail
      go_ret
      exact ⟨rfl, (by repeat (first | exact Ext.refl _ | assumption | refine Ext.drew ?_ | refine Ext.drewN ?_ _ | refine Ext.alloc ?_ _ | refine Ext.trans ?_ (by assumption)))⟩
set_option maxRecDepth 100000 in
set_option maxHeartbeats 2000000 in
theorem walk_no (p a b : Int) (v : Value) (xs : List Int) (w : World) (hp0 : 0 ≤ p) (hp1 : p ≤ 18446744073709551615) (hv : Ints .u64 w v xs) (h : rightB p = false ∨ 60 < xs.length) :
    Calls Try.prog 8 #[.int .u64 p, .int .u32 a, .int .u32 b, v] w (Ret (.bool true) w) := by
  obtain ⟨q, cap, rfl, hc1, hc2, hc⟩ := hv
  clear hc
  cases h' : rightB p with
  | false =>
    have H := hid h'; clear h h'
    go_enter Try.func8, Try.ntmps8
    go_wp2_with fail
    refine (awake01 _).mono ?_; rintro _ w1 ⟨rfl, h1⟩
    go_wp2_with fail
    refine (right_any p _ hp0 hp1).mono ?_; rw [H.out]; rintro _ _ ⟨rfl, rfl⟩
    go_wp2_with fail
    go_ret
    exact ⟨rfl, (by repeat (first | exact Ext.refl _ | assumption | refine Ext.drew ?_ | refine Ext.drewN ?_ _ | refine Ext.alloc ?_ _ | refine Ext.trans ?_ (by assumption)))⟩
  | true =>
    have hl : 60 < xs.length := by
      rcases h with h | h
      · rw [h'] at h; cases h
      · exact h
    have H := hid h'; clear h h'
    go_enter Try.func8, Try.ntmps8
    go_wp2_with fail
    refine (awake01 _).mono ?_; rintro _ w1 ⟨rfl, h1⟩
    go_wp2_with fail
    refine (right_any p _ hp0 hp1).mono ?_; rw [H.out]; rintro _ _ ⟨rfl, rfl⟩
    go_wp2_with fail
    go_ret
    exact ⟨rfl, (by repeat (first | exact Ext.refl _ | assumption | refine Ext.drew ?_ | refine Ext.drewN ?_ _ | refine Ext.alloc ?_ _ | refine Ext.trans ?_ (by assumption)))⟩
theorem walk (p a b : Int) (v : Value) (xs : List Int) (w : World) (hp : (Lit.int .u64 p).wf = true) (ha : (Lit.int .u32 a).wf = true) (hb : (Lit.int .u32 b).wf = true) (hv : Ints .u64 w v xs) (hx : ∀ x ∈ xs, (Lit.int .u64 x).wf = true) :
    Calls Try.prog 8 #[.int .u64 p, .int .u32 a, .int .u32 b, v] w (Ret (.bool true) w) := by
  have hp := u64_wf hp; have ha := u32_wf ha; have hb := u32_wf hb
  have hx : U64s xs := fun x h => u64_wf (hx x h)
  cases h : rightB p with
  | false => exact walk_no p a b v xs w hp.1 hp.2 hv (.inl h)
  | true =>
    by_cases hl : xs.length ≤ 60
    · exact walk_yes p a b v xs w h ha.1 ha.2 hb.1 hb.2 hv hx hl
    · exact walk_no p a b v xs w hp.1 hp.2 hv (.inr (by omega))

theorem own : ownKnob Try.prog.godebug = none := by kernel_rfl
set_option maxRecDepth 100000 in
theorem lifted (os : Os) (started : os.Started) (H : Type) (enc : TypeId × Value → H) :
    ReturnsInHanded {} Try.checked os 8 .any (Rows.fieldNormSpec.pre6 enc Try.prog Try.f8 Rows.fieldNormRow.domain false) (Rows.fieldNormSpec.post enc Try.prog Try.f8 false true false false) := by
  refine returnsInHanded_of_change (C := Try.checked) own started (by kernel_rfl) Try.func8
    (ChangeSpec.witness6 (enc := enc) (C := Try.checked) false ⟨#[], #[.int .u64 0, .int .u32 0, .int .u32 0, .slice none 0 0], []⟩ 8 (by kernel_rfl) (by kernel_rfl) (by kernel_rfl) (by kernel_rfl)) ?_
  intro W base args ds gs before hval0 hW _ _
  have hval : ∀ (j : Nat) t v, Try.f8.params[j]? = some t → args[j]? = some v → Value.okWide Try.prog W .any base t v := hval0
  have hW' := hW
  obtain ⟨p, q, hA0, hV, rfl, _, _⟩ := hW
  have hA : DataW.TrodAll enc Try.prog W 0 (fun _ => true) true Try.f8.params.toList args.toList ds p := hA0
  rw [Try.params8] at hA hval
  obtain ⟨v0, vs0, d0, ds0, p0, q0, hargs, rfl, rfl, h0, r0⟩ := trodAll_cons hA
  obtain ⟨v1, vs1, d1, ds1, p1, q1, rfl, rfl, rfl, h1, r1⟩ := trodAll_cons r0
  obtain ⟨v2, vs2, d2, ds2, p2, q2, rfl, rfl, rfl, h2, r2⟩ := trodAll_cons r1
  obtain ⟨v3, vs3, d3, ds3, p3, q3, rfl, rfl, rfl, h3, r3⟩ := trodAll_cons r2
  obtain ⟨rfl, rfl, rfl⟩ := trodAll_nil r3
  obtain rfl : args = #[v0, v1, v2, v3] := by cases args; simp_all
  obtain ⟨rfl, rfl⟩ := trodVars_none hV
  obtain ⟨a0, rfl, rfl, rfl, w0⟩ := open_int Try.underlying22 (hval 0 22 v0 rfl rfl) h0
  obtain ⟨a1, rfl, rfl, rfl, w1⟩ := open_int Try.underlying41 (hval 1 41 v1 rfl rfl) h1
  obtain ⟨a2, rfl, rfl, rfl, w2⟩ := open_int Try.underlying41 (hval 2 41 v2 rfl rfl) h2
  obtain ⟨xs3, i3, w3⟩ := open_Ints Try.underlying23 Try.underlying22 (by kernel_rfl) (hval 3 23 v3 rfl rfl) h3
  refine (walk a0 a1 a2 v3 xs3 W w0 w1 w2 i3 w3).mono fun e W' ⟨he, hg⟩ => ⟨_, he, ?_⟩
  exact law_post (by kernel_rfl) (by kernel_rfl) rfl Try.underlying4 rfl rfl hW' hg

/-- the statement -/
theorem proved : Rows.FieldNormSaid :=
  OpenClaim.holds_of_wide 8 Try.f8 rfl rfl rfl rfl rfl rfl rfl ⟨rfl, rfl, rfl, rfl, rfl⟩ rfl rfl rfl rfl rfl (by kernel_rfl) Try.func8 (by kernel_rfl)
    (of_decide_eq_true (by kernel_rfl)) (by unfold Func.isWrapper; first | (rw [if_pos (by decide +kernel)]; kernel_rfl) | (rw [if_neg (by decide +kernel)]; exact ⟨rfl, rfl⟩))
    (fun os started H enc _ => lifted os started H enc)
end Go.Proofs.Ytobibegjalfjoaa.fieldNorm
