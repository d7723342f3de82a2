/- FieldDots: whatever the number, the lists and the cut, the law answers true, and nothing that was there has turned. No condition. -/
import Derived.Test.YtobibegjalfjoaaAwake01
namespace Go.Proofs.Ytobibegjalfjoaa.fieldDots
open Go.ChangeShapes Go.WideShapes Go.ChangeAt Go.RowKit

set_option maxRecDepth 100000 in
set_option maxHeartbeats 2000000 in
theorem walk_yes (p c : Int) (v u : Value) (xs ys : List Int) (n : Nat) (w : World) (hc0 : 0 ≤ c) (hc : c ≤ 255) (hv : Ints .u64 w v xs) (hu : Ints .u64 w u ys) (hx : U64s xs) (hy : U64s ys)
    (hn : n = min (min xs.length ys.length) 60) (h1 : hasB p (xs.take n) = true) (h2 : hasB p (ys.take n) = true) : Calls Try.prog 7 #[.int .u64 p, v, u, .int .u8 c] w (Ret (.bool true) w) := by
  have Hp := hid (hasB_true h1).1
  have hp2 := rightB_true Hp.out
  have hn1 : n ≤ xs.length := by omega
  have hn2 : n ≤ ys.length := by omega
  have hn3 : n ≤ 60 := by omega
  have Hv := hid hv; have Hu := hid hu
  obtain ⟨q, cap, rfl, k1, k2, k3⟩ := hv
  obtain ⟨q', cap', rfl, k1', k2', k3'⟩ := hu
  clear k3 k3'
  have Hx := hid hx; have Hy := hid hy; clear hx hy
  have H1 := hid h1; have H2 := hid h2; clear h1 h2
  obtain ⟨lx, elx⟩ : ∃ lx, xs.length = lx := ⟨_, rfl⟩
  obtain ⟨ly, ely⟩ : ∃ ly, ys.length = ly := ⟨_, rfl⟩
  rw [elx] at Hv hn hn1 k1 ⊢
  rw [ely] at Hu hn hn2 k1' ⊢
  have Elx := hid elx; have Ely := hid ely; clear elx ely
  obtain ⟨k, hk⟩ : ∃ k : Nat, c % ((n : Int) + 1) = k := ⟨(c % ((n : Int) + 1)).toNat, by have := Int.emod_nonneg c (show (n : Int) + 1 ≠ 0 by omega); omega⟩
  have hk1 : k ≤ n := by have := Int.emod_lt_of_pos c (show 0 < (n : Int) + 1 by omega); omega
  have hn0 : (n : Int) + 1 ≠ 0 := by omega
  have hll : Hid ((xs.take n).length = (ys.take n).length) := hid (by simp [Elx.out, Ely.out]; omega)
  obtain ⟨d, ed, d0, d1⟩ := name_mod (dotZ (xs.take n) (ys.take n)) hp2.1
  have Ed := hid ed
  have Ed' : Hid (dotZ (ys.take n) (xs.take n) % p = d) := hid (by rw [dotZ_comm]; exact ed)
  obtain ⟨l, el, l0, l1⟩ := name_mod (dotZ ((xs.take n).take k) ((ys.take n).take k)) hp2.1
  obtain ⟨r, er, r0, r1⟩ := name_mod (dotZ ((xs.take n).drop k) ((ys.take n).drop k)) hp2.1
  have Es : Hid ((l + r) % p = d) := hid (by rw [← el, ← er, ma_l, ma_r, dotZ_cut]; exact ed)
  have El := hid el; have Er := hid er
  have hlk : Hid (((xs.take n).take k).length = ((ys.take n).take k).length) := hid (by simp [Elx.out, Ely.out]; omega)
  have hld : Hid (((xs.take n).drop k).length = ((ys.take n).drop k).length) := hid (by simp [Elx.out, Ely.out]; omega)
  clear ed el er
  have hr0 : Hid (hasB p (List.replicate n 0) = true) := hid (hasB_mk Hp.out (by intro z hz; have := (List.mem_replicate.1 hz).2; omega))
  have hmk := make_ints (P := Try.prog) 23 22 .u64 8 (by omega) (by kernel_rfl) (by kernel_rfl) n n (Nat.le_refl _) (by omega)
  have Hn := hid hn; clear hn
  go_enter Try.func7, Try.ntmps7
  go_wp2_with fail
  refine (awake01 _).mono ?_; rintro _ w1 ⟨rfl, h1⟩
  go_upto_region 3 with fail
  go_cut [9] (fun s w' => s = .int .i64 n ∧ Ext w w')
  case first =>
    go_wp2_with fail
    all_goals (go_meet; exact ⟨by have := Hn.out; refine congrArg _ ?_; split at * <;> omega, h1⟩)
  case rest =>
    obtain ⟨rfl, hwc⟩ := hcut
    clear h1 w1
    have hv1 := (Hv.out.ext hwc).take' n (by rw [Elx.out]; exact hn1)
    have hu1 := (Hu.out.ext hwc).take' n (by rw [Ely.out]; exact hn2)
    have Hv1 := hid hv1; have Hu1 := hid hu1; clear hv1 hu1
    go_wp2_with fail
    go_quiet (fail)
    go_wp2_with fail
    refine (has_yes p _ (xs.take n) _ (Hv1.out.drewN _) (Hx.out.take _) H1.out).mono ?_; rintro _ _ ⟨rfl, rfl⟩
    go_wp2_with fail
    refine (has_yes p _ (ys.take n) _ (Hu1.out.drewN _) (Hy.out.take _) H2.out).mono ?_; rintro _ _ ⟨rfl, rfl⟩
    go_wp2_with fail
    refine (dot_as p d _ _ (xs.take n) (ys.take n) _ (Hv1.out.drewN _) (Hu1.out.drewN _) (Hx.out.take _) (Hy.out.take _) hll.out H1.out H2.out Ed.out).mono ?_; rintro _ w2 ⟨rfl, h2⟩
    go_wp2_with fail
    have h2' : Ext wc w2 := (by repeat (first | exact Ext.refl _ | assumption | refine Ext.drew ?_ | refine Ext.drewN ?_ _ | refine Ext.alloc ?_ _ | refine Ext.trans ?_ (by assumption)))
    refine (dot_as p d _ _ (ys.take n) (xs.take n) _ (Hu1.out.ext h2') (Hv1.out.ext h2') (Hy.out.take _) (Hx.out.take _) hll.out.symm H2.out H1.out Ed'.out).mono ?_; rintro _ w3 ⟨rfl, h3⟩
    go_wp2_with fail
    have h3' : Ext wc w3 := (by repeat (first | exact Ext.refl _ | assumption | refine Ext.drew ?_ | refine Ext.drewN ?_ _ | refine Ext.alloc ?_ _ | refine Ext.trans ?_ (by assumption)))
    have hvk := (Hv1.out.ext h3').take' k (by simp [Elx.out]; omega)
    have huk := (Hu1.out.ext h3').take' k (by simp [Ely.out]; omega)
    have Hvk := hid hvk; have Huk := hid huk; clear hvk huk
    go_quiet ((go_at_call 17; exact quiet_d (dotD_as p l _ _ ((xs.take n).take k) ((ys.take n).take k) _ (Hvk.out.drewN _) (Huk.out.drewN _) ((Hx.out.take _).take _) ((Hy.out.take _).take _) hlk.out (hasB_take' H1.out _) (hasB_take' H2.out _) El.out)))
    go_wp2_with fail
    have hvd := (Hv1.out.ext h3').dropq k (by simp [Elx.out]; omega)
    have hud := (Hu1.out.ext h3').dropq k (by simp [Ely.out]; omega)
    obtain ⟨qk, eqk⟩ : ∃ qk, (if cap = k then q else q.map fun x => x.add k) = qk := ⟨_, rfl⟩
    obtain ⟨qk', eqk'⟩ : ∃ qk, (if cap' = k then q' else q'.map fun x => x.add k) = qk := ⟨_, rfl⟩
    rw [eqk] at hvd; rw [eqk'] at hud
    have Hvd := hid hvd; have Hud := hid hud; clear hvd hud
    go_quiet ((go_at_call 17; exact quiet_add_d (dotD_as p r _ _ ((xs.take n).drop k) ((ys.take n).drop k) _ (Hvd.out.drewN _) (Hud.out.drewN _) ((Hx.out.take _).drop _) ((Hy.out.take _).drop _) hld.out (hasB_drop' H1.out _) (hasB_drop' H2.out _) Er.out)))
    go_wp2_with fail
    refine (add_as p l r d _ Hp.out l0 l1 r0 r1 Es.out).mono ?_; rintro _ w4 ⟨rfl, h4⟩
    go_wp2_with fail
    have h4' : Ext wc w4 := (by repeat (first | exact Ext.refl _ | assumption | refine Ext.drew ?_ | refine Ext.drewN ?_ _ | refine Ext.alloc ?_ _ | refine Ext.trans ?_ (by assumption)))
    refine (dot_as p 0 _ _ (xs.take n) (List.replicate n 0) _ ((Hv1.out.ext h4').alloc _) (Ints.made (Nat.le_refl _) (by omega) (by simp)) (Hx.out.take _) (by intro z hz; have := (List.mem_replicate.1 hz).2; omega) (by simp [Elx.out]; omega) H1.out hr0.out (by rw [dotZ_zero, Int.zero_emod])).mono ?_; rintro _ w5 ⟨rfl, h5⟩
    go_wp2_with fail
    go_ret
    exact ⟨rfl, Ext.trans hwc (Ext.trans (Ext.alloc h4' _) h5)⟩
set_option maxRecDepth 100000 in
set_option maxHeartbeats 2000000 in
theorem walk_no (p c : Int) (v u : Value) (xs ys : List Int) (n : Nat) (w : World) (hp0 : 0 ≤ p) (hp : p ≤ 18446744073709551615) (hv : Ints .u64 w v xs) (hu : Ints .u64 w u ys) (hx : U64s xs) (hy : U64s ys)
    (hn : n = min (min xs.length ys.length) 60) (h : hasB p (xs.take n) = false ∨ hasB p (ys.take n) = false) : Calls Try.prog 7 #[.int .u64 p, v, u, .int .u8 c] w (Ret (.bool true) w) := by
  have hn1 : n ≤ xs.length := by omega
  have hn2 : n ≤ ys.length := by omega
  have hn3 : n ≤ 60 := by omega
  have Hv := hid hv; have Hu := hid hu
  obtain ⟨q, cap, rfl, k1, k2, k3⟩ := hv
  obtain ⟨q', cap', rfl, k1', k2', k3'⟩ := hu
  clear k3 k3'
  have Hx := hid hx; have Hy := hid hy; clear hx hy
  obtain ⟨lx, elx⟩ : ∃ lx, xs.length = lx := ⟨_, rfl⟩
  obtain ⟨ly, ely⟩ : ∃ ly, ys.length = ly := ⟨_, rfl⟩
  rw [elx] at Hv hn hn1 k1 ⊢
  rw [ely] at Hu hn hn2 k1' ⊢
  have Elx := hid elx; have Ely := hid ely; clear elx ely
  have Hn := hid hn; clear hn
  have H := hid h; clear h
  go_enter Try.func7, Try.ntmps7
  go_wp2_with fail
  refine (awake01 _).mono ?_; rintro _ w1 ⟨rfl, h1⟩
  go_upto_region 3 with fail
  go_cut [9] (fun s w' => s = .int .i64 n ∧ Ext w w')
  case first =>
    go_wp2_with fail
    all_goals (go_meet; exact ⟨by have := Hn.out; refine congrArg _ ?_; split at * <;> omega, h1⟩)
  case rest =>
    obtain ⟨rfl, hwc⟩ := hcut
    clear h1 w1
    have hv1 := (Hv.out.ext hwc).take' n (by rw [Elx.out]; exact hn1)
    have hu1 := (Hu.out.ext hwc).take' n (by rw [Ely.out]; exact hn2)
    have Hv1 := hid hv1; have Hu1 := hid hu1; clear hv1 hu1
    cases h1 : hasB p (xs.take n) with
    | false =>
      have H1 := hid h1; clear h1
      go_wp2_with fail
      go_quiet (fail)
      go_wp2_with fail
      refine (has_no p _ (xs.take n) _ hp0 hp (Hv1.out.drewN _) (Hx.out.take _) H1.out).mono ?_; rintro _ _ ⟨rfl, rfl⟩
      go_wp2_with fail
      go_ret
      exact ⟨rfl, (by repeat (first | exact Ext.refl _ | assumption | refine Ext.drew ?_ | refine Ext.drewN ?_ _ | refine Ext.alloc ?_ _ | refine Ext.trans ?_ (by assumption)))⟩
    | true =>
      have h2 : hasB p (ys.take n) = false := by
        rcases H.out with h | h
        · rw [h1] at h; cases h
        · exact h
      have H1 := hid h1; have H2 := hid h2; clear h1 h2
      go_wp2_with fail
      go_quiet (fail)
      go_wp2_with fail
      refine (has_yes p _ (xs.take n) _ (Hv1.out.drewN _) (Hx.out.take _) H1.out).mono ?_; rintro _ _ ⟨rfl, rfl⟩
      go_wp2_with fail
      refine (has_no p _ (ys.take n) _ hp0 hp (Hu1.out.drewN _) (Hy.out.take _) H2.out).mono ?_; rintro _ _ ⟨rfl, rfl⟩
      go_wp2_with fail
      go_ret
      exact ⟨rfl, (by repeat (first | exact Ext.refl _ | assumption | refine Ext.drew ?_ | refine Ext.drewN ?_ _ | refine Ext.alloc ?_ _ | refine Ext.trans ?_ (by assumption)))⟩
theorem walk (p : Int) (v : Value) (xs : List Int) (u : Value) (ys : List Int) (c : Int) (w : World) (hp : (Lit.int .u64 p).wf = true) (hv : Ints .u64 w v xs) (hx : ∀ x ∈ xs, (Lit.int .u64 x).wf = true) (hu : Ints .u64 w u ys) (hy : ∀ x ∈ ys, (Lit.int .u64 x).wf = true) (hc : (Lit.int .u8 c).wf = true) :
    Calls Try.prog 7 #[.int .u64 p, v, u, .int .u8 c] w (Ret (.bool true) w) := by
  have hp := u64_wf hp; have hc := u8_wf hc
  have hx : U64s xs := fun x h => u64_wf (hx x h)
  have hy : U64s ys := fun x h => u64_wf (hy x h)
  cases h1 : hasB p (xs.take (min (min xs.length ys.length) 60)) with
  | false => exact walk_no p c v u xs ys _ w hp.1 hp.2 hv hu hx hy rfl (.inl h1)
  | true =>
    cases h2 : hasB p (ys.take (min (min xs.length ys.length) 60)) with
    | false => exact walk_no p c v u xs ys _ w hp.1 hp.2 hv hu hx hy rfl (.inr h2)
    | true => exact walk_yes p c v u xs ys _ w hc.1 hc.2 hv hu hx hy rfl h1 h2

theorem own : ownKnob Try.prog.godebug = none := by kernel_rfl
set_option maxRecDepth 100000 in
theorem lifted (os : Os) (started : os.Started) (H : Type) (enc : TypeId × Value → H) :
    ReturnsInHanded {} Try.checked os 7 .any (Rows.fieldDotsSpec.pre6 enc Try.prog Try.f7 Rows.fieldDotsRow.domain false) (Rows.fieldDotsSpec.post enc Try.prog Try.f7 false true false false) := by
  refine returnsInHanded_of_change (C := Try.checked) own started (by kernel_rfl) Try.func7
    (ChangeSpec.witness6 (enc := enc) (C := Try.checked) false ⟨#[], #[.int .u64 0, .slice none 0 0, .slice none 0 0, .int .u8 0], []⟩ 8 (by kernel_rfl) (by kernel_rfl) (by kernel_rfl) (by kernel_rfl)) ?_
  intro W base args ds gs before hval0 hW _ _
  have hval : ∀ (j : Nat) t v, Try.f7.params[j]? = some t → args[j]? = some v → Value.okWide Try.prog W .any base t v := hval0
  have hW' := hW
  obtain ⟨p, q, hA0, hV, rfl, _, _⟩ := hW
  have hA : DataW.TrodAll enc Try.prog W 0 (fun _ => true) true Try.f7.params.toList args.toList ds p := hA0
  rw [Try.params7] at hA hval
  obtain ⟨v0, vs0, d0, ds0, p0, q0, hargs, rfl, rfl, h0, r0⟩ := trodAll_cons hA
  obtain ⟨v1, vs1, d1, ds1, p1, q1, rfl, rfl, rfl, h1, r1⟩ := trodAll_cons r0
  obtain ⟨v2, vs2, d2, ds2, p2, q2, rfl, rfl, rfl, h2, r2⟩ := trodAll_cons r1
  obtain ⟨v3, vs3, d3, ds3, p3, q3, rfl, rfl, rfl, h3, r3⟩ := trodAll_cons r2
  obtain ⟨rfl, rfl, rfl⟩ := trodAll_nil r3
  obtain rfl : args = #[v0, v1, v2, v3] := by cases args; simp_all
  obtain ⟨rfl, rfl⟩ := trodVars_none hV
  obtain ⟨a0, rfl, rfl, rfl, w0⟩ := open_int Try.underlying22 (hval 0 22 v0 rfl rfl) h0
  obtain ⟨xs1, i1, w1⟩ := open_Ints Try.underlying23 Try.underlying22 (by kernel_rfl) (hval 1 23 v1 rfl rfl) h1
  obtain ⟨xs2, i2, w2⟩ := open_Ints Try.underlying23 Try.underlying22 (by kernel_rfl) (hval 2 23 v2 rfl rfl) h2
  obtain ⟨a3, rfl, rfl, rfl, w3⟩ := open_int Try.underlying5 (hval 3 5 v3 rfl rfl) h3
  refine (walk a0 v1 xs1 v2 xs2 a3 W w0 i1 w1 i2 w2 w3).mono fun e W' ⟨he, hg⟩ => ⟨_, he, ?_⟩
  exact law_post (by kernel_rfl) (by kernel_rfl) rfl Try.underlying4 rfl rfl hW' hg

/-- the statement -/
theorem proved : Rows.FieldDotsSaid :=
  OpenClaim.holds_of_wide 7 Try.f7 rfl rfl rfl rfl rfl rfl rfl ⟨rfl, rfl, rfl, rfl, rfl⟩ rfl rfl rfl rfl rfl (by kernel_rfl) Try.func7 (by kernel_rfl)
    (of_decide_eq_true (by kernel_rfl)) (by unfold Func.isWrapper; first | (rw [if_pos (by decide +kernel)]; kernel_rfl) | (rw [if_neg (by decide +kernel)]; exact ⟨rfl, rfl⟩))
    (fun os started H enc _ => lifted os started H enc)
end Go.Proofs.Ytobibegjalfjoaa.fieldDots
