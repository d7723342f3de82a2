/- SeriesShortest: whatever the number and the row, the law answers true, and nothing that was there has turned. No condition. -/
import Derived.Test.YtbpbagejblbacaaAwake04
import Derived.Test.YtbpbagejblbacaaLeast
namespace Go.Proofs.Ytbpbagejblbacaa.seriesShortest
open Go.ChangeShapes Go.WideShapes Go.ChangeAt Go.RowKit

set_option maxRecDepth 100000 in
set_option maxHeartbeats 1000000 in
theorem walk_no (p : Int) (v : Value) (s : List Int) (w : World) (h0 : 0 ≤ p) (h1 : p ≤ 18446744073709551615) (hv : Ints .u64 w v s) (hs : U64s s) (h : 24 < s.length ∨ hasB p s = false) :
    Calls Try.prog 4 #[.int .u64 p, v] w (Ret (.bool true) w) := by
  have cA : hasB p s = false → ∀ W, Ext w W → Calls Try.prog 19 #[.int .u64 p, v] W (Ret (.tuple #[.slice none 0 0, .int .i64 1]) W) := fun hB W hW => sRule_arg p v s W h0 h1 (hv.ext hW) hs hB
  have cH : ∀ W, Ext w W → Calls Try.prog 17 #[.int .u64 p, v] W fun e w' => e = .returned (.bool (hasB p s)) ∧ W = w' := fun W hW => rHas p v s W h0 h1 (hv.ext hW) hs
  obtain ⟨B, hB⟩ : ∃ B, hasB p s = B := ⟨_, rfl⟩
  rw [hB] at cA cH h
  have CA := hid cA; have CH := hid cH
  clear cA cH hB hs
  obtain ⟨a, cap, rfl, k1, k2, k3⟩ := hv
  clear k3
  by_cases g1 : 24 < s.length
  · clear h
    go_enter Try.func4, Try.ntmps4
    go_wp2_with (go_at_call 8; refine (awake04 w).mono ?_; rintro _ w1 ⟨rfl, x1⟩)
    go_ret
    exact ⟨rfl, (by repeat (first | exact Ext.refl _ | assumption | refine Ext.drew ?_ | refine Ext.drewN ?_ _ | refine Ext.alloc ?_ _ | refine Ext.trans ?_ (by assumption)))⟩
  · obtain rfl : B = false := by
      rcases h with h | h
      · exact absurd h g1
      · exact h
    have CA2 := hid (CA.out rfl)
    clear h CA
    go_enter Try.func4, Try.ntmps4
    go_wp2_with (first | (go_at_call 8; refine (awake04 w).mono ?_; rintro _ w1 ⟨rfl, x1⟩) | fail)
    refine (CA2.out w1 x1).mono ?_
    rintro _ w2 ⟨rfl, x2⟩
    have y2 : Ext w w2 := x1.trans x2
    go_wp2_with (go_at_call 17; refine (CH.out w2 y2).mono ?_; rintro _ _ ⟨rfl, rfl⟩)
    go_ret
    exact ⟨rfl, y2⟩

set_option maxRecDepth 100000 in
set_option maxHeartbeats 1000000 in
theorem walk_yes (p : Int) (v : Value) (s : List Int) (w : World) (hv : Ints .u64 w v s) (hs : Rng p s) (hp : rightB p = true) (g1 : ¬ 24 < s.length) :
    Calls Try.prog 4 #[.int .u64 p, v] w (Ret (.bool true) w) := by
  have hp2 := rightB_true hp
  have cP : ∀ W, Calls Try.prog 20 #[.int .u64 p] W fun e w' => e = .returned (.bool (takenB p)) ∧ W = w' := fun W => prime_any p W (by omega)
  have cR : ∀ W, Ext w W → Calls Try.prog 19 #[.int .u64 p, v] W (RetRule p s W) := fun W hW => sRule p v s W hp (hv.ext hW) hs (by omega)
  have cH : ∀ W, Ext w W → Calls Try.prog 17 #[.int .u64 p, v] W fun e w' => e = .returned (.bool true) ∧ W = w' := fun W hW => hs.has hp ▸ rHas p v s W (by omega) (by omega) (hv.ext hW) (hs.u64 hp2.2)
  have cF : takenB p = true → Fld p := taken_fld
  have cL : Fld p → ∀ W, Ext w W → Calls Try.prog 21 #[.int .u64 p, v] W fun e w' => ∃ l : Nat, e = .returned (.int .i64 l) ∧ Ext W w' ∧ LeastOb (pol p s) l s.length := fun hF W hW => rLeast p v s W hp hF (hv.ext hW) hs (by omega)
  obtain ⟨T, hT⟩ : ∃ T, takenB p = T := ⟨_, rfl⟩
  rw [hT] at cP cF
  have CP := hid cP; have CR := hid cR; have CH := hid cH; have CF := hid cF; have CL := hid cL; have Hv := hid hv; have Hs := hid hs
  clear cP cR cH cF cL hs hp hT
  obtain ⟨a, cap, rfl, k1, k2, k3⟩ := hv
  clear k3
  obtain ⟨n, hn⟩ : ∃ n, s.length = n := ⟨_, rfl⟩
  have Hn := hid hn
  rw [hn] at CR CH CL Hv g1 k1 ⊢
  clear hn
  go_enter Try.func4, Try.ntmps4
  go_wp2_with (first | (go_at_call 8; refine (awake04 w).mono ?_; rintro _ w1 ⟨rfl, x1⟩) | fail)
  refine (CR.out w1 x1).mono ?_
  rintro _ w2 (⟨v2, c, rfl, i2, x2, r2⟩ | ⟨d, rfl, x2, d0, d1, d2⟩)
  · have y2 : Ext w w2 := x1.trans x2
    have I2 := hid i2; have R2 := hid r2
    obtain ⟨a2, c2, rfl, _, _, j2⟩ := i2
    have hcl1 : 1 ≤ c.length := r2.2.2.1
    have hcl2 : c.length ≤ n + 1 := by rw [← Hn.out]; exact r2.2.2.2.1
    clear j2 r2
    obtain ⟨m, hm⟩ : ∃ m, c.length = m := ⟨_, rfl⟩
    have Hm := hid hm
    rw [hm] at I2 hcl1 hcl2 ⊢
    clear hm
    go_wp2_with (go_at_call 17; refine (CH.out w2 y2).mono ?_; rintro _ _ ⟨rfl, rfl⟩)
    have hr := r4Right p (.slice a2 m c2) c w2 (by omega) (by omega) I2.out (R2.out.2.1.u64 hp2.2)
    rw [R2.out.1] at hr
    refine hr.mono ?_
    rintro _ _ ⟨rfl, rfl⟩
    clear hr
    go_wp2_with fail
    have ho := r4Obeys p (.slice a n cap) (.slice a2 m c2) s c w2 (by omega) (by omega) (Hv.out.ext y2) I2.out (Hs.out.u64 hp2.2) (R2.out.2.1.u64 hp2.2)
    rw [(obeysB_iff (Hs.out.u64 hp2.2) (R2.out.2.1.u64 hp2.2)).2 ⟨R2.out.1, Hs.out, R2.out.2.2.2.2.1⟩] at ho
    refine ho.mono ?_
    rintro _ w3 ⟨rfl, x3⟩
    have y3 : Ext w w3 := y2.trans x3.ext
    clear ho
    cases T with
    | false =>
      go_wp2_with (go_at_call 20; refine (CP.out w3).mono ?_; rintro _ _ ⟨rfl, rfl⟩)
      go_ret
      exact ⟨rfl, y3⟩
    | true =>
      have hF := hid (CF.out rfl)
      go_wp2_with (go_at_call 20; refine (CP.out w3).mono ?_; rintro _ _ ⟨rfl, rfl⟩)
      refine (CL.out hF.out w3 y3).mono ?_
      rintro _ w4 ⟨l, rfl, x4, hl⟩
      have hml : m = l + 1 := by
        have r := R2.out.2.2.2.2
        rw [Hn.out] at r
        have := LeastOb.unique (s := pol p s) (n := n) ⟨⟨_, r.1⟩, r.2⟩ hl
        rw [Hm.out] at this
        omega
      clear hl
      subst hml
      go_wp2_with fail
      go_ret
      exact ⟨ret_bool (by simp), y3.trans x4⟩
  · have y2 : Ext w w2 := x1.trans x2
    cases T with
    | false =>
      clear d0 d1 d2
      go_wp2_with (first | (go_at_call 17; refine (CH.out w2 y2).mono ?_; rintro _ _ ⟨rfl, rfl⟩) | (go_at_call 20; refine (CP.out w2).mono ?_; rintro _ _ ⟨rfl, rfl⟩))
      go_ret
      exact ⟨rfl, y2⟩
    | true =>
      have := CF.out rfl d d0 d1
      rw [this] at d2; cases d2

theorem walk (p : Int) (v : Value) (s : List Int) (w : World) (hp : (Lit.int .u64 p).wf = true) (hv : Ints .u64 w v s) (hs : ∀ x ∈ s, (Lit.int .u64 x).wf = true) :
    Calls Try.prog 4 #[.int .u64 p, v] w (Ret (.bool true) w) := by
  obtain ⟨h0, h1⟩ := u64_wf hp
  have hs' : U64s s := fun x hx => u64_wf (hs x hx)
  by_cases h : 24 < s.length ∨ hasB p s = false
  · exact walk_no p v s w h0 h1 hv hs' h
  · have hB : hasB p s = true := by
      cases hB : hasB p s
      · exact absurd (.inr hB) h
      · rfl
    exact walk_yes p v s w hv (fun y hy => ⟨(hs' y hy).1, (hasB_true hB).2 y hy⟩) (hasB_true hB).1 (fun e => h (.inl e))

theorem own : ownKnob Try.prog.godebug = none := by kernel_rfl
set_option maxRecDepth 100000 in
theorem lifted (os : Os) (started : os.Started) (H : Type) (enc : TypeId × Value → H) :
    ReturnsInHanded {} Try.checked os 4 .any (Rows.seriesShortestSpec.pre6 enc Try.prog Try.f4 Rows.seriesShortestRow.domain false) (Rows.seriesShortestSpec.post enc Try.prog Try.f4 false true false false) := by
  refine returnsInHanded_of_change (C := Try.checked) own started (by kernel_rfl) Try.func4
    (ChangeSpec.witness6 (enc := enc) (C := Try.checked) false ⟨#[], #[.int .u64 0, .slice none 0 0], []⟩ 8 (by kernel_rfl) (by kernel_rfl) (by kernel_rfl) (by kernel_rfl)) ?_
  intro W base args ds gs before hval0 hW _ _
  have hval : ∀ (j : Nat) t v, Try.f4.params[j]? = some t → args[j]? = some v → Value.okWide Try.prog W .any base t v := hval0
  have hW' := hW
  obtain ⟨p, q, hA0, hV, rfl, _, _⟩ := hW
  have hA : DataW.TrodAll enc Try.prog W 0 (fun _ => true) true Try.f4.params.toList args.toList ds p := hA0
  rw [Try.params4] at hA hval
  obtain ⟨v0, vs0, d0, ds0, p0, q0, hargs, rfl, rfl, h0, r0⟩ := trodAll_cons hA
  obtain ⟨v1, vs1, d1, ds1, p1, q1, rfl, rfl, rfl, h1, r1⟩ := trodAll_cons r0
  obtain ⟨rfl, rfl, rfl⟩ := trodAll_nil r1
  obtain rfl : args = #[v0, v1] := by cases args; simp_all
  obtain ⟨rfl, rfl⟩ := trodVars_none hV
  obtain ⟨a0, rfl, rfl, rfl, w0⟩ := open_int Try.underlying22 (hval 0 22 v0 rfl rfl) h0
  obtain ⟨xs1, i1, w1⟩ := open_Ints Try.underlying23 Try.underlying22 (by kernel_rfl) (hval 1 23 v1 rfl rfl) h1
  refine (walk a0 v1 xs1 W w0 i1 w1).mono fun e W' ⟨he, hg⟩ => ⟨_, he, ?_⟩
  exact law_post (by kernel_rfl) (by kernel_rfl) rfl Try.underlying4 rfl rfl hW' hg

/-- the statement -/
theorem proved : Rows.SeriesShortestSaid :=
  OpenClaim.holds_of_wide 4 Try.f4 rfl rfl rfl rfl rfl rfl rfl ⟨rfl, rfl, rfl, rfl, rfl⟩ rfl rfl rfl rfl rfl (by kernel_rfl) Try.func4 (by kernel_rfl)
    (of_decide_eq_true (by kernel_rfl)) (by unfold Func.isWrapper; first | (rw [if_pos (by decide +kernel)]; kernel_rfl) | (rw [if_neg (by decide +kernel)]; exact ⟨rfl, rfl⟩))
    (fun os started H enc _ => lifted os started H enc)
end Go.Proofs.Ytbpbagejblbacaa.seriesShortest
