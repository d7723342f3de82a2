/- PolyRoots: whatever the number, the roots and the place, the law answers true, and nothing that was there has turned. No condition. -/
import Derived.Test.YtgeinhlhhlmciaaPlaces
namespace Go.Proofs.Ytgeinhlhhlmciaa.polyRoots
open Go.ChangeShapes Go.WideShapes Go.ChangeAt Go.RowKit

set_option maxRecDepth 100000 in
set_option maxHeartbeats 2000000 in
theorem walk_no (p x : Int) (v : Value) (xs : List Int) (w : World) (h0 : 0 ≤ p) (h1 : p ≤ 18446744073709551615) (hv : Ints .u64 w v xs) (hx : U64s xs)
    (h : ¬ (xs.length ≤ 20 ∧ takenB p = true ∧ hasB p xs = true ∧ x < p)) : Calls Try.prog 7 #[.int .u64 p, v, .int .u64 x] w (Ret (.bool true) w) := by
  have cP : ∀ W, Calls Try.prog 10 #[.int .u64 p] W fun e w' => e = .returned (.bool (takenB p)) ∧ W = w' := fun W => prime_any p W h0
  have cX : ∀ W, Ext w W → Calls Try.prog 24 #[.int .u64 p, v] W fun e w' => e = .returned (.bool (hasB p xs)) ∧ W = w' := fun W hW => has_any p v xs W h0 h1 (hv.ext hW) hx
  obtain ⟨T, hT⟩ : ∃ T, takenB p = T := ⟨_, rfl⟩
  obtain ⟨X, hX⟩ : ∃ X, hasB p xs = X := ⟨_, rfl⟩
  rw [hX] at cX h; rw [hT] at cP h
  obtain ⟨a, cap, rfl, k1, k2, k3⟩ := hv
  have CX := hid cX; have CP := hid cP
  clear cX cP k3 hX hT hx
  by_cases g1 : xs.length ≤ 20
  · cases T with
    | false =>
      clear h
      go_enter Try.func7, Try.ntmps7
      go_wp2_with (first | (go_at_call 9; refine (awake03 w).mono ?_; rintro _ w1 ⟨rfl, x1⟩) | (go_at_call 10; refine (CP.out w1).mono ?_; rintro _ _ ⟨rfl, rfl⟩))
      go_ret
      exact ⟨rfl, (by repeat (first | exact Ext.refl _ | assumption | refine Ext.drew ?_ | refine Ext.drewN ?_ _ | refine Ext.alloc ?_ _ | refine Ext.trans ?_ (by assumption)))⟩
    | true =>
      cases X with
      | false =>
        clear h
        go_enter Try.func7, Try.ntmps7
        go_wp2_with (first | (go_at_call 9; refine (awake03 w).mono ?_; rintro _ w1 ⟨rfl, x1⟩) | (go_at_call 10; refine (CP.out w1).mono ?_; rintro _ _ ⟨rfl, rfl⟩) | (go_at_call 24; refine (CX.out w1 x1).mono ?_; rintro _ _ ⟨rfl, rfl⟩))
        go_ret
        exact ⟨rfl, (by repeat (first | exact Ext.refl _ | assumption | refine Ext.drew ?_ | refine Ext.drewN ?_ _ | refine Ext.alloc ?_ _ | refine Ext.trans ?_ (by assumption)))⟩
      | true =>
        have g3 : p ≤ x := by
          apply Classical.byContradiction
          intro hn
          exact h ⟨g1, rfl, rfl, by omega⟩
        clear h
        go_enter Try.func7, Try.ntmps7
        go_wp2_with (first | (go_at_call 9; refine (awake03 w).mono ?_; rintro _ w1 ⟨rfl, x1⟩) | (go_at_call 10; refine (CP.out w1).mono ?_; rintro _ _ ⟨rfl, rfl⟩) | (go_at_call 24; refine (CX.out w1 x1).mono ?_; rintro _ _ ⟨rfl, rfl⟩))
        go_ret
        exact ⟨rfl, (by repeat (first | exact Ext.refl _ | assumption | refine Ext.drew ?_ | refine Ext.drewN ?_ _ | refine Ext.alloc ?_ _ | refine Ext.trans ?_ (by assumption)))⟩
  · clear h
    go_enter Try.func7, Try.ntmps7
    go_wp2_with (go_at_call 9; refine (awake03 w).mono ?_; rintro _ w1 ⟨rfl, x1⟩)
    go_ret
    exact ⟨rfl, (by repeat (first | exact Ext.refl _ | assumption | refine Ext.drew ?_ | refine Ext.drewN ?_ _ | refine Ext.alloc ?_ _ | refine Ext.trans ?_ (by assumption)))⟩

/-- is x among them? -/
def isIn (xs : List Int) (x : Int) : Nat → Bool
  | 0 => false
  | k + 1 => isIn xs x k || (xs.getD k 0 == x)
theorem hor_lin {p : Int} (hp : 2 ≤ p) (x r : Int) : hor p x [(0 - r) % p, 1].reverse = (x - r) % p := by
  refine rem_unique hp x (q := 1) (r := x - r) Ser.poly_one ?_
  have h1 : pol p [(0 - x) % p, 1] + Ser.C p x = pol p [(0 - r) % p, 1] + Ser.C p r := by rw [lin_eq, lin_eq]
  have h2 : Ser.C p x = Ser.C p (x - r) + Ser.C p r := by rw [Ser.C_add, Int.sub_add_cancel]
  refine Ser.add_right_cancel (c := Ser.C p r) ?_
  rw [← h1, h2, Ser.one_mul]
  ac_rfl
theorem prod_zero {p : Int} (hF : Fld p) (hp : 2 ≤ p) {a b : Int} (ha0 : 0 ≤ a) (ha : a < p) (hb0 : 0 ≤ b) (hb : b < p) : (a * b % p == 0) = (a == 0 || b == 0) := by
  by_cases h1 : a = 0
  · subst h1; simp
  · by_cases h2 : b = 0
    · subst h2; simp
    · have : a * b % p ≠ 0 := fun e => h1 (top_stays (by rw [Int.mul_comm]; exact hF.inv hp (show 0 < b by omega) hb : minv p b * b % p = 1) ha0 ha e)
      rw [beq_eq_false_iff_ne.2 this, beq_eq_false_iff_ne.2 h1, beq_eq_false_iff_ne.2 h2]; rfl
/-- a step: one root more -/
theorem root_step {p : Int} (hF : Fld p) (hp : 2 ≤ p) {x r : Int} (hx0 : 0 ≤ x) (hx : x < p) (hr0 : 0 ≤ r) (hr : r < p) {f g : List Int} (hf : Pol p f) (hg : Pol p g) (f0 : f ≠ []) (hm : lead f = 1) (h : pol p g = pol p f * pol p [(0 - r) % p, 1]) {b : Bool} (hb : (hor p x f.reverse == 0) = b) :
    g ≠ [] ∧ lead g = 1 ∧ g.length = f.length + 1 ∧ (hor p x g.reverse == 0) = (b || (r == x)) := by
  have hl := lin_pol hp r
  obtain ⟨h1, h2, h3⟩ := hF.mul_len hp hf hl hg f0 (by simp) h
  have h4 := hor_mul hp x h
  have hh := hor_range hp x f.reverse
  have hh2 := hor_range hp x [(0 - r) % p, 1].reverse
  refine ⟨h2, ?_, by simpa using h1, ?_⟩
  · rw [h3, hm]; show (1 : Int) * 1 % p = 1; exact mod_small (by omega) (by omega)
  · rw [← h4, prod_zero hF hp hh.1 hh.2 hh2.1 hh2.2, hb, hor_lin hp]
    congr 1
    by_cases e : r = x
    · subst e; simp
    · rw [beq_eq_false_iff_ne.2 e, beq_eq_false_iff_ne]
      intro e2
      obtain ⟨k, hk⟩ := Int.dvd_of_emod_eq_zero e2
      rcases Int.lt_trichotomy k 0 with h | h | h
      · have := Int.mul_le_mul_of_nonneg_left (show k ≤ -1 by omega) (show 0 ≤ p by omega); omega
      · subst h; omega
      · have := Int.mul_le_mul_of_nonneg_left (show 1 ≤ k by omega) (show 0 ≤ p by omega); omega

set_option maxRecDepth 100000 in
set_option maxHeartbeats 4000000 in
theorem walk_yes (p x : Int) (v : Value) (xs : List Int) (w : World) (hv : Ints .u64 w v xs) (hU : U64s xs)
    (g1 : xs.length ≤ 20) (hT : takenB p = true) (hh : hasB p xs = true) (hx0 : 0 ≤ x) (hx1 : x < p) : Calls Try.prog 7 #[.int .u64 p, v, .int .u64 x] w (Ret (.bool true) w) := by
  have hh2 := hasB_true hh
  have hp2 := rightB_true hh2.1
  have Hp := hid hh2.1
  have HF := hid (taken_fld hT)
  have hrng : Rng p xs := fun y hy => ⟨(hU y hy).1, hh2.2 y hy⟩
  have Hr := hid hrng
  have cP : ∀ W, Calls Try.prog 10 #[.int .u64 p] W fun e w' => e = .returned (.bool true) ∧ W = w' := fun W => by
    have := prime_any p W (by omega)
    rwa [hT] at this
  have cX : ∀ W, Ext w W → Calls Try.prog 24 #[.int .u64 p, v] W fun e w' => e = .returned (.bool true) ∧ W = w' := fun W hW => by
    have := has_any p v xs W (by omega) (by omega) (hv.ext hW) hU
    rwa [hh] at this
  have CX := hid cX; have CP := hid cP
  obtain ⟨a, cap, rfl, k1, k2, k3⟩ := hv
  have K3 := hid k3
  obtain ⟨n, hn⟩ : ∃ n, xs.length = n := ⟨_, rfl⟩
  have Hn := hid hn
  rw [hn] at g1 k1 CX K3 ⊢
  clear cP cX k3 hh hh2 hrng hT hU hn
  have p1 : Hid (Pol p [1]) := hid (Pol.one (by omega) (by omega))
  have e1 : Hid ((hor p x [1].reverse == 0) = false) := hid (by simp [hor]; rw [mod_small (by omega) (by omega)]; omega)
  go_enter Try.func7, Try.ntmps7
  go_wp2_with (first | (go_at_call 9; refine (awake03 w).mono ?_; rintro _ w1 ⟨rfl, x1⟩) | (go_at_call 10; refine (CP.out w1).mono ?_; rintro _ _ ⟨rfl, rfl⟩) | (go_at_call 24; refine (CX.out w1 x1).mono ?_; rintro _ _ ⟨rfl, rfl⟩) | fail)
  go_loopw [7, 8, 9] (fun vf vz vi wr => ∃ (k : Nat) (f : List Int), vi = .int .i64 k ∧ vz = .bool (isIn xs x k) ∧ k ≤ n ∧ Ints .u64 wr vf f ∧ Hid (Pol p f) ∧ Hid (f ≠ [] ∧ lead f = 1) ∧ f.length = k + 1 ∧ Hid ((hor p x f.reverse == 0) = isIn xs x k) ∧ Ext w wr) (fun _ _ vi _ => n - (intOf vi).toNat)
  case atStart => exact ⟨0, [1], rfl, rfl, Nat.zero_le _, Ints.new1, p1, hid ⟨by simp, rfl⟩, rfl, e1, x1.alloc _⟩
  case round =>
    obtain ⟨k, f, rfl, rfl, hk, hf, hP, hM, hfl, hz, hw⟩ := hrel
    have Hf := hid hf
    clear hf
    by_cases hlt : k < n
    · obtain ⟨b, off, rfl, hb, hc⟩ := K3.out (by omega)
      have c1 := (hw.cells _ _ hb).trans (hc k hlt)
      have hrk := Hr.out.get (k := k) (by rw [Hn.out]; exact hlt)
      obtain ⟨r, er⟩ : ∃ r, xs.getD k 0 = r := ⟨_, rfl⟩
      rw [er] at c1 hrk
      have c0 := hc k hlt
      rw [er] at c0
      have C0 := hid c0
      clear c0
      have Er := hid er
      obtain ⟨ng, eng, n0, n1⟩ := name_mod (p := p) (0 - r) hp2.1
      have hlp := lin_pol hp2.1 r
      have hlow := ((pol_low (p := p) f).mul (pol_low [(0 - r) % p, 1])).mono (show f.length + 2 - 1 ≤ 512 by omega)
      rw [eng] at hlp hlow
      have Hng := hid eng; have Hlp := hid hlp; have Hlow := hid hlow
      have hisn : Hid (isIn xs x (k + 1) = (isIn xs x k || (r == x))) := hid (by rw [← Er.out]; rfl)
      obtain ⟨bz, hbz⟩ : ∃ bz, isIn xs x k = bz := ⟨_, rfl⟩
      rw [hbz] at hz hisn ⊢
      clear hc er eng hlp hlow hbz
      go_wp2_with fail
      refine (sub_as p 0 r ng _ Hp.out (by omega) (by omega) hrk.1 hrk.2 Hng.out).mono ?_
      rintro _ w2 ⟨rfl, x2⟩
      go_wp2_with fail
      refine (pMul_yes p _ _ f [ng, 1] _ Hp.out ((Hf.out.ext x2).alloc _) Ints.new2 hP.out Hlp.out (by simp; omega) Hlow.out).mono ?_
      rintro _ w3 ⟨v3, g, rfl, i3, j3, e3, x3⟩
      have hst := root_step HF.out hp2.1 hx0 hx1 hrk.1 hrk.2 hP.out j3 hM.out.1 hM.out.2 (by rw [Hng.out]; exact e3) hz.out
      have I3 := hid i3; have J3 := hid j3; have Hst := hid hst
      have hgl : g.length = k + 1 + 1 := by rw [hst.2.2.1, hfl]
      have hw3 : Ext w w3 := ((hw.trans x2).alloc _).trans x3
      have c3 := (hw3.cells _ _ hb).trans C0.out
      clear i3 j3 e3 hst
      cases bz with
      | true =>
        go_wp2_with fail
        go_roundw
        case rel => exact ⟨k + 1, g, by go_num, by rw [hisn.out]; rfl, by omega, I3.out, J3, hid ⟨Hst.out.1, Hst.out.2.1⟩, hgl, hid (by rw [hisn.out]; exact Hst.out.2.2.2), hw3⟩
        case measure => simp [intOf]; omega
      | false =>
        go_wp2_with fail
        go_roundw
        case rel => exact ⟨k + 1, g, by go_num, by rw [hisn.out]; simp, by omega, I3.out, J3, hid ⟨Hst.out.1, Hst.out.2.1⟩, hgl, hid (by rw [hisn.out]; exact Hst.out.2.2.2), hw3⟩
        case measure => simp [intOf]; omega
    · obtain rfl : n = k := by omega
      obtain ⟨y, ey⟩ : ∃ y, hor p x f.reverse = y := ⟨_, rfl⟩
      have Ey := hid ey
      rw [ey] at hz
      obtain ⟨bz, hbz⟩ : ∃ bz, isIn xs x n = bz := ⟨_, rfl⟩
      rw [hbz] at hz ⊢
      have hyz : (y == 0) = bz := hz.out
      clear ey hbz
      go_wp2_with fail
      refine (pEval_as p x y _ f _ Hp.out Hf.out hP.out (by omega) hx0 hx1 Ey.out).mono ?_
      rintro _ w2 ⟨rfl, x2⟩
      have C2 := hid (pMonic_yes p _ f w2 Hp.out (Hf.out.ext x2) hP.out hM.out.1 (by omega) (HF.out.unit_lead hP.out hM.out.1))
      go_wp2_with fail
      refine C2.out.mono ?_
      rintro _ w3 ⟨v3, m, rfl, i3, j3, e3, x3⟩
      have hmf : m = f := by
        refine j3.inj hP.out (e3.trans ?_)
        have : minv p (lead f) = 1 := minv_eq (by omega) (by omega) (by rw [hM.out.2]; exact mod_small (by omega) (by omega))
        rw [this, Ser.C_one, Ser.mul_one]
      subst hmf
      have s1 := hid (same_yes v3 _ m w3 i3 (Hf.out.ext (x2.trans x3)))
      obtain ⟨fa, fc, rfl, q1, q2, q3⟩ := Hf.out
      have hfl2 : (m.length : Int) = (n : Int) + 1 := by omega
      have hfin : Ext w w3 := (hw.trans x2).trans x3
      clear i3 j3 e3 q3 C2 Hf hfl
      have hb3 : ((y == 0) == bz) = true := by rw [hyz]; simp
      go_wp2_with (go_at_call 15; refine s1.out.mono ?_; rintro _ w4 ⟨rfl, x4⟩)
      go_ret
      exact ⟨rfl, hfin.trans x4⟩

theorem walk (p : Int) (v : Value) (xs : List Int) (x : Int) (w : World) (hp : (Lit.int .u64 p).wf = true) (hv : Ints .u64 w v xs) (hx : ∀ x ∈ xs, (Lit.int .u64 x).wf = true) (hx' : (Lit.int .u64 x).wf = true) :
    Calls Try.prog 7 #[.int .u64 p, v, .int .u64 x] w (Ret (.bool true) w) := by
  have hp := u64_wf hp
  have hx2 := u64_wf hx'
  have hx : U64s xs := fun x h => u64_wf (hx x h)
  by_cases h : xs.length ≤ 20 ∧ takenB p = true ∧ hasB p xs = true ∧ x < p
  · obtain ⟨g1, g2, g4, g5⟩ := h
    exact walk_yes p x v xs w hv hx g1 g2 g4 hx2.1 g5
  · exact walk_no p x v xs w hp.1 hp.2 hv hx h

theorem own : ownKnob Try.prog.godebug = none := by kernel_rfl
set_option maxRecDepth 100000 in
theorem lifted (os : Os) (started : os.Started) (H : Type) (enc : TypeId × Value → H) :
    ReturnsInHanded {} Try.checked os 7 .any (Rows.polyRootsSpec.pre6 enc Try.prog Try.f7 Rows.polyRootsRow.domain false) (Rows.polyRootsSpec.post enc Try.prog Try.f7 false true false false) := by
  refine returnsInHanded_of_change (C := Try.checked) own started (by kernel_rfl) Try.func7
    (ChangeSpec.witness6 (enc := enc) (C := Try.checked) false ⟨#[], #[.int .u64 0, .slice none 0 0, .int .u64 0], []⟩ 8 (by kernel_rfl) (by kernel_rfl) (by kernel_rfl) (by kernel_rfl)) ?_
  intro W base args ds gs before hval0 hW _ _
  have hval : ∀ (j : Nat) t v, Try.f7.params[j]? = some t → args[j]? = some v → Value.okWide Try.prog W .any base t v := hval0
  have hW' := hW
  obtain ⟨p, q, hA0, hV, rfl, _, _⟩ := hW
  have hA : DataW.TrodAll enc Try.prog W 0 (fun _ => true) true Try.f7.params.toList args.toList ds p := hA0
  rw [Try.params7] at hA hval
  obtain ⟨v0, vs0, d0, ds0, p0, q0, hargs, rfl, rfl, h0, r0⟩ := trodAll_cons hA
  obtain ⟨v1, vs1, d1, ds1, p1, q1, rfl, rfl, rfl, h1, r1⟩ := trodAll_cons r0
  obtain ⟨v2, vs2, d2, ds2, p2, q2, rfl, rfl, rfl, h2, r2⟩ := trodAll_cons r1
  obtain ⟨rfl, rfl, rfl⟩ := trodAll_nil r2
  obtain rfl : args = #[v0, v1, v2] := by cases args; simp_all
  obtain ⟨rfl, rfl⟩ := trodVars_none hV
  obtain ⟨a0, rfl, rfl, rfl, w0⟩ := open_int Try.underlying22 (hval 0 22 v0 rfl rfl) h0
  obtain ⟨xs1, i1, w1⟩ := open_Ints Try.underlying23 Try.underlying22 (by kernel_rfl) (hval 1 23 v1 rfl rfl) h1
  obtain ⟨a2, rfl, rfl, rfl, w2⟩ := open_int Try.underlying22 (hval 2 22 v2 rfl rfl) h2
  refine (walk a0 v1 xs1 a2 W w0 i1 w1 w2).mono fun e W' ⟨he, hg⟩ => ⟨_, he, ?_⟩
  exact law_post (by kernel_rfl) (by kernel_rfl) rfl Try.underlying4 rfl rfl hW' hg

/-- the statement -/
theorem proved : Rows.PolyRootsSaid :=
  OpenClaim.holds_of_wide 7 Try.f7 rfl rfl rfl rfl rfl rfl rfl ⟨rfl, rfl, rfl, rfl, rfl⟩ rfl rfl rfl rfl rfl (by kernel_rfl) Try.func7 (by kernel_rfl)
    (of_decide_eq_true (by kernel_rfl)) (by unfold Func.isWrapper; first | (rw [if_pos (by decide +kernel)]; kernel_rfl) | (rw [if_neg (by decide +kernel)]; exact ⟨rfl, rfl⟩))
    (fun os started H enc _ => lifted os started H enc)
end Go.Proofs.Ytgeinhlhhlmciaa.polyRoots
