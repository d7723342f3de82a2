/- PolyGreatest: whatever the number and the lists, the law answers true, and nothing that was there has turned. No condition. -/
import Derived.Test.YtgeinhlhhlmciaaBezout
namespace Go.Proofs.Ytgeinhlhhlmciaa.polyGreatest
open Go.ChangeShapes Go.WideShapes Go.ChangeAt Go.RowKit

set_option maxRecDepth 100000 in
set_option maxHeartbeats 2000000 in
theorem walk_no (p : Int) (v u z : Value) (xs ys zs : List Int) (w : World) (h0 : 0 ≤ p) (h1 : p ≤ 18446744073709551615) (hv : Ints .u64 w v xs) (hu : Ints .u64 w u ys) (hz : Ints .u64 w z zs) (hx : U64s xs) (hy : U64s ys) (hzz : U64s zs)
    (h : ¬ (xs.length ≤ 40 ∧ ys.length ≤ 40 ∧ zs.length ≤ 40 ∧ takenB p = true ∧ rightPB p xs = true ∧ rightPB p ys = true ∧ rightPB p zs = true ∧ zs.length ≠ 0)) : Calls Try.prog 4 #[.int .u64 p, v, u, z] w (Ret (.bool true) w) := by
  have cP : ∀ W, Calls Try.prog 10 #[.int .u64 p] W fun e w' => e = .returned (.bool (takenB p)) ∧ W = w' := fun W => prime_any p W h0
  have cX : ∀ W, Ext w W → Calls Try.prog 11 #[.int .u64 p, v] W fun e w' => e = .returned (.bool (rightPB p xs)) ∧ W = w' := fun W hW => polRight_any p v xs W h0 h1 (hv.ext hW) hx
  have cY : ∀ W, Ext w W → Calls Try.prog 11 #[.int .u64 p, u] W fun e w' => e = .returned (.bool (rightPB p ys)) ∧ W = w' := fun W hW => polRight_any p u ys W h0 h1 (hu.ext hW) hy
  have cZ : ∀ W, Ext w W → Calls Try.prog 11 #[.int .u64 p, z] W fun e w' => e = .returned (.bool (rightPB p zs)) ∧ W = w' := fun W hW => polRight_any p z zs W h0 h1 (hz.ext hW) hzz
  obtain ⟨T, hT⟩ : ∃ T, takenB p = T := ⟨_, rfl⟩
  obtain ⟨X, hX⟩ : ∃ X, rightPB p xs = X := ⟨_, rfl⟩
  obtain ⟨Y, hY⟩ : ∃ Y, rightPB p ys = Y := ⟨_, rfl⟩
  obtain ⟨Z, hZ⟩ : ∃ Z, rightPB p zs = Z := ⟨_, rfl⟩
  rw [hT] at cP h; rw [hX] at cX h; rw [hY] at cY h; rw [hZ] at cZ h
  obtain ⟨a, cap, rfl, k1, k2, k3⟩ := hv
  obtain ⟨a', cap', rfl, m1, m2, m3⟩ := hu
  obtain ⟨a'', cap'', rfl, n1, n2, n3⟩ := hz
  have CP := hid cP; have CX := hid cX; have CY := hid cY; have CZ := hid cZ
  clear cP cX cY cZ k3 m3 n3 hT hX hY hZ hx hy hzz
  by_cases g1 : xs.length ≤ 40
  · by_cases g2 : ys.length ≤ 40
    · by_cases g3 : zs.length ≤ 40
      · cases T with
        | false =>
          clear h
          go_enter Try.func4, Try.ntmps4
          go_wp2_with (first | (go_at_call 9; refine (awake03 w).mono ?_; rintro _ w1 ⟨rfl, x1⟩) | (go_at_call 10; refine (CP.out w1).mono ?_; rintro _ _ ⟨rfl, rfl⟩))
          go_ret
          exact ⟨rfl, (by repeat (first | exact Ext.refl _ | assumption | refine Ext.drew ?_ | refine Ext.drewN ?_ _ | refine Ext.alloc ?_ _ | refine Ext.trans ?_ (by assumption)))⟩
        | true =>
          cases X with
          | false =>
            clear h
            go_enter Try.func4, Try.ntmps4
            go_wp2_with (first | (go_at_call 9; refine (awake03 w).mono ?_; rintro _ w1 ⟨rfl, x1⟩) | (go_at_call 10; refine (CP.out w1).mono ?_; rintro _ _ ⟨rfl, rfl⟩) | (go_at_call_of 11 a; refine (CX.out w1 x1).mono ?_; rintro _ _ ⟨rfl, rfl⟩))
            go_ret
            exact ⟨rfl, (by repeat (first | exact Ext.refl _ | assumption | refine Ext.drew ?_ | refine Ext.drewN ?_ _ | refine Ext.alloc ?_ _ | refine Ext.trans ?_ (by assumption)))⟩
          | true =>
            cases Y with
            | false =>
              clear h
              go_enter Try.func4, Try.ntmps4
              go_wp2_with (first | (go_at_call 9; refine (awake03 w).mono ?_; rintro _ w1 ⟨rfl, x1⟩) | (go_at_call 10; refine (CP.out w1).mono ?_; rintro _ _ ⟨rfl, rfl⟩) | (go_at_call_of 11 a; refine (CX.out w1 x1).mono ?_; rintro _ _ ⟨rfl, rfl⟩) | (go_at_call_of 11 a'; refine (CY.out w1 x1).mono ?_; rintro _ _ ⟨rfl, rfl⟩))
              go_ret
              exact ⟨rfl, (by repeat (first | exact Ext.refl _ | assumption | refine Ext.drew ?_ | refine Ext.drewN ?_ _ | refine Ext.alloc ?_ _ | refine Ext.trans ?_ (by assumption)))⟩
            | true =>
              cases Z with
              | false =>
                clear h
                go_enter Try.func4, Try.ntmps4
                go_wp2_with (first | (go_at_call 9; refine (awake03 w).mono ?_; rintro _ w1 ⟨rfl, x1⟩) | (go_at_call 10; refine (CP.out w1).mono ?_; rintro _ _ ⟨rfl, rfl⟩) | (go_at_call_of 11 a; refine (CX.out w1 x1).mono ?_; rintro _ _ ⟨rfl, rfl⟩) | (go_at_call_of 11 a'; refine (CY.out w1 x1).mono ?_; rintro _ _ ⟨rfl, rfl⟩) | (go_at_call_of 11 a''; refine (CZ.out w1 x1).mono ?_; rintro _ _ ⟨rfl, rfl⟩))
                go_ret
                exact ⟨rfl, (by repeat (first | exact Ext.refl _ | assumption | refine Ext.drew ?_ | refine Ext.drewN ?_ _ | refine Ext.alloc ?_ _ | refine Ext.trans ?_ (by assumption)))⟩
              | true =>
                have hz0 : zs.length = 0 := by
                  apply Classical.byContradiction
                  intro hn
                  exact h ⟨g1, g2, g3, rfl, rfl, rfl, rfl, hn⟩
                rw [hz0] at CZ ⊢
                clear h
                go_enter Try.func4, Try.ntmps4
                go_wp2_with (first | (go_at_call 9; refine (awake03 w).mono ?_; rintro _ w1 ⟨rfl, x1⟩) | (go_at_call 10; refine (CP.out w1).mono ?_; rintro _ _ ⟨rfl, rfl⟩) | (go_at_call_of 11 a; refine (CX.out w1 x1).mono ?_; rintro _ _ ⟨rfl, rfl⟩) | (go_at_call_of 11 a'; refine (CY.out w1 x1).mono ?_; rintro _ _ ⟨rfl, rfl⟩) | (go_at_call_of 11 a''; refine (CZ.out w1 x1).mono ?_; rintro _ _ ⟨rfl, rfl⟩))
                go_ret
                exact ⟨rfl, (by repeat (first | exact Ext.refl _ | assumption | refine Ext.drew ?_ | refine Ext.drewN ?_ _ | refine Ext.alloc ?_ _ | refine Ext.trans ?_ (by assumption)))⟩
      · clear h
        go_enter Try.func4, Try.ntmps4
        go_wp2_with (go_at_call 9; refine (awake03 w).mono ?_; rintro _ w1 ⟨rfl, x1⟩)
        go_ret
        exact ⟨rfl, (by repeat (first | exact Ext.refl _ | assumption | refine Ext.drew ?_ | refine Ext.drewN ?_ _ | refine Ext.alloc ?_ _ | refine Ext.trans ?_ (by assumption)))⟩
    · clear h
      go_enter Try.func4, Try.ntmps4
      go_wp2_with (go_at_call 9; refine (awake03 w).mono ?_; rintro _ w1 ⟨rfl, x1⟩)
      go_ret
      exact ⟨rfl, (by repeat (first | exact Ext.refl _ | assumption | refine Ext.drew ?_ | refine Ext.drewN ?_ _ | refine Ext.alloc ?_ _ | refine Ext.trans ?_ (by assumption)))⟩
  · clear h
    go_enter Try.func4, Try.ntmps4
    go_wp2_with (go_at_call 9; refine (awake03 w).mono ?_; rintro _ w1 ⟨rfl, x1⟩)
    go_ret
    exact ⟨rfl, (by repeat (first | exact Ext.refl _ | assumption | refine Ext.drew ?_ | refine Ext.drewN ?_ _ | refine Ext.alloc ?_ _ | refine Ext.trans ?_ (by assumption)))⟩

theorem low_of {p : Int} {A B : List Int} {m n k : Nat} (h1 : A.length ≤ m) (h2 : B.length ≤ n) (hk : m + n - 1 ≤ k) : (pol p A * pol p B).low k := ((pol_low A).mul (pol_low B)).mono (by omega)
theorem len_of {p : Int} {A B C : List Int} {m n k : Nat} (h1 : A.length ≤ m) (h2 : B.length ≤ n) (hC : Pol p C) (h : pol p C = pol p A * pol p B) (hk : m + n - 1 ≤ k) : C.length ≤ k := hC.len_le (h ▸ low_of h1 h2 hk)
/-- who divides leaves no rest -/
theorem rest_nil {p : Int} {X G q r : List Int} (hG : Pol p G) (g0 : G ≠ []) {i : Int} (hi : lead G * i % p = 1) (hr : Pol p r) (hl : r.length < G.length) {u : Ser p} (hu : u.poly) (e : pol p X = u * pol p G) (h : pol p X = pol p q * pol p G + pol p r) : r = [] := by
  have := pol_div_unique (q := pol p q) (r := pol p r) (q' := u) (r' := 0) hG g0 hi (pol_poly _) hu ((pol_low r).mono (by omega)) (Ser.low_zero _) (by rw [← h, Ser.add_zero, e])
  exact hr.zero this.2
/-- a factor is no longer than the product of two that are monic -/
theorem len_left {p : Int} (hp : 2 ≤ p) {L G : List Int} (hL : Pol p L) (hG : Pol p G) (l0 : L ≠ []) (g0 : G ≠ []) (l1 : lead L = 1) (m1 : lead G = 1) {n : Nat} (h : (pol p L * pol p G).low n) : L.length + G.length ≤ n + 1 := by
  have a := List.length_pos_iff.2 l0
  have b := List.length_pos_iff.2 g0
  have ht := (Ser.mul_top (a := pol p L) (b := pol p G) (m := L.length - 1) (n := G.length - 1) ((pol_low L).mono (by omega)) ((pol_low G).mono (by omega))).1
  rw [hL.rng.co, hG.rng.co, show L.getD (L.length - 1) 0 = lead L from rfl, show G.getD (G.length - 1) 0 = lead G from rfl, l1, m1, show (1 : Int) * 1 % p = 1 from mod_small (by omega) (by omega)] at ht
  apply Classical.byContradiction
  intro hn
  rw [h _ (by omega)] at ht
  omega
theorem pBez_any (p : Int) (v u : Value) (xs ys : List Int) (w : World) (hp : rightB p = true) (hF : Fld p) (hv : Ints .u64 w v xs) (hu : Ints .u64 w u ys) (hx : Pol p xs) (hy : Pol p ys) (hl : xs.length ≤ 512 ∧ ys.length ≤ 512) :
    Calls Try.prog 16 #[.int .u64 p, v, u] w (RetB p xs ys w) := by
  by_cases h : xs = [] ∧ ys = []
  · obtain ⟨rfl, rfl⟩ := h
    exact pBez_nil p v u w hp hF hv hu
  · exact pBez_yes p v u xs ys w hp hF hv hu hx hy hl h
/-- the least multiple's product with the greatest divisor is both's, monic -/
theorem lcm_gcd {p : Int} (hF : Fld p) (hp : 2 ≤ p) {X Y G L LG XY M : List Int} (hX : Pol p X) (hY : Pol p Y) (hg : IsGcd p X Y G) (hl : LcmOf p X Y L) (hLG : Pol p LG) (e1 : pol p LG = pol p L * pol p G) (hXY : Pol p XY) (e2 : pol p XY = pol p X * pol p Y) (hM : MonicOf p XY M) : LG = M := by
  by_cases h0 : X = [] ∨ Y = []
  · have l0 := hl.nil h0
    rw [l0, pol_nil, Ser.zero_mul] at e1
    rw [hLG.zero e1]
    have : XY = [] := hXY.zero (by
      rw [e2]
      rcases h0 with h | h
      · rw [h, pol_nil, Ser.zero_mul]
      · rw [h, pol_nil, Ser.mul_zero])
    rw [hM.nil this]
  · have x0 : X ≠ [] := fun e => h0 (.inl e)
    have y0 : Y ≠ [] := fun e => h0 (.inr e)
    obtain ⟨l0, l1, G', c, g1, e3⟩ := hl.one x0 y0
    obtain rfl : G' = G := g1.unique hp hg
    have gn : G' ≠ [] := LcmOf.gne g1 hX hY x0
    have n1 := hF.mul_len hp hl.isp g1.isp hLG l0 gn e1
    have n2 := hF.mul_len hp hX hY hXY x0 y0 e2
    obtain ⟨m0, m1, _⟩ := hM.one n2.2.1
    obtain ⟨c', d, f1, f2⟩ := hM.eqn
    have p1 : Pol p [1] := Pol.one (by omega) (by omega)
    refine lcm_unique hF hp hLG hM.isp p1 n1.2.1 m0 (by simp) (by rw [n1.2.2, l1, g1.mon gn]; exact mod_small (by omega) (by omega)) m1 (F := pol p X * pol p Y) (c1 := c) (c2 := c') ?_ ?_
    · rw [pol_one1, Ser.mul_one, e1, e3]
    · rw [pol_one1, Ser.mul_one, f1, e2, Ser.mul_comm]

theorem lcm_low {p : Int} (hp : 2 ≤ p) {X Y G L : List Int} (hX : Pol p X) (hY : Pol p Y) (hg : IsGcd p X Y G) (hl : LcmOf p X Y L) (l1 : X.length ≤ 79) (l2 : Y.length ≤ 79) : L.length ≤ 158 ∧ (pol p L * pol p G).low 512 := by
  by_cases h0 : X = [] ∨ Y = []
  · have e := hl.nil h0
    rw [e, pol_nil, Ser.zero_mul]
    exact ⟨by simp, Ser.low_zero _⟩
  · have x0 : X ≠ [] := fun e => h0 (.inl e)
    have y0 : Y ≠ [] := fun e => h0 (.inr e)
    obtain ⟨n0, n1, G', c, g1, e3⟩ := hl.one x0 y0
    obtain rfl : G' = G := g1.unique hp hg
    have gn : G' ≠ [] := LcmOf.gne g1 hX hY x0
    have hlow : (pol p L * pol p G').low 157 := by
      rw [e3]
      exact ((Ser.low_C c).mul (low_of l1 l2 (Nat.le_refl _))).mono (by omega)
    exact ⟨by have := len_left hp hl.isp g1.isp n0 gn n1 (g1.mon gn) hlow; omega, hlow.mono (by omega)⟩

set_option maxRecDepth 100000 in
set_option maxHeartbeats 4000000 in
theorem walk_yes (p : Int) (v u z : Value) (xs ys zs : List Int) (w : World) (hv : Ints .u64 w v xs) (hu : Ints .u64 w u ys) (hz : Ints .u64 w z zs)
    (g1 : xs.length ≤ 40) (g2 : ys.length ≤ 40) (g3 : zs.length ≤ 40) (hT : takenB p = true) (hp : rightB p = true) (hX : Pol p xs) (hY : Pol p ys) (hZ : Pol p zs) (hz0 : zs.length ≠ 0) : Calls Try.prog 4 #[.int .u64 p, v, u, z] w (Ret (.bool true) w) := by
  have hp2 := rightB_true hp
  have b0 : ((zs.length : Int) == 0) = false := by rw [beq_eq_false_iff_ne]; omega
  have HF := hid (taken_fld hT)
  have cP : ∀ W, Calls Try.prog 10 #[.int .u64 p] W fun e w' => e = .returned (.bool true) ∧ W = w' := fun W => by
    have := prime_any p W (by omega)
    rwa [hT] at this
  have cX : ∀ W, Ext w W → Calls Try.prog 11 #[.int .u64 p, v] W fun e w' => e = .returned (.bool true) ∧ W = w' := fun W hW => polRight_yes p v xs W hp (hv.ext hW) hX (by omega)
  have cY : ∀ W, Ext w W → Calls Try.prog 11 #[.int .u64 p, u] W fun e w' => e = .returned (.bool true) ∧ W = w' := fun W hW => polRight_yes p u ys W hp (hu.ext hW) hY (by omega)
  have cZ : ∀ W, Ext w W → Calls Try.prog 11 #[.int .u64 p, z] W fun e w' => e = .returned (.bool true) ∧ W = w' := fun W hW => polRight_yes p z zs W hp (hz.ext hW) hZ (by omega)
  have CP := hid cP; have CX := hid cX; have CY := hid cY; have CZ := hid cZ
  have Hv := hid hv; have Hu := hid hu; have Hz := hid hz; have HX := hid hX; have HY := hid hY; have HZ := hid hZ; have Hp := hid hp
  obtain ⟨a, cap, rfl, k1, k2, k3⟩ := hv
  obtain ⟨a', cap', rfl, m1, m2, m3⟩ := hu
  obtain ⟨a'', cap'', rfl, n1, n2, n3⟩ := hz
  have Hz0 : Hid (zs ≠ []) := hid (fun e => hz0 (by rw [e]; rfl))
  clear k3 m3 n3 hX hY hZ hp cX cY cZ cP hT hz0
  go_enter Try.func4, Try.ntmps4
  go_wp2_with (first | (go_at_call 9; refine (awake03 w).mono ?_; rintro _ w1 ⟨rfl, x1⟩) | (go_at_call 10; refine (CP.out w1).mono ?_; rintro _ _ ⟨rfl, rfl⟩) | (go_at_call_of 11 a; refine (CX.out w1 x1).mono ?_; rintro _ _ ⟨rfl, rfl⟩) | (go_at_call_of 11 a'; refine (CY.out w1 x1).mono ?_; rintro _ _ ⟨rfl, rfl⟩) | (go_at_call_of 11 a''; refine (CZ.out w1 x1).mono ?_; rintro _ _ ⟨rfl, rfl⟩) | fail)
  refine (pMul_yes p _ _ xs zs w1 Hp.out (Hv.out.ext x1) (Hz.out.ext x1) HX.out HZ.out (by omega) (low_of g1 g3 (by omega))).mono ?_
  rintro _ w2 ⟨v1, X, rfl, i1, j1, e1, x2⟩
  have l1 := len_of g1 g3 j1 e1 (k := 79) (by omega)
  have I1 := hid i1; have J1 := hid j1; have E1 := hid e1
  clear i1 j1 e1
  have y2 : Ext w w2 := x1.trans x2
  go_wp2_with fail
  refine (pMul_yes p _ _ ys zs w2 Hp.out (Hu.out.ext y2) (Hz.out.ext y2) HY.out HZ.out (by omega) (low_of g2 g3 (by omega))).mono ?_
  rintro _ w3 ⟨v2, Y, rfl, i2, j2, e2, x3⟩
  have l2 := len_of g2 g3 j2 e2 (k := 79) (by omega)
  have I2 := hid i2; have J2 := hid j2; have E2 := hid e2
  clear i2 j2 e2
  have y3 : Ext w w3 := y2.trans x3
  have C3 := hid (pBez_any p v1 v2 X Y w3 Hp.out HF.out (I1.out.ext x3) I2.out J1.out J2.out (by omega))
  go_wp2_with fail
  refine C3.out.mono ?_
  rintro _ w4 ⟨vg, vs, vt, G, S, T, rfl, i3, i4, i5, hg, j4, j5, e3, l4, l5, x4⟩
  have y4 : Ext w w4 := y3.trans x4
  have IG := hid i3; have IS := hid i4; have IT := hid i5; have JG := hid hg; have JS := hid j4; have JT := hid j5; have E3 := hid e3
  clear i3 i4 i5 hg j4 j5 e3 C3
  obtain ⟨xa, xc, rfl, q1, q2, q3⟩ := I1.out
  obtain ⟨ya, yc, rfl, r1, r2, r3⟩ := I2.out
  clear q3 r3
  by_cases hnil : X.length = 0 ∧ Y.length = 0
  · have hG : G.length = 0 := by
      have := (JG.out.nil J1.out J2.out).2 ⟨List.eq_nil_of_length_eq_zero hnil.1, List.eq_nil_of_length_eq_zero hnil.2⟩
      rw [this]; rfl
    obtain ⟨ga, gc, rfl, s1, s2, s3⟩ := IG.out
    obtain ⟨hn1, hn2⟩ := hnil
    clear s3
    have b1 : ((X.length : Int) == 0) = true := by rw [beq_iff_eq]; omega
    have b2 : ((Y.length : Int) == 0) = true := by rw [beq_iff_eq]; omega
    have b3 : ((G.length : Int) == 0) = true := by rw [beq_iff_eq]; omega
    clear hn1 hn2 hG
    go_wp2_with fail
    go_ret
    exact ⟨rfl, y4⟩
  · have hnn : Hid (¬ (X = [] ∧ Y = [])) := hid (fun h => hnil ⟨by rw [h.1]; rfl, by rw [h.2]; rfl⟩)
    have hgn : Hid (G ≠ []) := hid (fun e => hnn.out ((JG.out.nil J1.out J2.out).1 e))
    have hgl : G.length ≤ 79 := by
      by_cases x0 : X = []
      · have y0 : Y ≠ [] := fun e => hnn.out ⟨x0, e⟩
        have := (JG.out.swap.len hp2.1 J2.out J1.out y0).2
        omega
      · have := (JG.out.len hp2.1 J1.out J2.out x0).2
        omega
    have hlg : Hid (lead G = 1) := hid (JG.out.mon hgn.out)
    have hug : Hid (unitB p (lead G) = true) := hid (HF.out.unit_lead JG.out.isp hgn.out)
    have hlig : Hid (lead G * minv p (lead G) % p = 1) := hid (HF.out.linv hp2.1 JG.out.isp hgn.out)
    have hbc : (((X.length : Int) == 0) && ((Y.length : Int) == 0)) = false := by
      rw [Bool.and_eq_false_iff]
      by_cases h : X.length = 0
      · right; rw [beq_eq_false_iff_ne]; intro h2; exact hnil ⟨h, by omega⟩
      · left; rw [beq_eq_false_iff_ne]; omega
    have z24 : Ext w2 w4 := x3.trans x4
    have C4 := hid (pDiv_yes p _ vg X G w4 Hp.out (I1.out.ext z24) IG.out J1.out JG.out.isp (by omega) hgn.out hug.out)
    have key : Calls Try.prog 12 #[.int .u64 p, .slice xa X.length xc, vg] w4 fun e w' => ∃ v1 v2, e = .returned (.tuple #[v1, v2, .int .i64 0]) ∧ Ints .u64 w' v2 [] ∧ Ext w4 w' := by
      refine C4.out.mono ?_
      rintro _ w' ⟨u1, u2, q, r, rfl, d1, d2, d3, d4, d5, d6, d7, d8, _, _⟩
      obtain ⟨t, ht, et⟩ := JG.out.da
      have hr := rest_nil JG.out.isp hgn.out hlig.out d4 d6 ht et d5
      subst hr
      exact ⟨u1, u2, rfl, d2, d8⟩
    have key2 : ∀ W, Ext w4 W → Calls Try.prog 12 #[.int .u64 p, .slice ya Y.length yc, vg] W fun e w' => ∃ v1 v2, e = .returned (.tuple #[v1, v2, .int .i64 0]) ∧ Ints .u64 w' v2 [] ∧ Ext W w' := fun W hW => by
      refine (pDiv_yes p _ vg Y G W Hp.out (I2.out.ext (x4.trans hW)) (IG.out.ext hW) J2.out JG.out.isp (by omega) hgn.out hug.out).mono ?_
      rintro _ w' ⟨u1, u2, q, r, rfl, d1, d2, d3, d4, d5, d6, d7, d8, _, _⟩
      obtain ⟨t, ht, et⟩ := JG.out.db
      have hr := rest_nil JG.out.isp hgn.out hlig.out d4 d6 ht et d5
      subst hr
      exact ⟨u1, u2, rfl, d2, d8⟩
    have key3 : ∀ W, Ext w4 W → Calls Try.prog 12 #[.int .u64 p, vg, .slice a'' zs.length cap''] W fun e w' => ∃ v1 v2, e = .returned (.tuple #[v1, v2, .int .i64 0]) ∧ Ints .u64 w' v2 [] ∧ Ext W w' := fun W hW => by
      refine (pDiv_yes p vg _ G zs W Hp.out (IG.out.ext hW) (Hz.out.ext (y4.trans hW)) JG.out.isp HZ.out (by omega) Hz0.out (HF.out.unit_lead HZ.out Hz0.out)).mono ?_
      rintro _ w' ⟨u1, u2, q, r, rfl, d1, d2, d3, d4, d5, d6, d7, d8, _, _⟩
      obtain ⟨t, ht, et⟩ := JG.out.mul (pol_poly xs) (pol_poly ys) E1.out E2.out
      have hr := rest_nil HZ.out Hz0.out (HF.out.linv hp2.1 HZ.out Hz0.out) d4 d6 ht et d5
      subst hr
      exact ⟨u1, u2, rfl, d2, d8⟩
    have K1 := hid key; have K2 := hid key2; have K3 := hid key3
    clear key key2 key3 C4
    obtain ⟨n, hn⟩ : ∃ n, G.length = n + 1 := ⟨G.length - 1, by have := List.length_pos_iff.2 hgn.out; omega⟩
    have hgi := IG.out
    obtain ⟨ga, gc, rfl, s1, s2, s3⟩ := hgi
    obtain ⟨gb, go, rfl, hgb, hgc⟩ := s3 (by omega)
    have cg := hgc n (by omega)
    rw [show G.getD n 0 = lead G by unfold lead; rw [hn]; rfl, hlg.out] at cg
    clear s3 hgc
    have Hn := hid hn
    rw [hn] at s1 hgl IG K1 K2 K3 ⊢
    have hgo : Hid (∀ W, Ext w4 W → W.cell? ⟨gb, go + n, none⟩ = some (.int .u64 1)) := hid (fun W hW => (hW.cells _ _ hgb).trans cg)
    clear hn cg
    go_upto_region 10 with fail
    go_cut [115] (fun t w' => t = .bool false ∧ w4 = w')
    case first =>
      by_cases hx0 : X.length = 0
      · have b1 : ((X.length : Int) == 0) = true := by rw [beq_iff_eq]; omega
        have b2 : ((Y.length : Int) == 0) = false := by
          rw [beq_eq_false_iff_ne]
          intro h2
          exact hnil ⟨hx0, by omega⟩
        clear hx0 hnil hbc
        go_wp2_with fail
        all_goals (go_meet; exact ⟨rfl, rfl⟩)
      · have b1 : ((X.length : Int) == 0) = false := by rw [beq_eq_false_iff_ne]; omega
        clear hx0 hnil hbc
        go_wp2_with fail
        all_goals (go_meet; exact ⟨rfl, rfl⟩)
    case rest =>
      obtain ⟨rfl, rfl⟩ := hcut
      clear hnil hbc
      go_wp2_with fail
      refine K1.out.mono ?_
      rintro _ w5 ⟨q1v, r1v, rfl, d1, x5⟩
      obtain ⟨r1a, r1c, rfl, u1, u2, u3⟩ := d1
      clear u3
      go_wp2_with fail
      refine (K2.out w5 x5).mono ?_
      rintro _ w6 ⟨q2v, r2v, rfl, d2, x6⟩
      obtain ⟨r2a, r2c, rfl, u3, u4, u5⟩ := d2
      have z6 : Ext w4 w6 := x5.trans x6
      clear u5
      go_wp2_with fail
      refine (K3.out w6 z6).mono ?_
      rintro _ w7 ⟨q3v, r3v, rfl, d3, x7⟩
      obtain ⟨r3a, r3c, rfl, u5, u6, u7⟩ := d3
      have z7 : Ext w4 w7 := z6.trans x7
      have cg := hgo.out w7 z7
      clear u7
      simp only [List.length_nil] at u1 u3 u5 ⊢
      go_wp2_with fail
      refine (pMul_yes p vs _ S X w7 Hp.out (IS.out.ext z7) (I1.out.ext (z24.trans z7)) JS.out J1.out (by omega) (low_of (m := 79) (n := 79) (by omega) l1 (by omega))).mono ?_
      rintro _ w8 ⟨v8, SX, rfl, i8, j8, e8, x8⟩
      have m8 := len_of (m := 79) (by omega) l1 j8 e8 (k := 157) (by omega)
      have I8 := hid i8; have J8 := hid j8; have E8 := hid e8
      have z8 : Ext w4 w8 := z7.trans x8
      clear i8 j8 e8
      go_wp2_with fail
      refine (pMul_yes p vt _ T Y w8 Hp.out (IT.out.ext z8) (I2.out.ext (x4.trans z8)) JT.out J2.out (by omega) (low_of (m := 79) (n := 79) (by omega) l2 (by omega))).mono ?_
      rintro _ w9 ⟨v9, TY, rfl, i9, j9, e9, x9⟩
      have m9 := len_of (m := 79) (by omega) l2 j9 e9 (k := 157) (by omega)
      have I9 := hid i9; have J9 := hid j9; have E9 := hid e9
      have z9 : Ext w4 w9 := z8.trans x9
      clear i9 j9 e9
      go_wp2_with fail
      refine (pAdd_yes p v8 v9 SX TY w9 Hp.out (I8.out.ext x9) I9.out J8.out J9.out (by omega)).mono ?_
      rintro _ w10 ⟨v10, SM, rfl, i10, j10, e10, x10⟩
      have z10 : Ext w4 w10 := z9.trans x10
      obtain rfl : G = SM := JG.out.isp.inj j10 (by rw [e10, E8.out, E9.out, E3.out])
      have I10 := hid i10
      clear i10 j10 e10
      go_wp2_with fail
      refine (pLcm_any p _ _ X Y w10 Hp.out HF.out (I1.out.ext (z24.trans z10)) (I2.out.ext (x4.trans z10)) J1.out J2.out (by omega) (by omega)).mono ?_
      rintro _ w11 ⟨v11, L, rfl, i11, j11, x11⟩
      have z11 : Ext w4 w11 := z10.trans x11
      obtain ⟨m11, hlow⟩ := lcm_low hp2.1 J1.out J2.out JG.out j11 l1 l2
      have hlow' := hid hlow
      have I11 := hid i11; have J11 := hid j11
      clear i11 j11 hlow
      go_wp2_with fail
      refine (pMul_yes p v11 _ L G w11 Hp.out I11.out (IG.out.ext z11) J11.out.isp JG.out.isp (by have := Hn.out; omega) hlow'.out).mono ?_
      rintro _ w12 ⟨v12, LG, rfl, i12, j12, e12, x12⟩
      have z12 : Ext w4 w12 := z11.trans x12
      have I12 := hid i12; have J12 := hid j12; have E12 := hid e12
      clear i12 j12 e12
      go_wp2_with fail
      refine (pMul_yes p _ _ X Y w12 Hp.out (I1.out.ext (z24.trans z12)) (I2.out.ext (x4.trans z12)) J1.out J2.out (by omega) (low_of l1 l2 (by omega))).mono ?_
      rintro _ w13 ⟨v13, XY, rfl, i13, j13, e13, x13⟩
      have z13 : Ext w4 w13 := z12.trans x13
      have m13 := len_of l1 l2 j13 e13 (k := 157) (by omega)
      have I13 := hid i13; have J13 := hid j13; have E13 := hid e13
      clear i13 j13 e13
      go_wp2_with fail
      refine (pMonic_any p v13 XY w13 Hp.out HF.out I13.out J13.out (by omega)).mono ?_
      rintro _ w14 ⟨v14, M, rfl, i14, j14, x14⟩
      have z14 : Ext w4 w14 := z13.trans x14
      obtain rfl : LG = M := lcm_gcd HF.out hp2.1 J1.out J2.out JG.out J11.out J12.out E12.out J13.out E13.out j14
      have I14 := hid i14
      clear i14 j14
      have t10 : Ext w10 w14 := (((x11.trans x12).trans x13).trans x14)
      have s1 := hid (same_yes v10 _ G w14 (I10.out.ext t10) (IG.out.ext z14))
      go_wp2_with fail
      refine s1.out.mono ?_
      rintro _ w15 ⟨rfl, x15⟩
      have s2 := hid (same_yes v12 v14 LG w15 (I12.out.ext ((x13.trans x14).trans x15)) (I14.out.ext x15))
      go_wp2_with fail
      refine s2.out.mono ?_
      rintro _ w16 ⟨rfl, x16⟩
      go_wp2_with fail
      go_ret
      exact ⟨rfl, y4.trans (z14.trans (x15.trans x16))⟩

theorem walk (p : Int) (v : Value) (xs : List Int) (u : Value) (ys : List Int) (z : Value) (zs : List Int) (w : World) (hp : (Lit.int .u64 p).wf = true) (hv : Ints .u64 w v xs) (hx : ∀ x ∈ xs, (Lit.int .u64 x).wf = true) (hu : Ints .u64 w u ys) (hy : ∀ x ∈ ys, (Lit.int .u64 x).wf = true) (hz : Ints .u64 w z zs) (hzz : ∀ x ∈ zs, (Lit.int .u64 x).wf = true) :
    Calls Try.prog 4 #[.int .u64 p, v, u, z] w (Ret (.bool true) w) := by
  have hp := u64_wf hp
  have hx : U64s xs := fun x h => u64_wf (hx x h)
  have hy : U64s ys := fun x h => u64_wf (hy x h)
  have hzz : U64s zs := fun x h => u64_wf (hzz x h)
  by_cases h : xs.length ≤ 40 ∧ ys.length ≤ 40 ∧ zs.length ≤ 40 ∧ takenB p = true ∧ rightPB p xs = true ∧ rightPB p ys = true ∧ rightPB p zs = true ∧ zs.length ≠ 0
  · obtain ⟨g1, g2, g3, gT, g4, g5, g6, g7⟩ := h
    obtain ⟨r1, r2, _⟩ := (rightPB_iff hx).1 g4
    obtain ⟨_, r3, _⟩ := (rightPB_iff hy).1 g5
    obtain ⟨_, r4, _⟩ := (rightPB_iff hzz).1 g6
    exact walk_yes p v u z xs ys zs w hv hu hz g1 g2 g3 gT r1 r2 r3 r4 g7
  · exact walk_no p v u z xs ys zs w hp.1 hp.2 hv hu hz hx hy hzz h
theorem own : ownKnob Try.prog.godebug = none := by kernel_rfl
set_option maxRecDepth 100000 in
theorem lifted (os : Os) (started : os.Started) (H : Type) (enc : TypeId × Value → H) :
    ReturnsInHanded {} Try.checked os 4 .any (Rows.polyGreatestSpec.pre6 enc Try.prog Try.f4 Rows.polyGreatestRow.domain false) (Rows.polyGreatestSpec.post enc Try.prog Try.f4 false true false false) := by
  refine returnsInHanded_of_change (C := Try.checked) own started (by kernel_rfl) Try.func4
    (ChangeSpec.witness6 (enc := enc) (C := Try.checked) false ⟨#[], #[.int .u64 0, .slice none 0 0, .slice none 0 0, .slice none 0 0], []⟩ 8 (by kernel_rfl) (by kernel_rfl) (by kernel_rfl) (by kernel_rfl)) ?_
  intro W base args ds gs before hval0 hW _ _
  have hval : ∀ (j : Nat) t v, Try.f4.params[j]? = some t → args[j]? = some v → Value.okWide Try.prog W .any base t v := hval0
  have hW' := hW
  obtain ⟨p, q, hA0, hV, rfl, _, _⟩ := hW
  have hA : DataW.TrodAll enc Try.prog W 0 (fun _ => true) true Try.f4.params.toList args.toList ds p := hA0
  rw [Try.params4] at hA hval
  obtain ⟨v0, vs0, d0, ds0, p0, q0, hargs, rfl, rfl, h0, r0⟩ := trodAll_cons hA
  obtain ⟨v1, vs1, d1, ds1, p1, q1, rfl, rfl, rfl, h1, r1⟩ := trodAll_cons r0
  obtain ⟨v2, vs2, d2, ds2, p2, q2, rfl, rfl, rfl, h2, r2⟩ := trodAll_cons r1
  obtain ⟨v3, vs3, d3, ds3, p3, q3, rfl, rfl, rfl, h3, r3⟩ := trodAll_cons r2
  obtain ⟨rfl, rfl, rfl⟩ := trodAll_nil r3
  obtain rfl : args = #[v0, v1, v2, v3] := by cases args; simp_all
  obtain ⟨rfl, rfl⟩ := trodVars_none hV
  obtain ⟨a0, rfl, rfl, rfl, w0⟩ := open_int Try.underlying22 (hval 0 22 v0 rfl rfl) h0
  obtain ⟨xs1, i1, w1⟩ := open_Ints Try.underlying23 Try.underlying22 (by kernel_rfl) (hval 1 23 v1 rfl rfl) h1
  obtain ⟨xs2, i2, w2⟩ := open_Ints Try.underlying23 Try.underlying22 (by kernel_rfl) (hval 2 23 v2 rfl rfl) h2
  obtain ⟨xs3, i3, w3⟩ := open_Ints Try.underlying23 Try.underlying22 (by kernel_rfl) (hval 3 23 v3 rfl rfl) h3
  refine (walk a0 v1 xs1 v2 xs2 v3 xs3 W w0 i1 w1 i2 w2 i3 w3).mono fun e W' ⟨he, hg⟩ => ⟨_, he, ?_⟩
  exact law_post (by kernel_rfl) (by kernel_rfl) rfl Try.underlying4 rfl rfl hW' hg

/-- the statement -/
theorem proved : Rows.PolyGreatestSaid :=
  OpenClaim.holds_of_wide 4 Try.f4 rfl rfl rfl rfl rfl rfl rfl ⟨rfl, rfl, rfl, rfl, rfl⟩ rfl rfl rfl rfl rfl (by kernel_rfl) Try.func4 (by kernel_rfl)
    (of_decide_eq_true (by kernel_rfl)) (by unfold Func.isWrapper; first | (rw [if_pos (by decide +kernel)]; kernel_rfl) | (rw [if_neg (by decide +kernel)]; exact ⟨rfl, rfl⟩))
    (fun os started H enc _ => lifted os started H enc)
end Go.Proofs.Ytgeinhlhhlmciaa.polyGreatest
