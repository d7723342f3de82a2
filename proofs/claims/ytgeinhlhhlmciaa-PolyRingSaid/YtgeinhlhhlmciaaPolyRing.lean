/- PolyRing: whatever the number and the lists, the law answers true, and nothing that was there has turned. No condition. -/
import Derived.Test.YtgeinhlhhlmciaaAwake03
namespace Go.Proofs.Ytgeinhlhhlmciaa.polyRing
open Go.ChangeShapes Go.WideShapes Go.ChangeAt Go.RowKit

set_option maxRecDepth 100000 in
set_option maxHeartbeats 2000000 in
theorem walk_no (p : Int) (v u z : Value) (xs ys zs : List Int) (w : World) (h0 : 0 ≤ p) (h1 : p ≤ 18446744073709551615) (hv : Ints .u64 w v xs) (hu : Ints .u64 w u ys) (hz : Ints .u64 w z zs) (hx : U64s xs) (hy : U64s ys) (hzz : U64s zs)
    (h : ¬ (xs.length ≤ 40 ∧ ys.length ≤ 40 ∧ zs.length ≤ 40 ∧ rightPB p xs = true ∧ rightPB p ys = true ∧ rightPB p zs = true)) : Calls Try.prog 6 #[.int .u64 p, v, u, z] w (Ret (.bool true) w) := by
  have cX : ∀ W, Ext w W → Calls Try.prog 11 #[.int .u64 p, v] W fun e w' => e = .returned (.bool (rightPB p xs)) ∧ W = w' := fun W hW => polRight_any p v xs W h0 h1 (hv.ext hW) hx
  have cY : ∀ W, Ext w W → Calls Try.prog 11 #[.int .u64 p, u] W fun e w' => e = .returned (.bool (rightPB p ys)) ∧ W = w' := fun W hW => polRight_any p u ys W h0 h1 (hu.ext hW) hy
  have cZ : ∀ W, Ext w W → Calls Try.prog 11 #[.int .u64 p, z] W fun e w' => e = .returned (.bool (rightPB p zs)) ∧ W = w' := fun W hW => polRight_any p z zs W h0 h1 (hz.ext hW) hzz
  obtain ⟨X, hX⟩ : ∃ X, rightPB p xs = X := ⟨_, rfl⟩
  obtain ⟨Y, hY⟩ : ∃ Y, rightPB p ys = Y := ⟨_, rfl⟩
  obtain ⟨Z, hZ⟩ : ∃ Z, rightPB p zs = Z := ⟨_, rfl⟩
  rw [hX] at cX h; rw [hY] at cY h; rw [hZ] at cZ h
  obtain ⟨a, cap, rfl, k1, k2, k3⟩ := hv
  obtain ⟨a', cap', rfl, m1, m2, m3⟩ := hu
  obtain ⟨a'', cap'', rfl, n1, n2, n3⟩ := hz
  have CX := hid cX; have CY := hid cY; have CZ := hid cZ
  clear cX cY cZ k3 m3 n3 hX hY hZ hx hy hzz
  by_cases g1 : xs.length ≤ 40
  · by_cases g2 : ys.length ≤ 40
    · by_cases g3 : zs.length ≤ 40
      · cases X with
        | false =>
          clear h
          go_enter Try.func6, Try.ntmps6
          go_wp2_with (first | (go_at_call 9; refine (awake03 w).mono ?_; rintro _ w1 ⟨rfl, x1⟩) | (go_at_call_of 11 a; refine (CX.out w1 x1).mono ?_; rintro _ _ ⟨rfl, rfl⟩))
          go_ret
          exact ⟨rfl, (by repeat (first | exact Ext.refl _ | assumption | refine Ext.drew ?_ | refine Ext.drewN ?_ _ | refine Ext.alloc ?_ _ | refine Ext.trans ?_ (by assumption)))⟩
        | true =>
          cases Y with
          | false =>
            clear h
            go_enter Try.func6, Try.ntmps6
            go_wp2_with (first | (go_at_call 9; refine (awake03 w).mono ?_; rintro _ w1 ⟨rfl, x1⟩) | (go_at_call_of 11 a; refine (CX.out w1 x1).mono ?_; rintro _ _ ⟨rfl, rfl⟩) | (go_at_call_of 11 a'; refine (CY.out w1 x1).mono ?_; rintro _ _ ⟨rfl, rfl⟩))
            go_ret
            exact ⟨rfl, (by repeat (first | exact Ext.refl _ | assumption | refine Ext.drew ?_ | refine Ext.drewN ?_ _ | refine Ext.alloc ?_ _ | refine Ext.trans ?_ (by assumption)))⟩
          | true =>
            cases Z with
            | false =>
              clear h
              go_enter Try.func6, Try.ntmps6
              go_wp2_with (first | (go_at_call 9; refine (awake03 w).mono ?_; rintro _ w1 ⟨rfl, x1⟩) | (go_at_call_of 11 a; refine (CX.out w1 x1).mono ?_; rintro _ _ ⟨rfl, rfl⟩) | (go_at_call_of 11 a'; refine (CY.out w1 x1).mono ?_; rintro _ _ ⟨rfl, rfl⟩) | (go_at_call_of 11 a''; refine (CZ.out w1 x1).mono ?_; rintro _ _ ⟨rfl, rfl⟩))
              go_ret
              exact ⟨rfl, (by repeat (first | exact Ext.refl _ | assumption | refine Ext.drew ?_ | refine Ext.drewN ?_ _ | refine Ext.alloc ?_ _ | refine Ext.trans ?_ (by assumption)))⟩
            | true => exact absurd ⟨g1, g2, g3, rfl, rfl, rfl⟩ h
      · clear h
        go_enter Try.func6, Try.ntmps6
        go_wp2_with (go_at_call 9; refine (awake03 w).mono ?_; rintro _ w1 ⟨rfl, x1⟩)
        go_ret
        exact ⟨rfl, (by repeat (first | exact Ext.refl _ | assumption | refine Ext.drew ?_ | refine Ext.drewN ?_ _ | refine Ext.alloc ?_ _ | refine Ext.trans ?_ (by assumption)))⟩
    · clear h
      go_enter Try.func6, Try.ntmps6
      go_wp2_with (go_at_call 9; refine (awake03 w).mono ?_; rintro _ w1 ⟨rfl, x1⟩)
      go_ret
      exact ⟨rfl, (by repeat (first | exact Ext.refl _ | assumption | refine Ext.drew ?_ | refine Ext.drewN ?_ _ | refine Ext.alloc ?_ _ | refine Ext.trans ?_ (by assumption)))⟩
  · clear h
    go_enter Try.func6, Try.ntmps6
    go_wp2_with (go_at_call 9; refine (awake03 w).mono ?_; rintro _ w1 ⟨rfl, x1⟩)
    go_ret
    exact ⟨rfl, (by repeat (first | exact Ext.refl _ | assumption | refine Ext.drew ?_ | refine Ext.drewN ?_ _ | refine Ext.alloc ?_ _ | refine Ext.trans ?_ (by assumption)))⟩

theorem low_of {p : Int} {A B : List Int} {m n k : Nat} (h1 : A.length ≤ m) (h2 : B.length ≤ n) (hk : m + n - 1 ≤ k) : (pol p A * pol p B).low k := ((pol_low A).mul (pol_low B)).mono (by omega)
theorem len_of {p : Int} {A B C : List Int} {m n k : Nat} (h1 : A.length ≤ m) (h2 : B.length ≤ n) (hC : Pol p C) (h : pol p C = pol p A * pol p B) (hk : m + n - 1 ≤ k) : C.length ≤ k := hC.len_le (h ▸ low_of h1 h2 hk)

set_option maxRecDepth 100000 in
set_option maxHeartbeats 4000000 in
theorem walk_yes (p : Int) (v u z : Value) (xs ys zs : List Int) (w : World) (hv : Ints .u64 w v xs) (hu : Ints .u64 w u ys) (hz : Ints .u64 w z zs)
    (g1 : xs.length ≤ 40) (g2 : ys.length ≤ 40) (g3 : zs.length ≤ 40) (hp : rightB p = true) (hX : Pol p xs) (hY : Pol p ys) (hZ : Pol p zs) : Calls Try.prog 6 #[.int .u64 p, v, u, z] w (Ret (.bool true) w) := by
  have hp2 := rightB_true hp
  have cX : ∀ W, Ext w W → Calls Try.prog 11 #[.int .u64 p, v] W fun e w' => e = .returned (.bool true) ∧ W = w' := fun W hW => polRight_yes p v xs W hp (hv.ext hW) hX (by omega)
  have cY : ∀ W, Ext w W → Calls Try.prog 11 #[.int .u64 p, u] W fun e w' => e = .returned (.bool true) ∧ W = w' := fun W hW => polRight_yes p u ys W hp (hu.ext hW) hY (by omega)
  have cZ : ∀ W, Ext w W → Calls Try.prog 11 #[.int .u64 p, z] W fun e w' => e = .returned (.bool true) ∧ W = w' := fun W hW => polRight_yes p z zs W hp (hz.ext hW) hZ (by omega)
  have cP : ∀ W, Calls Try.prog 10 #[.int .u64 p] W fun e w' => e = .returned (.bool (takenB p)) ∧ W = w' := fun W => prime_any p W (by omega)
  have hF : takenB p = true → Fld p := taken_fld
  obtain ⟨T, hT⟩ : ∃ T, takenB p = T := ⟨_, rfl⟩
  rw [hT] at cP hF
  have CX := hid cX; have CY := hid cY; have CZ := hid cZ; have CP := hid cP; have HF := hid hF
  have Hv := hid hv; have Hu := hid hu; have Hz := hid hz; have HX := hid hX; have HY := hid hY; have HZ := hid hZ; have Hp := hid hp
  obtain ⟨a, cap, rfl, k1, k2, k3⟩ := hv
  obtain ⟨a', cap', rfl, m1, m2, m3⟩ := hu
  obtain ⟨a'', cap'', rfl, n1, n2, n3⟩ := hz
  clear k3 m3 n3 hX hY hZ hp cX cY cZ cP hF hT
  go_enter Try.func6, Try.ntmps6
  go_wp2_with (first | (go_at_call 9; refine (awake03 w).mono ?_; rintro _ w1 ⟨rfl, x1⟩) | (go_at_call_of 11 a; refine (CX.out w1 x1).mono ?_; rintro _ _ ⟨rfl, rfl⟩) | (go_at_call_of 11 a'; refine (CY.out w1 x1).mono ?_; rintro _ _ ⟨rfl, rfl⟩) | (go_at_call_of 11 a''; refine (CZ.out w1 x1).mono ?_; rintro _ _ ⟨rfl, rfl⟩) | fail)
  refine (pMul_yes p _ _ xs ys w1 Hp.out (Hv.out.ext x1) (Hu.out.ext x1) HX.out HY.out (by omega) (low_of g1 g2 (by omega))).mono ?_
  rintro _ w2 ⟨v1, ab, rfl, i1, j1, e1, x2⟩
  have l1 := len_of g1 g2 j1 e1 (k := 79) (by omega)
  have I1 := hid i1; have J1 := hid j1; have E1 := hid e1
  clear i1 j1 e1
  have y2 : Ext w w2 := x1.trans x2
  go_wp2_with fail
  refine (pMul_yes p _ _ ys xs w2 Hp.out (Hu.out.ext y2) (Hv.out.ext y2) HY.out HX.out (by omega) (low_of g2 g1 (by omega))).mono ?_
  rintro _ w3 ⟨v2, ba, rfl, i2, j2, e2, x3⟩
  obtain rfl : ba = ab := j2.inj J1.out (by rw [e2, E1.out, Ser.mul_comm])
  have I2 := hid i2
  clear i2 j2 e2
  have y3 : Ext w w3 := y2.trans x3
  go_wp2_with fail
  refine (pMul_yes p v1 _ ba zs w3 Hp.out (I1.out.ext x3) (Hz.out.ext y3) J1.out HZ.out (by omega) (low_of l1 g3 (by omega))).mono ?_
  rintro _ w4 ⟨v3, x, rfl, i3, j3, e3, x4⟩
  have I3 := hid i3; have J3 := hid j3; have E3 := hid e3
  clear i3 j3 e3
  have y4 : Ext w w4 := y3.trans x4
  go_wp2_with fail
  refine (pMul_yes p _ _ ys zs w4 Hp.out (Hu.out.ext y4) (Hz.out.ext y4) HY.out HZ.out (by omega) (low_of g2 g3 (by omega))).mono ?_
  rintro _ w5 ⟨v4, bc, rfl, i4, j4, e4, x5⟩
  have l4 := len_of g2 g3 j4 e4 (k := 79) (by omega)
  have y5 : Ext w w5 := y4.trans x5
  have C5 := hid (pMul_yes p _ v4 xs bc w5 Hp.out (Hv.out.ext y5) i4 HX.out j4 (by omega) (low_of g1 l4 (by omega)))
  have E4 := hid e4
  clear i4 j4 e4
  go_wp2_with fail
  refine C5.out.mono ?_
  rintro _ w6 ⟨v5, y, rfl, i5, j5, e5, x6⟩
  obtain rfl : y = x := j5.inj J3.out (by rw [e5, E4.out, E3.out, E1.out, Ser.mul_assoc])
  have I5 := hid i5
  clear i5 j5 e5
  have y6 : Ext w w6 := y5.trans x6
  go_wp2_with fail
  refine (pAdd_yes p _ _ ys zs w6 Hp.out (Hu.out.ext y6) (Hz.out.ext y6) HY.out HZ.out (by omega)).mono ?_
  rintro _ w7 ⟨v6, s, rfl, i6, j6, e6, x7⟩
  have l6 : s.length ≤ 40 := j6.len_le (e6 ▸ ((pol_low ys).mono g2).add ((pol_low zs).mono g3))
  have I6 := hid i6; have J6 := hid j6; have E6 := hid e6
  clear i6 j6 e6
  have y7 : Ext w w7 := y6.trans x7
  go_wp2_with fail
  refine (pMul_yes p _ v6 xs s w7 Hp.out (Hv.out.ext y7) I6.out HX.out J6.out (by omega) (low_of g1 l6 (by omega))).mono ?_
  rintro _ w8 ⟨v7, t, rfl, i7, j7, e7, x8⟩
  have I7 := hid i7; have J7 := hid j7; have E7 := hid e7
  clear i7 j7 e7
  have y8 : Ext w w8 := y7.trans x8
  go_wp2_with fail
  refine (pMul_yes p _ _ xs zs w8 Hp.out (Hv.out.ext y8) (Hz.out.ext y8) HX.out HZ.out (by omega) (low_of g1 g3 (by omega))).mono ?_
  rintro _ w9 ⟨v8, ac, rfl, i8, j8, e8, x9⟩
  have l8 := len_of g1 g3 j8 e8 (k := 79) (by omega)
  have z39 : Ext w3 w9 := x4.trans (x5.trans (x6.trans (x7.trans (x8.trans x9))))
  have C9 := hid (pAdd_yes p v1 v8 ba ac w9 Hp.out (I1.out.ext (x3.trans z39)) i8 J1.out j8 (by omega))
  have E8 := hid e8
  clear i8 j8 e8
  go_wp2_with fail
  refine C9.out.mono ?_
  rintro _ w10 ⟨v9, t', rfl, i9, j9, e9, x10⟩
  obtain rfl : t' = t := j9.inj J7.out (by rw [e9, E7.out, E6.out, E1.out, E8.out, Ser.mul_add])
  have I9 := hid i9
  clear i9 j9 e9
  have y10 : Ext w w10 := (y8.trans x9).trans x10
  have z710 : Ext w7 w10 := x8.trans (x9.trans x10)
  go_wp2_with fail
  refine (pSub_yes p v6 _ s zs w10 Hp.out (I6.out.ext z710) (Hz.out.ext y10) J6.out HZ.out (by omega)).mono ?_
  rintro _ w11 ⟨v10, d, rfl, i10, j10, e10, x11⟩
  obtain rfl : d = ys := j10.inj HY.out (by rw [e10, E6.out, Ser.add_sub])
  have I10 := hid i10
  clear i10 j10 e10
  have y11 : Ext w w11 := y10.trans x11
  have z311 : Ext w3 w11 := (z39.trans x10).trans x11
  have s1 := hid (same_yes v1 v2 ba w11 (I1.out.ext (x3.trans z311)) (I2.out.ext z311))
  go_wp2_with fail
  refine s1.out.mono ?_
  rintro _ w12 ⟨rfl, x12⟩
  have z611 : Ext w6 w11 := x7.trans (z710.trans x11)
  have s2 := hid (same_yes v3 v5 y w12 (I3.out.ext ((x5.trans (x6.trans z611)).trans x12)) (I5.out.ext (z611.trans x12)))
  go_wp2_with fail
  refine s2.out.mono ?_
  rintro _ w13 ⟨rfl, x13⟩
  have s3 := hid (same_yes v7 v9 t' w13 (I7.out.ext ((x9.trans (x10.trans x11)).trans (x12.trans x13))) (I9.out.ext (x11.trans (x12.trans x13))))
  go_wp2_with fail
  refine s3.out.mono ?_
  rintro _ w14 ⟨rfl, x14⟩
  have y14 : Ext w w14 := y11.trans (x12.trans (x13.trans x14))
  have s4 := hid (same_yes v10 _ d w14 (I10.out.ext (x12.trans (x13.trans x14))) (Hu.out.ext y14))
  go_wp2_with fail
  refine s4.out.mono ?_
  rintro _ w15 ⟨rfl, x15⟩
  have y15 : Ext w w15 := y14.trans x15
  obtain ⟨va, vc, rfl, q1, q2, q3⟩ := I1.out
  have hlen : Hid (T = true → xs.length ≠ 0 → d.length ≠ 0 → ba.length + 1 = xs.length + d.length) := hid (fun ht n1 n2 => by
    have := (HF.out ht).mul_len hp2.1 HX.out HY.out J1.out (fun e => n1 (by rw [e]; rfl)) (fun e => n2 (by rw [e]; rfl)) E1.out
    omega)
  clear q3 s1 s2 s3 s4 C5 C9 I1
  cases T with
  | false =>
    clear hlen
    go_wp2_with (go_at_call 10; refine (CP.out w15).mono ?_; rintro _ _ ⟨rfl, rfl⟩)
    go_ret
    exact ⟨rfl, y15⟩
  | true =>
    by_cases n1 : xs.length = 0
    · clear hlen
      go_wp2_with (go_at_call 10; refine (CP.out w15).mono ?_; rintro _ _ ⟨rfl, rfl⟩)
      go_ret
      exact ⟨rfl, y15⟩
    · have b1 : ((xs.length : Int) == 0) = false := by rw [beq_eq_false_iff_ne]; omega
      by_cases n2 : d.length = 0
      · clear hlen
        go_wp2_with (go_at_call 10; refine (CP.out w15).mono ?_; rintro _ _ ⟨rfl, rfl⟩)
        go_ret
        exact ⟨rfl, y15⟩
      · have b2 : ((d.length : Int) == 0) = false := by rw [beq_eq_false_iff_ne]; omega
        have hl := hlen.out rfl n1 n2
        have b3 : ((ba.length : Int) == (xs.length : Int) + (d.length : Int) - 1) = true := by rw [beq_iff_eq]; omega
        clear hlen n1 n2
        go_wp2_with (go_at_call 10; refine (CP.out w15).mono ?_; rintro _ _ ⟨rfl, rfl⟩)
        go_ret
        exact ⟨rfl, y15⟩

theorem walk (p : Int) (v : Value) (xs : List Int) (u : Value) (ys : List Int) (z : Value) (zs : List Int) (w : World) (hp : (Lit.int .u64 p).wf = true) (hv : Ints .u64 w v xs) (hx : ∀ x ∈ xs, (Lit.int .u64 x).wf = true) (hu : Ints .u64 w u ys) (hy : ∀ x ∈ ys, (Lit.int .u64 x).wf = true) (hz : Ints .u64 w z zs) (hzz : ∀ x ∈ zs, (Lit.int .u64 x).wf = true) :
    Calls Try.prog 6 #[.int .u64 p, v, u, z] w (Ret (.bool true) w) := by
  have hp := u64_wf hp
  have hx : U64s xs := fun x h => u64_wf (hx x h)
  have hy : U64s ys := fun x h => u64_wf (hy x h)
  have hzz : U64s zs := fun x h => u64_wf (hzz x h)
  by_cases h : xs.length ≤ 40 ∧ ys.length ≤ 40 ∧ zs.length ≤ 40 ∧ rightPB p xs = true ∧ rightPB p ys = true ∧ rightPB p zs = true
  · obtain ⟨g1, g2, g3, g4, g5, g6⟩ := h
    obtain ⟨r1, r2, _⟩ := (rightPB_iff hx).1 g4
    obtain ⟨_, r3, _⟩ := (rightPB_iff hy).1 g5
    obtain ⟨_, r4, _⟩ := (rightPB_iff hzz).1 g6
    exact walk_yes p v u z xs ys zs w hv hu hz g1 g2 g3 r1 r2 r3 r4
  · exact walk_no p v u z xs ys zs w hp.1 hp.2 hv hu hz hx hy hzz h

theorem own : ownKnob Try.prog.godebug = none := by kernel_rfl
set_option maxRecDepth 100000 in
theorem lifted (os : Os) (started : os.Started) (H : Type) (enc : TypeId × Value → H) :
    ReturnsInHanded {} Try.checked os 6 .any (Rows.polyRingSpec.pre6 enc Try.prog Try.f6 Rows.polyRingRow.domain false) (Rows.polyRingSpec.post enc Try.prog Try.f6 false true false false) := by
  refine returnsInHanded_of_change (C := Try.checked) own started (by kernel_rfl) Try.func6
    (ChangeSpec.witness6 (enc := enc) (C := Try.checked) false ⟨#[], #[.int .u64 0, .slice none 0 0, .slice none 0 0, .slice none 0 0], []⟩ 8 (by kernel_rfl) (by kernel_rfl) (by kernel_rfl) (by kernel_rfl)) ?_
  intro W base args ds gs before hval0 hW _ _
  have hval : ∀ (j : Nat) t v, Try.f6.params[j]? = some t → args[j]? = some v → Value.okWide Try.prog W .any base t v := hval0
  have hW' := hW
  obtain ⟨p, q, hA0, hV, rfl, _, _⟩ := hW
  have hA : DataW.TrodAll enc Try.prog W 0 (fun _ => true) true Try.f6.params.toList args.toList ds p := hA0
  rw [Try.params6] at hA hval
  obtain ⟨v0, vs0, d0, ds0, p0, q0, hargs, rfl, rfl, h0, r0⟩ := trodAll_cons hA
  obtain ⟨v1, vs1, d1, ds1, p1, q1, rfl, rfl, rfl, h1, r1⟩ := trodAll_cons r0
  obtain ⟨v2, vs2, d2, ds2, p2, q2, rfl, rfl, rfl, h2, r2⟩ := trodAll_cons r1
  obtain ⟨v3, vs3, d3, ds3, p3, q3, rfl, rfl, rfl, h3, r3⟩ := trodAll_cons r2
  obtain ⟨rfl, rfl, rfl⟩ := trodAll_nil r3
  obtain rfl : args = #[v0, v1, v2, v3] := by cases args; simp_all
  obtain ⟨rfl, rfl⟩ := trodVars_none hV
  obtain ⟨a0, rfl, rfl, rfl, w0⟩ := open_int Try.underlying22 (hval 0 22 v0 rfl rfl) h0
  obtain ⟨xs1, i1, w1⟩ := open_Ints Try.underlying23 Try.underlying22 (by kernel_rfl) (hval 1 23 v1 rfl rfl) h1
  obtain ⟨xs2, i2, w2⟩ := open_Ints Try.underlying23 Try.underlying22 (by kernel_rfl) (hval 2 23 v2 rfl rfl) h2
  obtain ⟨xs3, i3, w3⟩ := open_Ints Try.underlying23 Try.underlying22 (by kernel_rfl) (hval 3 23 v3 rfl rfl) h3
  refine (walk a0 v1 xs1 v2 xs2 v3 xs3 W w0 i1 w1 i2 w2 i3 w3).mono fun e W' ⟨he, hg⟩ => ⟨_, he, ?_⟩
  exact law_post (by kernel_rfl) (by kernel_rfl) rfl Try.underlying4 rfl rfl hW' hg

/-- the statement -/
theorem proved : Rows.PolyRingSaid :=
  OpenClaim.holds_of_wide 6 Try.f6 rfl rfl rfl rfl rfl rfl rfl ⟨rfl, rfl, rfl, rfl, rfl⟩ rfl rfl rfl rfl rfl (by kernel_rfl) Try.func6 (by kernel_rfl)
    (of_decide_eq_true (by kernel_rfl)) (by unfold Func.isWrapper; first | (rw [if_pos (by decide +kernel)]; kernel_rfl) | (rw [if_neg (by decide +kernel)]; exact ⟨rfl, rfl⟩))
    (fun os started H enc _ => lifted os started H enc)
end Go.Proofs.Ytgeinhlhhlmciaa.polyRing
