/- KrylovCompanion: whatever the number, the polynomial and the two matrices, the law answers true, and nothing that was there has turned. No condition. -/
import Derived.Test.YtfpmcajndgkgeaaKrylovCompanionS
import Derived.Test.YtfpmcajndgkgeaaLaw9
import Derived.Test.YtfpmcajndgkgeaaKryD
import Derived.Test.YtfpmcajndgkgeaaBun05
import Derived.Test.YtfpmcajndgkgeaaSvC
import Derived.Test.YtfpmcajndgkgeaaBun19
import Derived.Test.YtfpmcajndgkgeaaMx5
namespace Go.Proofs.Ytfpmcajndgkgeaa.krylovCompanion
open Go.ChangeShapes Go.WideShapes Go.ChangeAt Go.RowKit Go.Maps


/-- a matrix of some kind, an error's number; where it is 0, it is so -/
def RetQ (Q : Int → Int → List Int → Prop) (w : World) (e : Ending) (w' : World) : Prop := ∃ r c a k l g, e = .returned (.tuple #[.agg #[.int .i64 r, .int .i64 c, .slice a l.length k], .int .i64 g]) ∧ Ints .u64 w' (.slice a l.length k) l ∧ U64s l ∧ Hid (g = 0 → Q r c l) ∧ Ext w w'
theorem retNo {Q : Int → Int → List Int → Prop} {g : Int} (hg : g ≠ 0) {F : Nat} {xs : Array Value} {w : World} (h : Calls Try.prog F xs w (RetNo g w)) : Calls Try.prog F xs w (RetQ Q w) := by
  refine h.mono ?_
  rintro _ w' ⟨u, rfl, hu, hx⟩
  have hu' := hu
  obtain ⟨a, cap, rfl, _, _, _⟩ := hu
  exact ⟨0, 0, a, cap, [], g, rfl, hu', (fun _ h => absurd h (by simp)), hid (fun h => absurd h hg), hx⟩
theorem retNoMat {Q : Int → Int → List Int → Prop} {F : Nat} {xs : Array Value} {w : World} (h : Calls Try.prog F xs w (Ret noMat w)) : Calls Try.prog F xs w (RetQ Q w) := by
  refine h.mono ?_
  rintro _ w' ⟨rfl, hx⟩
  exact ⟨0, 0, none, 0, [], 1, rfl, Ints.nil, (fun _ h => absurd h (by simp)), hid (fun h => absurd h (by decide)), hx⟩
theorem retYes {Q : Int → Int → List Int → Prop} {r c : Int} {l : List Int} (hl : U64s l) (hQ : Q r c l) {F : Nat} {xs : Array Value} {w : World} (h : Calls Try.prog F xs w (RetN r c l w)) : Calls Try.prog F xs w (RetQ Q w) := by
  refine h.mono ?_
  rintro _ w' ⟨u, rfl, hu, hx⟩
  have hu' := hu
  obtain ⟨a, cap, rfl, _, _, _⟩ := hu
  exact ⟨r, c, a, cap, l, 0, rfl, hu', hl, hid (fun _ => hQ), hx⟩
/-- of a product -/
def MulQ (p r c r' c' : Int) (xs ys : List Int) (R C : Int) (l : List Int) : Prop := ∃ m n q : Nat, r = m ∧ c = n ∧ r' = n ∧ c' = q ∧ R = m ∧ C = q ∧ MatOk p m n xs ∧ MatOk p n q ys ∧ l = mulL p m n q xs ys
theorem mul_any (p r c r' c' : Int) (v u : Value) (xs ys : List Int) (W : World) (h0 : 0 ≤ p) (h1 : p ≤ 18446744073709551615) (hv : Ints .u64 W v xs) (hx : U64s xs) (hu : Ints .u64 W u ys) (hy : U64s ys) :
    Calls Try.prog 46 #[.int .u64 p, matV r c v, matV r' c' u] W (RetQ (MulQ p r c r' c' xs ys) W) := by
  cases h : (matB p r c xs && matB p r' c' ys && decide (c = r')) with
  | false => exact retNoMat (mxMul_no p r c r' c' v u xs ys W h0 h1 hv hx hu hy h)
  | true =>
    simp only [Bool.and_eq_true, decide_eq_true_eq] at h
    obtain ⟨⟨h2, h3⟩, h4⟩ := h
    obtain ⟨m, n, rfl, rfl, ok⟩ := MatOk.of hx h2
    obtain ⟨n', q, rfl, rfl, ok'⟩ := MatOk.of hy h3
    obtain rfl : n = n' := by omega
    have hp2 := rightB_true ok.hp
    exact retYes ((mulL_rng hp2.1 _ _ _ _ _).u64 hp2.2) ⟨m, n, q, rfl, rfl, rfl, rfl, rfl, rfl, ok, ok', rfl⟩ (mxMul_yes p m n q v u xs ys W ok ok' hv hu)
/-- of an inverse -/
def InvQ (p r c : Int) (ys : List Int) (R C : Int) (l : List Int) : Prop := ∃ n : Nat, r = n ∧ c = n ∧ R = n ∧ C = n ∧ MatOk p n n ys ∧ IsInv p n ys l ∧ (takeL p n n ys).U.length = n
theorem inv_any (p r c : Int) (u : Value) (ys : List Int) (W : World) (h0 : 0 ≤ p) (h1 : p ≤ 18446744073709551615) (hf : Fld p) (hy : U64s ys) (hu : Ints .u64 W u ys) :
    Calls Try.prog 45 #[.int .u64 p, matV r c u] W (RetQ (InvQ p r c ys) W) := by
  cases h : (matB p r c ys && decide (r = c)) with
  | false => exact retNo (by decide) (svInverse_arg p r c u ys W h0 h1 hu hy h)
  | true =>
    simp only [Bool.and_eq_true, decide_eq_true_eq] at h
    obtain ⟨m, n, rfl, rfl, ok⟩ := MatOk.of hy h.1
    obtain rfl : m = n := by omega
    have hp2 := rightB_true ok.hp
    by_cases hr : (takeL p m m ys).U.length = m
    · obtain ⟨vs, hvs⟩ := IsInv.of ok hf hr
      exact retYes (hvs.rng.u64 hp2.2) ⟨m, rfl, rfl, rfl, rfl, ok, hvs, hr⟩ (svInverse_yes p m u ys vs W ok hf hu hr hvs)
    · exact retNo (by decide) (svInverse_no p m u ys W ok hf hu hr)
/-- of a companion -/
def CompQ (p : Int) (f : List Int) (R C : Int) (l : List Int) : Prop := ∃ n : Nat, R = n ∧ C = n ∧ f.length = n + 1 ∧ 1 ≤ n ∧ f.getD n 0 = 1 ∧ Pol p f ∧ MatOk p n n l ∧ MinL p n l f ∧ detF n (atF n l) % p = if n % 2 = 1 then (0 - f.getD 0 0) % p else f.getD 0 0
theorem comp_any (p : Int) (vf : Value) (f : List Int) (W : World) (h0 : 0 ≤ p) (h1 : p ≤ 18446744073709551615) (hfv : Ints .u64 W vf f) (hfx : U64s f) (hl : f.length ≤ 7) :
    Calls Try.prog 30 #[.int .u64 p, vf] W (RetQ (CompQ p f) W) := by
  cases h : compB p f with
  | false => exact retNoMat (krCompanion_no p vf f W h0 h1 hfv hfx (by omega) h)
  | true =>
    obtain ⟨n, k1, k2, k3, k4, k5⟩ := compB_of hfx h
    have hp2 := rightB_true k4
    have ok := comp_ok (f := f) k4 k2
    exact retYes ok.u64 ⟨n, rfl, rfl, k1, k2.1, k3, k5, ok, comp_min hp2.1 k5 k1 k2.1 k3, comp_det hp2.1 k5 k2.1⟩ (krCompanion p n vf f W k4 hfv k5 k1 k2 k3)
set_option maxRecDepth 100000 in
set_option maxHeartbeats 4000000 in
theorem walk_yes (p r c r' c' : Int) (vf v u : Value) (f xs ys : List Int) (w : World) (h0 : 0 ≤ p) (h1 : p ≤ 18446744073709551615) (hT : takenB p = true) (hfl : f.length ≤ 7) (hxl : xs.length ≤ 36) (hyl : ys.length ≤ 36) (hfx : U64s f) (hx : U64s xs) (hy : U64s ys) (hfv : Ints .u64 w vf f) (hv : Ints .u64 w v xs) (hu : Ints .u64 w u ys) :
    Calls Try.prog 6 #[.int .u64 p, vf, matV r c v, matV r' c' u] w (Ret (.bool true) w) := by
  have hf := taken_fld hT
  have C1 := hid fun (W : World) => (hT ▸ prime_any09 p W h0 : Calls Try.prog 25 #[.int .u64 p] W fun e w' => e = .returned (.bool true) ∧ W = w')
  have CK := hid fun (W : World) (hW : Ext w W) => comp_any p vf f W h0 h1 (hfv.ext hW) hfx hfl
  have CI := hid fun (W : World) (hW : Ext w W) => inv_any p r' c' u ys W h0 h1 hf hy (hu.ext hW)
  have CM := hid fun (W : World) (hW : Ext w W) => mul_any p r' c' r c u v ys xs W h0 h1 (hu.ext hW) hy (hv.ext hW) hx
  have CN := hid fun (W : World) (r1 c1 r2 c2 : Int) (v1 v2 : Value) (l1 l2 : List Int) (i1 : Ints .u64 W v1 l1) (b1 : U64s l1) (i2 : Ints .u64 W v2 l2) (b2 : U64s l2) => mul_any p r1 c1 r2 c2 v1 v2 l1 l2 W h0 h1 i1 b1 i2 b2
  have CL := hid fun (W : World) (n : Nat) (z : Value) (l h : List Int) (ok : MatOk p n n l) (hz : Ints .u64 W z l) (hh : MinL p n l h) => krMin p n z l h W ok hf hz hh
  have CD := hid fun (W : World) (n : Nat) (z : Value) (l : List Int) (ok : MatOk p n n l) (hz : Ints .u64 W z l) => cmDet_yes p n z l W ok hf hz
  have CS := hid fun (W : World) (n : Nat) (z y : Value) (l : List Int) (ok : MatOk p n n l) (hy : Ints .u64 W y f) (hz : Ints .u64 W z l) (hh : MinL p n l f) => (show Calls Try.prog 34 #[.int .u64 p, y, matV n n z] W (Ret (.bool true) W) from (decide_eq_true (rfl : f = f) : decide (f = f) = true) ▸ krSame p n y z f l f W ok hf hy hz hh)
  have HFL := hid hf; have H0 := hid h0; have H1 := hid h1
  have HFv := hid hfv; have HV := hid hv; have HU := hid hu
  have t1 : decide (7 < (f.length : Int)) = false := decide_eq_false (by omega)
  have t1' : decide (7 < f.length) = false := decide_eq_false (by omega)
  have t2 : decide (36 < (xs.length : Int)) = false := decide_eq_false (by omega)
  have t2' : decide (36 < xs.length) = false := decide_eq_false (by omega)
  have t3 : decide (36 < (ys.length : Int)) = false := decide_eq_false (by omega)
  have t3' : decide (36 < ys.length) = false := decide_eq_false (by omega)
  obtain ⟨nf, enf⟩ : ∃ x, f.length = x := ⟨_, rfl⟩
  have ENF := hid enf
  obtain ⟨af, cf, rfl, KF⟩ := partsV hfv enf
  have KF := hid KF
  obtain ⟨a, cap, rfl, k1, k2, k3⟩ := hv
  obtain ⟨a', cap', rfl, k1', k2', k3'⟩ := hu
  rw [enf] at t1 t1' hfl
  have HFn := hid hfl
  clear k3 k3' hT hf hfx hx hy hfl hxl hyl hfv enf
  have hb2 := hid (boxes2 w 25 25 #[.int .i64 r, .int .i64 c, .slice a xs.length cap] #[.int .i64 r', .int .i64 c', .slice a' ys.length cap'])
  have HA := hid hb2.out.1; have HB := hid hb2.out.2.1; have hW0 := hid hb2.out.2.2
  unfold matV at CI CM CN CL CD CS
  unfold matV
  unfold RetQ at CK CI CM CN
  unfold RetE at CL
  clear hb2
  go_enter Try.func6, Try.ntmps6
  go_wp2_with fail
  refine (awake09 _).mono ?_
  rintro _ w1 ⟨rfl, xw1⟩
  obtain ⟨ha_0, ha_1, ha_2⟩ := (HA.out.ext xw1).at3
  obtain ⟨hb_0, hb_1, hb_2⟩ := (HB.out.ext xw1).at3
  go_wp2_with fail
  refine (C1.out _).mono ?_
  rintro _ _ ⟨rfl, rfl⟩
  clear C1
  go_wp2_with fail
  refine (CK.out _ (hW0.out.trans xw1)).mono ?_
  rintro _ w3 ⟨r3, c3, a3, k3, l3, g3, rfl, i3, b3, q3, xw3⟩
  have I3 := hid i3
  clear b3 i3 CK
  clear ha_0 ha_1 ha_2 hb_0 hb_1 hb_2
  have z4 := (Ext.refl w3).alloc (.cells #[.int .i64 r3, .int .i64 c3, .slice a3 l3.length k3] 25)
  have HC := hid (Blk.new w3 25 #[.int .i64 r3, .int .i64 c3, .slice a3 l3.length k3])
  obtain ⟨Q, eQ⟩ : ∃ B, (g3 == (0 : Int)) = B := ⟨_, rfl⟩
  have EQ := hid eQ
  obtain ⟨hc_0, hc_1, hc_2⟩ := HC.out.at3
  go_upto_if 57 with fail
  clear eQ hc_0 hc_1 hc_2
  go_cut [11, 12, 13, 14, 15] from 58 to 106 (fun _ _ _ _ _ w' => Ext (w3.alloc (.cells #[.int .i64 r3, .int .i64 c3, .slice a3 l3.length k3] 25)) w')
  case first =>
    cases Q with
    | false =>
      go_wp2_with fail
      go_meet
      exact Ext.refl _
    | true =>
      obtain ⟨n, rfl, rfl, f1, f2, f3, f4, okC, mC, dC⟩ := q3.out (by have := EQ.out; simpa using this)
      have MC := hid mC; have OKC := hid okC
      have hp2 := rightB_true okC.hp
      obtain rfl : nf = n + 1 := by have := ENF.out; omega
      obtain ⟨d0, eD⟩ : ∃ x, detF n (atF n l3) % p = x := ⟨_, rfl⟩
      have ED := hid eD
      obtain ⟨y0, ey⟩ : ∃ x, f.getD 0 0 = x := ⟨_, rfl⟩
      obtain ⟨bf, of', rfl, hbf, kcf⟩ := KF.out (by omega)
      have hr0 := f4.rng.getD hp2.1 0
      rw [eD] at dC
      rw [ey] at dC hr0
      have cf0 := kcf 0 (by omega)
      rw [ey, Nat.add_zero] at cf0
      have CX := hid fun (W : World) => (fun h => sub_as p 0 y0 d0 W okC.hp (by omega) (by omega) hr0.1 hr0.2 h)
      have DC := hid dC
      have CF0 := hid fun (W : World) (hW : Ext w W) => (hW.cells _ _ hbf).trans cf0
      clear mC okC dC kcf ey eD hbf f3 f4 cf0 q3
      obtain ⟨hc_0, hc_1, hc_2⟩ := HC.out.at3
      go_wp2_with fail
      refine (CL.out _ _ _ _ _ OKC.out (I3.out.ext z4) MC.out).mono ?_
      rintro _ w4 ⟨v4, rfl, i4, xw4⟩
      have I4 := hid i4
      obtain ⟨a4, k4, rfl, -⟩ := partsV i4 ENF.out
      clear i4 hc_0 hc_1 hc_2
      obtain ⟨hc_0, hc_1, hc_2⟩ := (HC.out.ext xw4).at3
      go_wp2_with fail
      refine (CD.out _ _ _ _ OKC.out (I3.out.ext (z4.trans xw4))).mono ?_
      rintro _ w5 ⟨rfl, xw5⟩
      rw [ED.out]
      clear hc_0 hc_1 hc_2
      have cf1 := CF0.out _ (hW0.out.trans (xw1.trans (xw3.trans (z4.trans (xw4.trans xw5)))))
      obtain ⟨PB, ePB⟩ : ∃ B, (((n : Int) + 1) % 2 == 0) = B := ⟨_, rfl⟩
      have EPB := hid ePB
      go_upto_if 76 with fail
      clear ePB
      go_cut [15] from 77 to 82 (fun s w' => s = .int .u64 d0 ∧ Ext w5 w')
      case first =>
        have hd := DC.out
        have hpb := EPB.out
        cases PB with
        | true =>
          rw [if_pos (by simp at hpb; omega)] at hd
          have cx := hid (CX.out w5 hd.symm)
          clear hd hpb
          go_wp2_with fail
          refine cx.out.mono ?_
          rintro _ w6 ⟨rfl, xw6⟩
          go_wp2_with fail
          go_meet
          exact ⟨rfl, xw6⟩
        | false =>
          rw [if_neg (by simp at hpb; omega)] at hd
          have hd := hid hd
          clear hpb
          go_wp2_with fail
          go_meet
          exact ⟨by rw [hd.out], Ext.refl _⟩
      case rest =>
        obtain ⟨rfl, xw6⟩ := hcut
        rename World => w6
        clear CX DC EPB cf1
        have tdd : (d0 != d0) = false := by simp
        obtain ⟨hc_0, hc_1, hc_2⟩ := (HC.out.ext (xw4.trans (xw5.trans xw6))).at3
        go_wp2_with fail
        refine (same_yes _ _ _ _ (I4.out.ext (xw5.trans xw6)) (HFv.out.ext (hW0.out.trans (xw1.trans (xw3.trans (z4.trans (xw4.trans (xw5.trans xw6)))))))).mono ?_
        rintro _ w7 ⟨rfl, xw7⟩
        clear hc_0 hc_1 hc_2
        obtain ⟨hc_0, hc_1, hc_2⟩ := (HC.out.ext (xw4.trans (xw5.trans (xw6.trans xw7)))).at3
        go_wp2_with fail
        refine (CS.out _ _ _ _ _ OKC.out (HFv.out.ext (hW0.out.trans (xw1.trans (xw3.trans (z4.trans (xw4.trans (xw5.trans (xw6.trans xw7)))))))) (I3.out.ext (z4.trans (xw4.trans (xw5.trans (xw6.trans xw7))))) MC.out).mono ?_
        rintro _ w8 ⟨rfl, xw8⟩
        clear hc_0 hc_1 hc_2
        go_wp2_with fail
        go_meet
        exact (xw4.trans (xw5.trans (xw6.trans (xw7.trans xw8))))
  case rest =>
    have xc := hcut
    rename World => W
    clear CS q3 EQ ENF HFn KF
    obtain ⟨hb_0, hb_1, hb_2⟩ := (HB.out.ext (xw1.trans (xw3.trans (z4.trans xc)))).at3
    go_wp2_with fail
    refine (CI.out _ (hW0.out.trans (xw1.trans (xw3.trans (z4.trans xc))))).mono ?_
    rintro _ w10 ⟨rI, cI, aI, kI, lI, gI, rfl, iI, bI, qI, xw10⟩
    have II := hid iI; have BI := hid bI
    clear iI bI CI hb_0 hb_1 hb_2
    have z7 := (Ext.refl w10).alloc (.cells #[.int .i64 rI, .int .i64 cI, .slice aI lI.length kI] 25)
    have HI := hid (Blk.new w10 25 #[.int .i64 rI, .int .i64 cI, .slice aI lI.length kI])
    obtain ⟨ha_0, ha_1, ha_2⟩ := (HA.out.ext (xw1.trans (xw3.trans (z4.trans (xc.trans (xw10.trans z7)))))).at3
    obtain ⟨hb_0, hb_1, hb_2⟩ := (HB.out.ext (xw1.trans (xw3.trans (z4.trans (xc.trans (xw10.trans z7)))))).at3
    go_wp2_with fail
    refine (CM.out _ (hW0.out.trans (xw1.trans (xw3.trans (z4.trans (xc.trans (xw10.trans z7))))))).mono ?_
    rintro _ w11 ⟨rM, cM, aM, kM, lM, gM, rfl, iM, bM, qM, xw11⟩
    have IM := hid iM; have BM := hid bM
    clear iM bM CM ha_0 ha_1 ha_2 hb_0 hb_1 hb_2
    have z9 := (Ext.refl w11).alloc (.cells #[.int .i64 rM, .int .i64 cM, .slice aM lM.length kM] 25)
    have HM := hid (Blk.new w11 25 #[.int .i64 rM, .int .i64 cM, .slice aM lM.length kM])
    obtain ⟨hi_0, hi_1, hi_2⟩ := (HI.out.ext (xw11.trans z9)).at3
    obtain ⟨hm_0, hm_1, hm_2⟩ := HM.out.at3
    go_wp2_with fail
    refine (CN.out _ _ _ _ _ _ _ _ _ (IM.out.ext z9) BM.out (II.out.ext (z7.trans (xw11.trans z9))) BI.out).mono ?_
    rintro _ w12 ⟨rN, cN, aN, kN, lN, gN, rfl, iN, bN, qN, xw12⟩
    have IN := hid iN
    clear iN bN CN hi_0 hi_1 hi_2 hm_0 hm_1 hm_2
    have z11 := (Ext.refl w12).alloc (.cells #[.int .i64 rN, .int .i64 cN, .slice aN lN.length kN] 25)
    have HN := hid (Blk.new w12 25 #[.int .i64 rN, .int .i64 cN, .slice aN lN.length kN])
    obtain ⟨hn_0, hn_1, hn_2⟩ := HN.out.at3
    by_cases eI : gI = 0
    rotate_left
    · have tI : (gI != 0) = true := by rw [bne_iff_ne]; exact eI
      clear eI
      go_wp2_with fail
      go_ret
      exact ⟨rfl, (hW0.out.trans (xw1.trans (xw3.trans (z4.trans (xc.trans (xw10.trans (z7.trans (xw11.trans (z9.trans (xw12.trans z11))))))))))⟩
    have tI : (gI != 0) = false := by rw [eI]; rfl
    have EI := hid eI
    clear eI
    by_cases eM : gM = 0
    rotate_left
    · have tM : (gM != 0) = true := by rw [bne_iff_ne]; exact eM
      clear eM
      go_wp2_with fail
      go_ret
      exact ⟨rfl, (hW0.out.trans (xw1.trans (xw3.trans (z4.trans (xc.trans (xw10.trans (z7.trans (xw11.trans (z9.trans (xw12.trans z11))))))))))⟩
    have tM : (gM != 0) = false := by rw [eM]; rfl
    have EM := hid eM
    clear eM
    by_cases eN : gN = 0
    rotate_left
    · have tN : (gN != 0) = true := by rw [bne_iff_ne]; exact eN
      clear eN
      go_wp2_with fail
      go_ret
      exact ⟨rfl, (hW0.out.trans (xw1.trans (xw3.trans (z4.trans (xc.trans (xw10.trans (z7.trans (xw11.trans (z9.trans (xw12.trans z11))))))))))⟩
    have tN : (gN != 0) = false := by rw [eN]; rfl
    have EN := hid eN
    clear eN
    obtain ⟨n, rfl, rfl, rfl, rfl, okB, hinv, hrank⟩ := qI.out EI.out
    obtain ⟨m1, n1, q1, m2, m3, m4, m5, m6, m7, _, okA, hM⟩ := qM.out EM.out
    obtain ⟨n2, n3, q2, n4, n5, n6, n7, n8, n9, _, _, hN⟩ := qN.out EN.out
    obtain rfl : m1 = n := by omega
    obtain rfl : n1 = m1 := by omega
    obtain rfl : q1 = n1 := by omega
    obtain rfl : n2 = q1 := by omega
    obtain rfl : n3 = n2 := by omega
    obtain rfl : q2 = n3 := by omega
    obtain rfl : r = q2 := m4
    obtain rfl : c = q2 := m5
    obtain rfl : rN = q2 := n8
    obtain rfl : cN = q2 := n9
    have hp2 := rightB_true okB.hp
    have hp' := HFL.out.has hp2.1
    have okN : MatOk p q2 q2 lN := ⟨okB.hp, by rw [hN]; exact mulL_rng hp2.1 _ _ _ _ _, okB.hm, okB.hn, by rw [hN]; exact mulL_len _ _ _ _ _⟩
    obtain ⟨x, hx⟩ := MinL.any hp' q2 xs
    obtain ⟨y, hy⟩ := MinL.any hp' q2 lN
    have hxy : x = y := min_similar okB HFL.out hrank hinv hx (by rw [← hM, ← hN]; exact hy)
    subst hxy
    have hd0 := min_det okA HFL.out hx
    have CX := hid fun (W : World) (z : Value) (hz : Ints .u64 W z xs) => CL.out W q2 z xs x okA hz hx
    have CY := hid fun (W : World) (z : Value) (hz : Ints .u64 W z lN) => CL.out W q2 z lN x okN hz hy
    obtain ⟨d, eD⟩ : ∃ d, detF q2 (atF q2 xs) % p = d := ⟨_, rfl⟩
    have CE := hid fun (W : World) (z : Value) (hz : Ints .u64 W z xs) => (eD ▸ CD.out W q2 z xs okA hz)
    rw [eD] at hd0
    obtain ⟨x0, ex⟩ : ∃ t, x.getD 0 0 = t := ⟨_, rfl⟩
    rw [ex] at hd0
    have hlx := List.length_pos_iff.2 hx.ne
    obtain ⟨nx, enx⟩ : ∃ t, x.length = t := ⟨_, rfl⟩
    have ENX := hid enx; have EX := hid ex
    rw [enx] at hlx
    obtain ⟨Z, eZ⟩ : ∃ B, (x0 == (0 : Int)) = B := ⟨_, rfl⟩
    have eZ' : (d == (0 : Int)) = Z := by rw [← eZ, Bool.eq_iff_iff, beq_iff_eq, beq_iff_eq]; exact hd0.symm
    have hZZ : (Z == Z) = true := by simp
    have tnn : ((q2 : Int) != (q2 : Int)) = false := by simp
    clear m2 m3 m6 m7 n4 n5 n6 n7 okA okB okN hinv hrank hM hN hx hy hd0 eD ex enx qI qM qN EI EM EN hp2 hp' CL CD
    obtain ⟨ha_0, ha_1, ha_2⟩ := (HA.out.ext (xw1.trans (xw3.trans (z4.trans (xc.trans (xw10.trans (z7.trans (xw11.trans (z9.trans (xw12.trans z11)))))))))).at3
    go_wp2_with fail
    refine (CX.out _ _ (HV.out.ext (hW0.out.trans (xw1.trans (xw3.trans (z4.trans (xc.trans (xw10.trans (z7.trans (xw11.trans (z9.trans (xw12.trans z11)))))))))))).mono ?_
    rintro _ w13 ⟨vx, rfl, ix, xw13⟩
    have IX := hid ix
    obtain ⟨ax, kx, rfl, KX⟩ := partsV ix ENX.out
    have KX := hid KX
    clear ix hn_0 hn_1 hn_2 CX ha_0 ha_1 ha_2
    obtain ⟨hn_0, hn_1, hn_2⟩ := (HN.out.ext xw13).at3
    go_wp2_with fail
    refine (CY.out _ _ (IN.out.ext (z11.trans xw13))).mono ?_
    rintro _ w14 ⟨vy, rfl, iy, xw14⟩
    have IY := hid iy
    obtain ⟨ay, ky, rfl, -⟩ := partsV iy ENX.out
    clear iy CY hn_0 hn_1 hn_2
    obtain ⟨ha_0, ha_1, ha_2⟩ := (HA.out.ext (xw1.trans (xw3.trans (z4.trans (xc.trans (xw10.trans (z7.trans (xw11.trans (z9.trans (xw12.trans (z11.trans (xw13.trans xw14)))))))))))).at3
    go_wp2_with fail
    refine (CE.out _ _ (HV.out.ext (hW0.out.trans (xw1.trans (xw3.trans (z4.trans (xc.trans (xw10.trans (z7.trans (xw11.trans (z9.trans (xw12.trans (z11.trans (xw13.trans xw14)))))))))))))).mono ?_
    rintro _ w15 ⟨rfl, xw15⟩
    clear CE ha_0 ha_1 ha_2
    obtain ⟨bx, ox, rfl, hbx, kcx⟩ := (KX.out.ext (xw14.trans xw15)) hlx
    have cx0 := kcx 0 hlx
    rw [EX.out, Nat.add_zero] at cx0
    clear kcx
    have CX0 := hid fun (W : World) (hW : Ext w15 W) => (hW.cells _ _ hbx).trans cx0
    clear hbx
    go_wp2_with fail
    refine (same_yes _ _ _ _ (IX.out.ext (xw14.trans xw15)) (IY.out.ext xw15)).mono ?_
    rintro _ w16 ⟨rfl, xw16⟩
    have cx1 := CX0.out _ xw16
    clear cx0
    go_wp2_with fail
    go_ret
    exact ⟨ret_bool (by simp), (hW0.out.trans (xw1.trans (xw3.trans (z4.trans (xc.trans (xw10.trans (z7.trans (xw11.trans (z9.trans (xw12.trans (z11.trans (xw13.trans (xw14.trans (xw15.trans xw16))))))))))))))⟩

/-- the law answers true -/
theorem walk (p : Int) (vf : Value) (f : List Int) (r c : Int) (v : Value) (xs : List Int) (r' c' : Int) (u : Value) (ys : List Int) (w : World) (hp : (Lit.int .u64 p).wf = true) (hfv : Ints .u64 w vf f) (hfw : ∀ x ∈ f, (Lit.int .u64 x).wf = true) (_ : (Lit.int .i64 r).wf = true) (_ : (Lit.int .i64 c).wf = true) (hv : Ints .u64 w v xs) (hx : ∀ x ∈ xs, (Lit.int .u64 x).wf = true) (_ : (Lit.int .i64 r').wf = true) (_ : (Lit.int .i64 c').wf = true) (hu : Ints .u64 w u ys) (hy : ∀ x ∈ ys, (Lit.int .u64 x).wf = true) :
    Calls Try.prog 6 #[.int .u64 p, vf, .agg #[.int .i64 r, .int .i64 c, v], .agg #[.int .i64 r', .int .i64 c', u]] w (Ret (.bool true) w) := by
  have hx' : U64s xs := fun x h => u64_wf (hx x h)
  have hf' : U64s f := fun x h => u64_wf (hfw x h)
  have hy' : U64s ys := fun x h => u64_wf (hy x h)
  cases h : goB p f xs ys with
  | false => exact walk_skip p r c r' c' vf v u f xs ys w (u64_wf hp).1 hfv hv hu h
  | true =>
    unfold goB at h
    simp only [Bool.and_eq_true, decide_eq_true_eq] at h
    obtain ⟨h1, h2, h3, h4⟩ := h
    exact walk_yes p r c r' c' vf v u f xs ys w (u64_wf hp).1 (u64_wf hp).2 h4 h1 h2 h3 hf' hx' hy' hfv hv hu

theorem own : ownKnob Try.prog.godebug = none := by kernel_rfl
set_option maxRecDepth 100000 in
theorem lifted (os : Os) (started : os.Started) (H : Type) (enc : TypeId × Value → H) :
    ReturnsInHanded {} Try.checked os 6 .any (Rows.krylovCompanionSpec.pre6 enc Try.prog Try.f6 Rows.krylovCompanionRow.domain false) (Rows.krylovCompanionSpec.post enc Try.prog Try.f6 false true false false) := by
  refine returnsInHanded_of_change (C := Try.checked) own started (by kernel_rfl) Try.func6
    (ChangeSpec.witness6 (enc := enc) (C := Try.checked) false ⟨#[], #[.int .u64 0, .slice none 0 0, .agg #[.int .i64 0, .int .i64 0, .slice none 0 0], .agg #[.int .i64 0, .int .i64 0, .slice none 0 0]], []⟩ 8 (by kernel_rfl) (by kernel_rfl) (by kernel_rfl) (by kernel_rfl)) ?_
  intro W base args ds gs before hval0 hW _ _
  have hval : ∀ (j : Nat) t v, Try.f6.params[j]? = some t → args[j]? = some v → Value.okWide Try.prog W .any base t v := hval0
  have hW' := hW
  obtain ⟨p, q, hA0, hV, rfl, _, _⟩ := hW
  have hA : DataW.TrodAll enc Try.prog W 0 (fun _ => true) true Try.f6.params.toList args.toList ds p := hA0
  rw [Try.params6] at hA hval
  obtain ⟨v0, vs0, d0, ds0, p0, q0, hargs, rfl, rfl, h0, r0⟩ := trodAll_cons hA
  obtain ⟨v1, vs1, d1, ds1, p1, q1, rfl, rfl, rfl, h1, r1⟩ := trodAll_cons r0
  obtain ⟨v2, vs2, d2, ds2, p2, q2, rfl, rfl, rfl, h2, r2⟩ := trodAll_cons r1
  obtain ⟨v3, vs3, d3, ds3, p3, q3, rfl, rfl, rfl, h3, r3⟩ := trodAll_cons r2
  obtain ⟨rfl, rfl, rfl⟩ := trodAll_nil r3
  obtain rfl : args = #[v0, v1, v2, v3] := by cases args; simp_all
  obtain ⟨rfl, rfl⟩ := trodVars_none hV
  obtain ⟨a0, rfl, rfl, rfl, w0⟩ := open_int Try.underlying22 (hval 0 22 v0 rfl rfl) h0
  obtain ⟨xs1, i1, w1⟩ := open_Ints Try.underlying23 Try.underlying22 (by kernel_rfl) (hval 1 23 v1 rfl rfl) h1
  obtain ⟨mr2, mc2, mu2, xs2, rfl, wr2, wc2, i2, w2⟩ := open_Mat (hval 2 25 v2 rfl rfl) h2
  obtain ⟨mr3, mc3, mu3, xs3, rfl, wr3, wc3, i3, w3⟩ := open_Mat (hval 3 25 v3 rfl rfl) h3
  refine (walk a0 v1 xs1 mr2 mc2 mu2 xs2 mr3 mc3 mu3 xs3 W w0 i1 w1 wr2 wc2 i2 w2 wr3 wc3 i3 w3).mono fun e W' ⟨he, hg⟩ => ⟨_, he, ?_⟩
  exact law_post (by kernel_rfl) (by kernel_rfl) rfl Try.underlying4 rfl rfl hW' hg

/-- the statement -/
theorem proved : Rows.KrylovCompanionSaid :=
  OpenClaim.holds_of_wide 6 Try.f6 rfl rfl rfl rfl rfl rfl rfl ⟨rfl, rfl, rfl, rfl, rfl⟩ rfl rfl rfl rfl rfl (by kernel_rfl) Try.func6 (by kernel_rfl)
    (of_decide_eq_true (by kernel_rfl)) (by unfold Func.isWrapper; first | (rw [if_pos (by decide +kernel)]; kernel_rfl) | (rw [if_neg (by decide +kernel)]; exact ⟨rfl, rfl⟩))
    (fun os started H enc _ => lifted os started H enc)
end Go.Proofs.Ytfpmcajndgkgeaa.krylovCompanion
