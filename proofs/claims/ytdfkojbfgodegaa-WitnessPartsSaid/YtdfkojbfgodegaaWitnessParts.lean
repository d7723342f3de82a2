/- WitnessParts: whatever the number and the matrix, the law answers true, and nothing that was there has turned. No condition. -/
import Derived.Test.YtdfkojbfgodegaaBun13
import Derived.Test.YtdfkojbfgodegaaBun23
import Derived.Test.YtdfkojbfgodegaaImgM
import Derived.Test.YtdfkojbfgodegaaBun05
import Derived.Test.YtdfkojbfgodegaaOpenMat
import Derived.Test.YtdfkojbfgodegaaBun20
import Derived.Test.YtdfkojbfgodegaaBun11
namespace Go.Proofs.Ytdfkojbfgodegaa.witnessParts
open Go.ChangeShapes Go.WideShapes Go.ChangeAt Go.RowKit Go.Maps

/-- has a matrix a vector that makes b? -/
noncomputable def hasX (p : Int) (n : Nat) (xs b : List Int) : Bool := @decide (∃ x, IsX p n n xs b x) (Classical.propDecidable _)
theorem hasX_iff {p : Int} {n : Nat} {xs b : List Int} : hasX p n xs b = true ↔ ∃ x, IsX p n n xs b x := by
  unfold hasX
  rw [@decide_eq_true_iff _ (Classical.propDecidable _)]
theorem img_times {P n : Nat} {xs x : List Int} : imgL P n n (rowOf n xs) x = timesL (P : Int) n n xs x :=
  list_ext (by unfold imgL timesL; rw [tab_len, tab_len]) fun i hi => by
    have hi' : i < n := by unfold imgL at hi; rwa [tab_len] at hi
    rw [show (imgL P n n (rowOf n xs) x).getD i 0 = _ from tab_get _ hi', times_get hi']
theorem has_count {P n : Nat} {xs : List Int} (ok : MatOk (P : Int) n n xs) (hf : Fld (P : Int)) : cntTo P n (hasX P n xs) (P ^ n) = P ^ (takeL P n n xs).U.length := by
  have hp := (rightB_true ok.hp).1
  refine img_count (hf.has hp) (takeL_ok (m := n) (n := n) hp hf ok.hx) _ fun b hb hd => ?_
  rw [hasX_iff]
  constructor
  · rintro ⟨x, hx⟩
    exact ⟨x, hx.len, hx.rng, by rw [img_times, hx.sol]⟩
  · rintro ⟨x, h1, h2, h3⟩
    exact IsX.of_times ok hf (x0 := x) (by rw [← img_times, h3])
theorem part_le {P n k : Nat} (hp : 2 ≤ P) (hk : k < n) : P ^ k ≤ P ^ n / P := by
  rw [Nat.le_div_iff_mul_le (by omega), ← Nat.pow_succ]
  exact Nat.pow_le_pow_right (by omega) hk
set_option maxRecDepth 100000 in
set_option maxHeartbeats 4000000 in
theorem walk_skip (p r c : Int) (v : Value) (xs : List Int) (w : World) (h0 : 0 ≤ p) (h1 : p ≤ 18446744073709551615) (hv : Ints .u64 w v xs) (uv : U64s xs) (h : (decide (p ≤ 11) && (isB p && (decide (xs.length ≤ 25) && (matB p r c xs && decide (r = c))))) = false) :
    Calls Try.prog 4 #[.int .u64 p, matV r c v] w (Ret (.bool true) w) := by
  have CI := hid fun (W : World) (hp : p ≤ 11) => Is_any p W h0 (by omega)
  have CM := hid fun (W : World) (hW : Ext w W) => mxRight p r c v xs W h0 h1 (hv.ext hW) uv
  obtain ⟨I, eI⟩ : ∃ B, isB p = B := ⟨_, rfl⟩
  rw [eI] at CI h
  obtain ⟨M, eM⟩ : ∃ B, matB p r c xs = B := ⟨_, rfl⟩
  rw [eM] at CM h
  clear eI eM uv
  unfold matV at CM
  obtain ⟨a, cap, rfl, -, -, -⟩ := hv
  have HM := hid (Blk.new w 25 #[.int .i64 r, .int .i64 c, .slice a xs.length cap])
  have hW0 := hid ((Ext.refl w).alloc (.cells #[.int .i64 r, .int .i64 c, .slice a xs.length cap] 25))
  unfold matV
  obtain ⟨LM, eLM⟩ : ∃ k, xs.length = k := ⟨_, rfl⟩
  rw [eLM] at HM hW0 CM h
  rw [eLM]
  clear eLM
  have Hh := hid h
  clear h
  go_enter Try.func4, Try.ntmps4
  go_wp2_with fail
  refine (awake14 _).mono ?_
  rintro _ w1 ⟨rfl, xw1⟩
  by_cases g1 : p ≤ 11
  case neg =>
    obtain ⟨hm_0, hm_1, hm_2⟩ := (HM.out.ext xw1).at3
    go_wp2_with fail
    go_ret
    exact ⟨rfl, (hW0.out.trans xw1)⟩
  obtain ⟨hm_0, hm_1, hm_2⟩ := (HM.out.ext xw1).at3
  go_wp2_with fail
  refine (CI.out _ g1).mono ?_
  rintro _ _ ⟨rfl, rfl⟩
  clear hm_0 hm_1 hm_2
  cases I
  · obtain ⟨hm_0, hm_1, hm_2⟩ := (HM.out.ext xw1).at3
    go_wp2_with fail
    go_ret
    exact ⟨rfl, (hW0.out.trans xw1)⟩
  by_cases g2 : LM ≤ 25
  case neg =>
    obtain ⟨hm_0, hm_1, hm_2⟩ := (HM.out.ext xw1).at3
    go_wp2_with fail
    go_ret
    exact ⟨rfl, (hW0.out.trans xw1)⟩
  obtain ⟨hm_0, hm_1, hm_2⟩ := (HM.out.ext xw1).at3
  go_wp2_with fail
  refine (CM.out _ (hW0.out.trans xw1)).mono ?_
  rintro _ w2 ⟨rfl, xw2⟩
  clear hm_0 hm_1 hm_2
  cases M
  · obtain ⟨hm_0, hm_1, hm_2⟩ := (HM.out.ext (xw1.trans xw2)).at3
    go_wp2_with fail
    go_ret
    exact ⟨rfl, (hW0.out.trans (xw1.trans xw2))⟩
  have g4 : r ≠ c := fun e => absurd Hh.out (by simp [g1, g2, e])
  have b1 : (r != c) = true := by rw [bne_iff_ne]; exact g4
  obtain ⟨hm_0, hm_1, hm_2⟩ := (HM.out.ext (xw1.trans xw2)).at3
  go_wp2_with fail
  go_ret
  exact ⟨rfl, (hW0.out.trans (xw1.trans xw2))⟩
set_option maxRecDepth 100000 in
set_option maxHeartbeats 4000000 in
theorem walk_yes (P m : Nat) (v : Value) (xs : List Int) (w : World) (hP : P ≤ 11) (hI : isB (P : Int) = true) (ok : MatOk (P : Int) m m xs) (hlen : xs.length ≤ 25) (hv : Ints .u64 w v xs) :
    Calls Try.prog 4 #[.int .u64 P, matV m m v] w (Ret (.bool true) w) := by
  have hp2 := rightB_true ok.hp
  have hf : Fld (P : Int) := fld_is ((isB_iff _).1 hI)
  have uv := ok.u64
  have hm := ok.hm
  have CI := hid fun (W : World) => Is_any (P : Int) W (by omega) (by omega)
  rw [hI] at CI
  have CM := hid fun (W : World) (hW : Ext w W) => (ok.b ▸ mxRight P m m v xs W (by omega) (by omega) (hv.ext hW) uv : Calls Try.prog 8 #[.int .u64 P, matV m m v] W (Ret (.bool true) W))
  have CK := hid fun (W : World) (hW : Ext w W) => cmRank P m m v xs W ok hf (hv.ext hW)
  have CV := hid fun (W : World) (N : Nat) (hN : N ≤ 1000) => r12Vector P N m W ⟨by omega, by omega⟩ (by omega) hm.2
  have CS := hid fun (W : World) (u : Value) (b : List Int) (hW : Ext w W) (hu : Ints .u64 W u b) (hb : b.length = m) (hr : Rng (P : Int) b) => (show ∃ (e : Int) (s : List Int), ((e == 0) = hasX P m xs b) ∧ Calls Try.prog 10 #[.int .u64 P, matV m m v, u] W (RetE e s W) ∧
      (hasX P m xs b = true → ∀ (W' : World) (z : Value), Ext W W' → Ints .u64 W' z s → Calls Try.prog 22 #[.int .u64 P, matV m m v, u, z] W' (Ret (.bool true) W')) from by
    by_cases h : ∃ x, IsX (P : Int) m m xs b x
    · have hB : hasX P m xs b = true := hasX_iff.2 h
      obtain ⟨x, hx⟩ := h
      refine ⟨0, x, by rw [hB]; rfl, svSolve_yes P m m v u xs b x W ok hf (hv.ext hW) hu hb hr hx, fun _ W' z hW' hz => ?_⟩
      have := wtMeets P m m v u z xs b x W' (by omega) (by omega) (hv.ext (hW.trans hW')) uv (hu.ext hW') hz (hx.rng.u64 hp2.2)
      rwa [solA_mn ok, solB_of ok hb hr hx, decide_eq_true rfl] at this
    · have hB : hasX P m xs b = false := by
        cases e : hasX P m xs b with
        | false => rfl
        | true => exact absurd (hasX_iff.1 e) h
      exact ⟨6, [], by rw [hB]; rfl, svSolve_no P m m v u xs b W ok hf (hv.ext hW) hu hb hr h, fun h => by rw [hB] at h; cases h⟩)
  have HCN := hid (has_count ok hf)
  have hle := (takeL_ok (m := m) (n := m) hp2.1 hf ok.hx).le
  obtain ⟨rk, erk⟩ : ∃ k, (takeL (P : Int) m m xs).U.length = k := ⟨_, rfl⟩
  rw [erk] at CK HCN hle
  obtain ⟨solv, esolv⟩ : ∃ f : List Int → Bool, hasX P m xs = f := ⟨_, rfl⟩
  replace CS := hid (esolv ▸ CS.out)
  rw [esolv] at HCN
  have hp1 : 2 ≤ P := by omega
  clear hI hf uv ok erk esolv hp2
  obtain ⟨a, cap, rfl, -, -, -⟩ := hv
  unfold matV RetE at CS
  unfold matV at CM CK
  unfold matV
  have HM := hid (Blk.new w 25 #[.int .i64 (m : Int), .int .i64 (m : Int), .slice a xs.length cap])
  have hW0 := hid ((Ext.refl w).alloc (.cells #[.int .i64 (m : Int), .int .i64 (m : Int), .slice a xs.length cap] 25))
  go_enter Try.func4, Try.ntmps4
  go_wp2_with fail
  refine (awake14 _).mono ?_
  rintro _ w1 ⟨rfl, xw1⟩
  obtain ⟨hm_0, hm_1, hm_2⟩ := (HM.out.ext xw1).at3
  go_wp2_with fail
  refine (CI.out _).mono ?_
  rintro _ _ ⟨rfl, rfl⟩
  go_wp2_with fail
  refine (CM.out _ (hW0.out.trans xw1)).mono ?_
  rintro _ w2 ⟨rfl, xw2⟩
  have b0 : ((m : Int) != (m : Int)) = false := by simp
  clear hm_0 hm_1 hm_2
  obtain ⟨hm_0, hm_1, hm_2⟩ := (HM.out.ext (xw1.trans xw2)).at3
  go_wp2_with fail
  refine (CK.out _ (hW0.out.trans (xw1.trans xw2))).mono ?_
  rintro _ w3 ⟨rfl, xw3⟩
  clear hm_0 hm_1 hm_2
  have y := hid (hW0.out.trans (xw1.trans (xw2.trans xw3)))
  have HM := hid (HM.out.ext (xw1.trans (xw2.trans xw3)))
  clear CI CM CK hW0 xw1 xw2 xw3 b0
  obtain ⟨p0, p1, p2⟩ := HM.out.at3
  go_wp2_with fail
  go_loop [5, 6, 9] (fun al im i => ∃ (j Q J : Nat), i = .int .i64 j ∧ al = .int .u64 Q ∧ im = .int .u64 J ∧ j ≤ m ∧ Q ≤ 1000 ∧ 1 ≤ Q ∧ J ≤ Q ∧ Hid (Q = P ^ j) ∧ Hid (J = P ^ (min j rk))) (fun _ _ i => m - (intOf i).toNat)
  case atStart => exact ⟨0, 1, 1, rfl, rfl, rfl, Nat.zero_le _, by omega, by omega, by omega, hid rfl, hid (by rw [Nat.zero_min]; rfl)⟩
  case round =>
    obtain ⟨j, Q, J, rfl, rfl, rfl, hj, hQ, hQ1, hJ, hq, hjj⟩ := hrel
    by_cases hlt : j < m
    · obtain ⟨R, eR⟩ : ∃ R, Q * P = R := ⟨_, rfl⟩
      have eR' : (Q : Int) * (P : Int) = (R : Int) := by rw [← eR, Int.natCast_mul]
      have hR : R ≤ 11000 := by rw [← eR]; exact Nat.mul_le_mul hQ hP
      have hR1 : 1 ≤ R := by rw [← eR]; exact Nat.mul_pos hQ1 (by omega)
      have hQR : Q ≤ R := by rw [← eR]; exact Nat.le_mul_of_pos_right _ (by omega)
      have HNX := hid (show R = P ^ (j + 1) by rw [← eR, hq.out, Nat.pow_succ])
      obtain ⟨J', eJ⟩ : ∃ R, J * P = R := ⟨_, rfl⟩
      have eJ' : (J : Int) * (P : Int) = (J' : Int) := by rw [← eJ, Int.natCast_mul]
      have hJR : J' ≤ R := by rw [← eJ, ← eR]; exact Nat.mul_le_mul_right _ hJ
      have HJY := hid (fun (h : j < rk) => (show J' = P ^ (min (j + 1) rk) by rw [← eJ, hjj.out, show min j rk = j by omega, show min (j + 1) rk = j + 1 by omega, Nat.pow_succ]))
      have HJN := hid (fun (h : ¬ j < rk) => (show J = P ^ (min (j + 1) rk) by rw [hjj.out, show min j rk = rk by omega, show min (j + 1) rk = rk by omega]))
      clear eR eJ
      by_cases gr : j < rk
      · by_cases g : 1000 < R
        · go_wp2_with fail
          go_ret
          exact ⟨rfl, y.out⟩
        · go_wp2_with fail
          go_round
          case rel => exact ⟨j + 1, R, J', by go_num, by go_num, by go_num, by omega, by omega, hR1, hJR, HNX, hid (HJY.out gr)⟩
          case measure => simp [intOf]; omega
      · by_cases g : 1000 < R
        · go_wp2_with fail
          go_ret
          exact ⟨rfl, y.out⟩
        · go_wp2_with fail
          go_round
          case rel => exact ⟨j + 1, R, J, by go_num, by go_num, by go_num, by omega, by omega, hR1, by omega, HNX, hid (HJN.out gr)⟩
          case measure => simp [intOf]; omega
    · obtain rfl : m = j := by omega
      have HJ := hid (show J = P ^ rk by rw [hjj.out, show min m rk = rk by omega])
      clear hlt hjj
      go_wp2_with fail
      clear p0 p1 p2
      go_loopw [10, 11, 12, 13, 14] (fun c i _ _ _ wr => ∃ (N C : Nat), c = .int .u64 C ∧ i = .int .u64 N ∧ N ≤ Q ∧ C ≤ N ∧ Hid (C = cntTo P m solv N) ∧ Ext w3 wr) (fun _ i _ _ _ _ => Q - (intOf i).toNat)
      case atStart => exact ⟨0, 0, rfl, rfl, Nat.zero_le _, Nat.le_refl _, hid rfl, Ext.refl _⟩
      case round =>
        obtain ⟨N, C, rfl, rfl, hN, hC, hcn, hxw⟩ := hrel
        rename World => wr
        by_cases hlt2 : N < Q
        · obtain ⟨p0, p1, p2⟩ := (HM.out.ext hxw).at3
          have CV2 := hid fun (W : World) => CV.out W N (by omega)
          go_wp2_with fail
          clear p0 p1 p2
          refine (CV2.out _).mono ?_
          rintro _ w7 ⟨v7, rfl, o7, x7⟩
          have I7 := hid (own_ints o7)
          clear o7
          obtain ⟨a7, c7, rfl, -, -, -⟩ := I7.out
          obtain ⟨e, s, h1, h2, h3⟩ := CS.out w7 _ _ (y.out.trans (hxw.trans x7)) I7.out (digV_len P m N) (digV_dig (by omega) m N)
          have K2 := hid h2; have K3 := hid h3
          obtain ⟨B, eB⟩ : ∃ B, solv (digV P N m) = B := ⟨_, rfl⟩
          rw [eB] at h1 K3
          have HEB := hid eB
          clear h2 h3 eB
          have K1 := hid h1
          clear h1
          obtain ⟨p0, p1, p2⟩ := (HM.out.ext (hxw.trans x7)).at3
          go_wp2_with fail
          clear p0 p1 p2
          refine K2.out.mono ?_
          rintro _ w8 ⟨v8, rfl, i8, x8⟩
          have I8 := hid i8
          obtain ⟨a8, c8, rfl, -, -, -⟩ := i8
          obtain ⟨p0, p1, p2⟩ := (HM.out.ext (hxw.trans (x7.trans x8))).at3
          have t1 := K1.out
          cases B with
          | true =>
            have K4 := hid (K3.out rfl)
            go_wp2_with fail
            clear p0 p1 p2
            refine (K4.out _ _ x8 I8.out).mono ?_
            rintro _ w9 ⟨rfl, x9⟩
            go_wp2_with fail
            go_roundw
            case rel => exact ⟨N + 1, C + 1, by go_num, by go_num, by omega, by omega, hid (by rw [cntTo_yes HEB.out, hcn.out]), hxw.trans (x7.trans (x8.trans x9))⟩
            case measure => simp [intOf]; omega
          | false =>
            go_wp2_with fail
            go_roundw
            case rel => exact ⟨N + 1, C, by go_num, by go_num, by omega, by omega, hid (by rw [cntTo_no HEB.out, hcn.out]), hxw.trans (x7.trans x8)⟩
            case measure => simp [intOf]; omega
        · obtain rfl : Q = N := by omega
          obtain rfl : C = J := by rw [hcn.out, hq.out, HCN.out, HJ.out]
          obtain ⟨p0, p1, p2⟩ := (HM.out.ext hxw).at3
          have b2 : ((C : Int) == (C : Int)) = true := by simp
          have hp0 : ¬ (P : Int) = 0 := by omega
          by_cases hr : rk = m
          · have b3 : ((rk : Int) == (m : Int)) = true := by rw [beq_iff_eq]; omega
            clear hr HJ hcn HCN hq
            go_wp2_with fail
            go_ret
            exact ⟨rfl, y.out.trans hxw⟩
          · have b3 : ((rk : Int) == (m : Int)) = false := by rw [beq_eq_false_iff_ne]; omega
            have b4 : (C : Int) ≤ (Q : Int) / (P : Int) := by
              rw [← Int.natCast_ediv]
              have := part_le (P := P) (n := m) (k := rk) hp1 (by omega)
              rw [← HJ.out, ← hq.out] at this
              omega
            have B5 := hid (show decide ((C : Int) ≤ IntKind.u64.wrap ((Q : Int) / (P : Int))) = true by
              have e1 : (Q : Int) / (P : Int) = ((Q / P : Nat) : Int) := (Int.natCast_ediv _ _).symm
              have e2 : Q / P ≤ Q := Nat.div_le_self _ _
              rw [IntKind.wrap_u64, Int.emod_eq_of_lt (by omega) (by omega)]
              exact decide_eq_true b4)
            clear hr HJ hcn HCN hq b4
            go_wp2_with fail
            go_ret
            exact ⟨ret_bool B5.out, y.out.trans hxw⟩

theorem walk (p r c : Int) (v : Value) (xs : List Int) (w : World) (hp : (Lit.int .u64 p).wf = true)
    (_ : (Lit.int .i64 r).wf = true) (_ : (Lit.int .i64 c).wf = true) (hv : Ints .u64 w v xs) (uv : ∀ x ∈ xs, (Lit.int .u64 x).wf = true) :
    Calls Try.prog 4 #[.int .u64 p, .agg #[.int .i64 r, .int .i64 c, v]] w (Ret (.bool true) w) := by
  have hp' := u64_wf hp
  have uv' : U64s xs := fun x h => by have := u64_wf (uv x h); omega
  cases h : (decide (p ≤ 11) && (isB p && (decide (xs.length ≤ 25) && (matB p r c xs && decide (r = c)))))
  · exact walk_skip p r c v xs w (by omega) (by omega) hv uv' h
  · simp only [Bool.and_eq_true, decide_eq_true_eq] at h
    obtain ⟨h1, h2, h3, h4, h5⟩ := h
    obtain ⟨m, n, rfl, rfl, ok⟩ := MatOk.of uv' h4
    obtain rfl : m = n := by omega
    obtain ⟨P, rfl⟩ := Int.eq_ofNat_of_zero_le (show 0 ≤ p by omega)
    exact walk_yes P m v xs w (by omega) h2 ok h3 hv

theorem own : ownKnob Try.prog.godebug = none := by kernel_rfl
set_option maxRecDepth 100000 in
theorem lifted (os : Os) (started : os.Started) (H : Type) (enc : TypeId × Value → H) :
    ReturnsInHanded {} Try.checked os 4 .any (Rows.witnessPartsSpec.pre6 enc Try.prog Try.f4 Rows.witnessPartsRow.domain false) (Rows.witnessPartsSpec.post enc Try.prog Try.f4 false true false false) := by
  refine returnsInHanded_of_change (C := Try.checked) own started (by kernel_rfl) Try.func4
    (ChangeSpec.witness6 (enc := enc) (C := Try.checked) false ⟨#[], #[.int .u64 0, .agg #[.int .i64 0, .int .i64 0, .slice none 0 0]], []⟩ 8 (by kernel_rfl) (by kernel_rfl) (by kernel_rfl) (by kernel_rfl)) ?_
  intro W base args ds gs before hval0 hW _ _
  have hval : ∀ (j : Nat) t v, Try.f4.params[j]? = some t → args[j]? = some v → Value.okWide Try.prog W .any base t v := hval0
  have hW' := hW
  obtain ⟨p, q, hA0, hV, rfl, _, _⟩ := hW
  have hA : DataW.TrodAll enc Try.prog W 0 (fun _ => true) true Try.f4.params.toList args.toList ds p := hA0
  rw [Try.params4] at hA hval
  obtain ⟨v0, vs0, d0, ds0, p0, q0, hargs, rfl, rfl, h0, r0⟩ := trodAll_cons hA
  obtain ⟨v1, vs1, d1, ds1, p1, q1, rfl, rfl, rfl, h1, r1⟩ := trodAll_cons r0
  obtain ⟨rfl, rfl, rfl⟩ := trodAll_nil r1
  obtain rfl : args = #[v0, v1] := by cases args; simp_all
  obtain ⟨rfl, rfl⟩ := trodVars_none hV
  obtain ⟨a0, rfl, rfl, rfl, w0⟩ := open_int Try.underlying22 (hval 0 22 v0 rfl rfl) h0
  obtain ⟨mr1, mc1, mu1, xs1, rfl, wr1, wc1, i1, w1⟩ := open_Mat (hval 1 25 v1 rfl rfl) h1
  refine (walk a0 mr1 mc1 mu1 xs1 W w0 wr1 wc1 i1 w1).mono fun e W' ⟨he, hg⟩ => ⟨_, he, ?_⟩
  exact law_post (by kernel_rfl) (by kernel_rfl) rfl Try.underlying4 rfl rfl hW' hg

/-- the statement -/
theorem proved : Rows.WitnessPartsSaid :=
  OpenClaim.holds_of_wide 4 Try.f4 rfl rfl rfl rfl rfl rfl rfl ⟨rfl, rfl, rfl, rfl, rfl⟩ rfl rfl rfl rfl rfl (by kernel_rfl) Try.func4 (by kernel_rfl)
    (of_decide_eq_true (by kernel_rfl)) (by unfold Func.isWrapper; first | (rw [if_pos (by decide +kernel)]; kernel_rfl) | (rw [if_neg (by decide +kernel)]; exact ⟨rfl, rfl⟩))
    (fun os started H enc _ => lifted os started H enc)
end Go.Proofs.Ytdfkojbfgodegaa.witnessParts
