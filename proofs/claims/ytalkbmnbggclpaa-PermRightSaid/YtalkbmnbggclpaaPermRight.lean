/- PermRight: whatever the lists, the numbers, the matrix and the side, the law answers true, and nothing that was there has turned. No condition. -/
import Derived.Test.YtalkbmnbggclpaaAwake06
import Derived.Test.YtalkbmnbggclpaaShaped06
import Derived.Test.YtalkbmnbggclpaaOpenMat
import Derived.Deep.RegionHeld3
namespace Go.Proofs.Ytalkbmnbggclpaa.permRight
open Go.ChangeShapes Go.WideShapes Go.ChangeAt Go.RowKit Go.Maps

set_option maxRecDepth 100000 in
set_option maxHeartbeats 2000000 in
theorem walk_skip (v u vx vm : Value) (p q x xs : List Int) (r c n : Int) (w : World) (hv : Ints .i64 w v p) (_ : I64s p) (hu : Ints .i64 w u q) (_ : I64s q) (hz : Ints .u64 w vx x) (_ : U64s x) (hm : Ints .u64 w vm xs) (_ : U64s xs) (_ : -9223372036854775808 ≤ n ∧ n ≤ 9223372036854775807)
    (h : (decide (p.length ≤ 80) && decide (q.length ≤ 80) && decide (x.length ≤ 80) && decide (xs.length ≤ 300)) = false) :
    Calls Try.prog 3 #[v, u, vx, matV r c vm, .int .i64 n] w (Ret (.bool true) w) := by
  obtain ⟨A1, e1⟩ : ∃ B, decide (p.length ≤ 80) = B := ⟨_, rfl⟩
  obtain ⟨A2, e2⟩ : ∃ B, decide (q.length ≤ 80) = B := ⟨_, rfl⟩
  obtain ⟨A3, e3⟩ : ∃ B, decide (x.length ≤ 80) = B := ⟨_, rfl⟩
  obtain ⟨A4, e4⟩ : ∃ B, decide (xs.length ≤ 300) = B := ⟨_, rfl⟩
  rw [e1, e2, e3, e4] at h
  have t1 : decide (80 < (p.length : Int)) = !A1 := by rw [← e1, Bool.eq_iff_iff]; simp; omega
  have t2 : decide (80 < (q.length : Int)) = !A2 := by rw [← e2, Bool.eq_iff_iff]; simp; omega
  have t3 : decide (80 < (x.length : Int)) = !A3 := by rw [← e3, Bool.eq_iff_iff]; simp; omega
  have t4 : decide (300 < (xs.length : Int)) = !A4 := by rw [← e4, Bool.eq_iff_iff]; simp; omega
  clear e1 e2 e3 e4
  obtain ⟨a, cap, rfl, k1, k2, k3⟩ := hv
  obtain ⟨a', cap', rfl, k1', k2', k3'⟩ := hu
  obtain ⟨ax, capx, rfl, l1, l2, l3⟩ := hz
  obtain ⟨am, capm, rfl, m1, m2, m3⟩ := hm
  have HA := hid (Blk.new w 25 #[.int .i64 r, .int .i64 c, .slice am xs.length capm])
  have hW0 := hid ((Ext.refl w).alloc (.cells #[.int .i64 r, .int .i64 c, .slice am xs.length capm] 25))
  clear k3 k3' l3 m3
  unfold matV
  cases A1 with
  | false =>
    clear h
    as_aux_lemma =>
      go_enter Try.func3, Try.ntmps3
      go_wp2_with fail
      refine (awake06 _).mono ?_
      rintro _ w1 ⟨rfl, x1⟩
      obtain ⟨b0, b1, b2⟩ := (HA.out.ext x1).at3
      go_wp2_with fail
      go_ret
      exact ⟨rfl, hW0.out.trans x1⟩
  | true =>
    cases A2 with
    | false =>
      clear h
      as_aux_lemma =>
        go_enter Try.func3, Try.ntmps3
        go_wp2_with fail
        refine (awake06 _).mono ?_
        rintro _ w1 ⟨rfl, x1⟩
        obtain ⟨b0, b1, b2⟩ := (HA.out.ext x1).at3
        go_wp2_with fail
        go_ret
        exact ⟨rfl, hW0.out.trans x1⟩
    | true =>
      cases A3 with
      | false =>
        clear h
        as_aux_lemma =>
          go_enter Try.func3, Try.ntmps3
          go_wp2_with fail
          refine (awake06 _).mono ?_
          rintro _ w1 ⟨rfl, x1⟩
          obtain ⟨b0, b1, b2⟩ := (HA.out.ext x1).at3
          go_wp2_with fail
          go_ret
          exact ⟨rfl, hW0.out.trans x1⟩
      | true =>
        cases A4 with
        | false =>
          clear h
          as_aux_lemma =>
            go_enter Try.func3, Try.ntmps3
            go_wp2_with fail
            refine (awake06 _).mono ?_
            rintro _ w1 ⟨rfl, x1⟩
            obtain ⟨b0, b1, b2⟩ := (HA.out.ext x1).at3
            go_wp2_with fail
            go_ret
            exact ⟨rfl, hW0.out.trans x1⟩
        | true =>
          cases h

set_option maxRecDepth 100000 in
set_option maxHeartbeats 8000000 in
theorem walk_no (v u vx vm : Value) (p q x xs : List Int) (r c n : Int) (w : World) (hv : Ints .i64 w v p) (hx : I64s p) (hu : Ints .i64 w u q) (hy : I64s q) (hz : Ints .u64 w vx x) (hzx : U64s x) (hm : Ints .u64 w vm xs) (hmx : U64s xs) (hn : -9223372036854775808 ≤ n ∧ n ≤ 9223372036854775807)
    (h : (decide (p.length ≤ 80) && decide (q.length ≤ 80) && decide (x.length ≤ 80) && decide (xs.length ≤ 300)) = true) (hP : ordB p = false) :
    Calls Try.prog 3 #[v, u, vx, matV r c vm, .int .i64 n] w (Ret (.bool true) w) := by
  simp only [Bool.and_eq_true, decide_eq_true_eq] at h
  obtain ⟨⟨⟨g1, g2⟩, g3⟩, g4⟩ := h
  have d1 : decide (80 < (p.length : Int)) = false := decide_eq_false (by omega)
  have d2 : decide (80 < (q.length : Int)) = false := decide_eq_false (by omega)
  have d3 : decide (80 < (x.length : Int)) = false := decide_eq_false (by omega)
  have d4 : decide (300 < (xs.length : Int)) = false := decide_eq_false (by omega)
  obtain ⟨Sd, hSd⟩ : ∃ B, sideB n = B := ⟨_, rfl⟩
  have QS := hid (show Sd = decide (1 ≤ n ∧ n ≤ 64) from hSd.symm)
  have C7 := hid fun (W : World) => hSd ▸ pmOne n W hn.1 hn.2
  have C1 := hid fun (W : World) (hW : Ext w W) => (show Calls Try.prog 8 #[v, u] W (RetGI false (thenL p q) W) from by
    have h := pmThen v u p q W (hv.ext hW) hx (hu.ext hW) hy
    rw [hP] at h; exact h)
  have C2 := hid fun (W : World) (hW : Ext w W) => (show Calls Try.prog 9 #[v] W (RetGI false (backL p) W) from hP ▸ pmBack v p W (hv.ext hW) hx)
  have C3 := hid fun (W : World) (hW : Ext w W) => (show Calls Try.prog 10 #[v] W (Ret (.tuple #[.int .i64 0, .int .i64 1]) W) from by
    have h := pmSign v p W (hv.ext hW) hx
    simpa [hP] using h)
  have C4 := hid fun (W : World) (hW : Ext w W) => (show Calls Try.prog 11 #[v, vx] W (RetG false (doL p x) W) from by
    have h := pmDo v vx p x W (hv.ext hW) hx (hz.ext hW) hzx
    rw [hP] at h; exact h)
  have C5 := hid fun (W : World) (hW : Ext w W) => (show Calls Try.prog 12 #[v, matV r c vm] W (RetGM false r c (rowsL p c.toNat xs) W) from by
    have h := pmRows v vm p xs r c W (hv.ext hW) hx (hm.ext hW) hmx
    rw [hP] at h; exact h)
  have C6 := hid fun (W : World) (hW : Ext w W) => (show Calls Try.prog 13 #[v] W (RetGII false (ringsL p) W) from hP ▸ pmRings v p W (hv.ext hW) hx)
  have C8 := hid fun (W : World) (hW : Ext w W) => (show Calls Try.prog 15 #[v] W (Ret (.bool false) W) from hP ▸ RetD.ret (r6Right v p W (hv.ext hW)))
  have C9 := hid fun (W : World) (hW : Ext w W) => (show Calls Try.prog 16 #[v] W (Ret (.bool false) W) from hP ▸ pmRight v p W (hv.ext hW) hx)
  clear hSd hP hx hy hzx hmx hn
  obtain ⟨a, cap, rfl, k1, k2, k3⟩ := hv
  obtain ⟨a', cap', rfl, k1', k2', k3'⟩ := hu
  obtain ⟨ax, capx, rfl, l1, l2, l3⟩ := hz
  obtain ⟨am, capm, rfl, m1, m2, m3⟩ := hm
  have HA := hid (Blk.new w 25 #[.int .i64 r, .int .i64 c, .slice am xs.length capm])
  have hW0 := hid ((Ext.refl w).alloc (.cells #[.int .i64 r, .int .i64 c, .slice am xs.length capm] 25))
  clear k3 k3' l3 m3
  unfold matV at C5
  unfold matV
  go_enter Try.func3, Try.ntmps3
  go_wp2_with fail
  refine (awake06 _).mono ?_
  rintro _ w1 ⟨rfl, xw1⟩
  obtain ⟨ha_0, ha_1, ha_2⟩ := (HA.out.ext xw1).at3
  go_wp2_with fail
  refine (C1.out _ (hW0.out.trans xw1)).mono ?_
  rintro _ w2 ⟨vT, lT, eT, rfl, iT, qT, tT, xw2⟩
  clear ha_0 ha_1 ha_2
  simp only [Bool.false_eq_true, if_false] at qT tT
  subst qT
  subst tT
  obtain ⟨aT, kT, rfl, _, _, kk⟩ := iT
  clear kk
  simp only [List.length_nil]
  go_wp2_with fail
  refine (C2.out _ (hW0.out.trans (xw1.trans xw2))).mono ?_
  rintro _ w3 ⟨vB, lB, eB, rfl, iB, qB, tB, xw3⟩
  simp only [Bool.false_eq_true, if_false] at qB tB
  subst qB
  subst tB
  obtain ⟨aB, kB, rfl, _, _, kk⟩ := iB
  clear kk
  simp only [List.length_nil]
  go_wp2_with fail
  refine (C3.out _ (hW0.out.trans (xw1.trans (xw2.trans xw3)))).mono ?_
  rintro _ w4 ⟨rfl, xw4⟩
  go_wp2_with fail
  refine (C4.out _ (hW0.out.trans (xw1.trans (xw2.trans (xw3.trans xw4))))).mono ?_
  rintro _ w5 ⟨vD, lD, eD, rfl, iD, qD, tD, xw5⟩
  simp only [Bool.false_eq_true, if_false] at qD tD
  subst qD
  subst tD
  obtain ⟨aD, kD, rfl, _, _, kk⟩ := iD
  clear kk
  simp only [List.length_nil]
  obtain ⟨ha_0, ha_1, ha_2⟩ := (HA.out.ext (xw1.trans (xw2.trans (xw3.trans (xw4.trans xw5))))).at3
  go_wp2_with fail
  refine (C5.out _ (hW0.out.trans (xw1.trans (xw2.trans (xw3.trans (xw4.trans xw5)))))).mono ?_
  rintro _ w6 ⟨nrR, ncR, vR, lR, eR, rfl, iR, qR, tR, _, xw6⟩
  clear ha_0 ha_1 ha_2
  simp only [Bool.false_eq_true, if_false] at qR tR
  subst qR
  subst tR
  obtain ⟨aR, kR, rfl, _, _, kk⟩ := iR
  clear kk
  simp only [List.length_nil]
  have z8 := (Ext.refl w6).alloc (.cells #[.int .i64 nrR, .int .i64 ncR, .slice aR 0 kR] 25)
  have HR := hid (Blk.new w6 25 #[.int .i64 nrR, .int .i64 ncR, .slice aR 0 kR])
  go_wp2_with fail
  refine (C6.out _ (hW0.out.trans (xw1.trans (xw2.trans (xw3.trans (xw4.trans (xw5.trans (xw6.trans z8)))))))).mono ?_
  rintro _ w7 ⟨vL, lL, eL, rfl, iL, qL, tL, xw7⟩
  simp only [Bool.false_eq_true, if_false] at qL tL
  subst qL
  subst tL
  obtain ⟨aL, kL, rfl, _, _, kk⟩ := iL
  clear kk
  simp only [List.length_nil]
  go_wp2_with fail
  refine (C7.out _).mono ?_
  rintro _ w8 ⟨vO, lO, eO, rfl, iO, qO, tO, xw8⟩
  have IO := hid iO; have QO := hid qO; have TO := hid tO
  obtain ⟨aO, kO, rfl, _, _, kk⟩ := iO
  clear kk qO tO
  have HG : Hid (∀ k, k < lO.length → lO.getD k 0 = (k : Int)) := by
    have e := TO.out
    cases Sd with
    | false => simp only [Bool.false_eq_true, if_false] at e; subst e; intro k hk; simp at hk
    | true => simp only [if_true] at e; subst e; intro k hk; rw [upL_len] at hk; exact upL_get hk
  go_wp2_with fail
  refine (C8.out _ (hW0.out.trans (xw1.trans (xw2.trans (xw3.trans (xw4.trans (xw5.trans (xw6.trans (z8.trans (xw7.trans xw8)))))))))).mono ?_
  rintro _ w9 ⟨rfl, xw9⟩
  go_upto_region 13 with fail
  go_cut [123] from 90 to 122 (fun tv w' => tv = .bool false ∧ Ext w9 w')
  case first =>
    have qd := QS.out
    cases Sd with
    | true =>
      have e0 := QO.out; have e1 := TO.out
      simp only [if_true] at e0 e1
      subst e0
      obtain ⟨hn1, hn2⟩ : 1 ≤ n ∧ n ≤ 64 := of_decide_eq_true qd.symm
      have b1 : ((lO.length : Int) != n) = false := by
        rw [e1, upL_len, Int.toNat_of_nonneg (by omega)]; simp
      clear e1 qd
      as_aux_lemma =>
        go_wp2_with fail
        refine (C9.out _ (hW0.out.trans (xw1.trans (xw2.trans (xw3.trans (xw4.trans (xw5.trans (xw6.trans (z8.trans (xw7.trans (xw8.trans xw9))))))))))).mono ?_
        rintro _ wq ⟨rfl, xq⟩
        go_wp2_with fail
        go_meet
        exact ⟨rfl, xq⟩
    | false =>
      have e0 := QO.out; have e1 := TO.out
      simp only [Bool.false_eq_true, if_false] at e0 e1
      subst e0
      have hn : n < 1 ∨ 64 < n := by
        have := of_decide_eq_false qd.symm
        omega
      have b1 : ((lO.length : Int) != 0) = false := by rw [e1]; rfl
      clear e1 qd
      rcases hn with hn | hn
      all_goals
        as_aux_lemma =>
          go_wp2_with fail
          refine (C9.out _ (hW0.out.trans (xw1.trans (xw2.trans (xw3.trans (xw4.trans (xw5.trans (xw6.trans (z8.trans (xw7.trans (xw8.trans xw9))))))))))).mono ?_
          rintro _ wq ⟨rfl, xq⟩
          go_wp2_with fail
          go_meet
          first
            | exact ⟨rfl, xq⟩
            | exact ⟨congrArg Value.bool (decide_eq_false (by omega)), xq⟩
  case rest =>
    obtain ⟨rfl, xc13⟩ := hcut
    rename World => W13
    clear QO TO QS C1 C2 C3 C4 C5 C6 C7 C8 C9 d1 d2 d3 d4
    obtain ⟨LO, hLO⟩ : ∃ k, lO.length = k := ⟨_, rfl⟩
    have KO := hid (show 0 < LO → ∃ b off, aO = some ⟨b, off, none⟩ ∧ b < w8.heap.size ∧ ∀ j, j < LO → w8.cell? ⟨b, off + j, none⟩ = some (.int .i64 (j : Int)) from by
      obtain ⟨_, _, e, o1, o2, o3⟩ := IO.out
      injection e with e1 e2 e3
      subst e1
      intro h
      obtain ⟨b, off, h1, h2, h3⟩ := o3 (by omega)
      exact ⟨b, off, h1, h2, fun j hj => by rw [h3 j (by omega), HG.out j (by omega)]⟩)
    have hLOb : LO ≤ 9223372036854775807 := by
      obtain ⟨_, _, e, o1, o2, o3⟩ := IO.out
      omega
    rw [hLO]
    clear IO HG hLO
    go_wp2_with fail
    go_loopw [26] (fun iv wr => ∃ k : Nat, iv = .int .i64 k ∧ k ≤ LO ∧ Ext W13 wr) (fun iv _ => LO - (intOf iv).toNat)
    case atStart => exact ⟨0, rfl, Nat.zero_le _, Ext.refl _⟩
    case round =>
      obtain ⟨k, rfl, hk, hxk⟩ := hrel
      rename World => wk
      by_cases hlt : k < LO
      · obtain ⟨b, off, rfl, hb, hc⟩ := KO.out (by omega)
        have g1 := (((xw9.trans xc13).trans hxk).cells _ _ hb).trans (hc k hlt)
        clear hc
        go_wp2_with fail
        go_roundw
        case rel => exact ⟨k + 1, by go_num, by omega, hxk⟩
        case measure => simp [intOf]; omega
      · obtain rfl : k = LO := by omega
        obtain ⟨hr_0, hr_1, hr_2⟩ := (HR.out.ext (xw7.trans (xw8.trans (xw9.trans (xc13.trans hxk))))).at3
        clear KO
        go_wp2_with fail
        go_ret
        exact ⟨rfl, (hW0.out.trans (xw1.trans (xw2.trans (xw3.trans (xw4.trans (xw5.trans (xw6.trans (z8.trans (xw7.trans (xw8.trans (xw9.trans (xc13.trans hxk))))))))))))⟩

set_option maxRecDepth 100000 in
set_option maxHeartbeats 8000000 in
theorem walk_yes (v u vx vm : Value) (p q x xs : List Int) (r c n : Int) (w : World) (hv : Ints .i64 w v p) (hx : I64s p) (hu : Ints .i64 w u q) (hy : I64s q) (hz : Ints .u64 w vx x) (hzx : U64s x) (hm : Ints .u64 w vm xs) (hmx : U64s xs) (hn : -9223372036854775808 ≤ n ∧ n ≤ 9223372036854775807)
    (h : (decide (p.length ≤ 80) && decide (q.length ≤ 80) && decide (x.length ≤ 80) && decide (xs.length ≤ 300)) = true) (hP : ordB p = true) :
    Calls Try.prog 3 #[v, u, vx, matV r c vm, .int .i64 n] w (Ret (.bool true) w) := by
  simp only [Bool.and_eq_true, decide_eq_true_eq] at h
  obtain ⟨⟨⟨g1, g2⟩, g3⟩, g4⟩ := h
  have d1 : decide (80 < (p.length : Int)) = false := decide_eq_false (by omega)
  have d2 : decide (80 < (q.length : Int)) = false := decide_eq_false (by omega)
  have d3 : decide (80 < (x.length : Int)) = false := decide_eq_false (by omega)
  have d4 : decide (300 < (xs.length : Int)) = false := decide_eq_false (by omega)
  obtain ⟨Sd, hSd⟩ : ∃ B, sideB n = B := ⟨_, rfl⟩
  have QS := hid (show Sd = decide (1 ≤ n ∧ n ≤ 64) from hSd.symm)
  have C7 := hid fun (W : World) => hSd ▸ pmOne n W hn.1 hn.2
  obtain ⟨a1, a2, hp⟩ := ordB_iff.1 hP
  obtain ⟨Q1, hQ1⟩ : ∃ B, ordB q = B := ⟨_, rfl⟩
  obtain ⟨L1, hL1⟩ : ∃ B, decide (q.length = p.length) = B := ⟨_, rfl⟩
  obtain ⟨Q, hQ⟩ : ∃ B, (Q1 && L1) = B := ⟨_, rfl⟩
  obtain ⟨X, hX⟩ : ∃ B, decide (x.length = p.length) = B := ⟨_, rfl⟩
  obtain ⟨S1, hS1⟩ : ∃ B, shB r c xs = B := ⟨_, rfl⟩
  obtain ⟨R1, hR1⟩ : ∃ B, decide (r = p.length) = B := ⟨_, rfl⟩
  obtain ⟨M, hM⟩ : ∃ B, (S1 && R1) = B := ⟨_, rfl⟩
  have C1 := hid fun (W : World) (hW : Ext w W) => (show Calls Try.prog 8 #[v, u] W (RetGI Q (thenL p q) W) from by
    have h := pmThen v u p q W (hv.ext hW) hx (hu.ext hW) hy
    rw [hP, hQ1, hL1, Bool.true_and, hQ] at h; exact h)
  have C2 := hid fun (W : World) (hW : Ext w W) => pBack (hv.ext hW) hp a1 a2
  have C3 := hid fun (W : World) (hW : Ext w W) => pSign (hv.ext hW) hp a1 a2
  have C4 := hid fun (W : World) (hW : Ext w W) => (show Calls Try.prog 11 #[v, vx] W (RetG X (doL p x) W) from by
    have h := pmDo v vx p x W (hv.ext hW) hx (hz.ext hW) hzx
    rw [hP, Bool.true_and, hX] at h; exact h)
  have C5 := hid fun (W : World) (hW : Ext w W) => (show Calls Try.prog 12 #[v, matV r c vm] W (RetGM M r c (rowsL p c.toNat xs) W) from by
    have h := pmRows v vm p xs r c W (hv.ext hW) hx (hm.ext hW) hmx
    rw [hP, hS1, hR1, Bool.true_and, hM] at h; exact h)
  have C6 := hid fun (W : World) (hW : Ext w W) => pRings (hv.ext hW) hp a1 a2
  have C8 := hid fun (W : World) (hW : Ext w W) => (show Calls Try.prog 15 #[v] W (Ret (.bool true) W) from hP ▸ RetD.ret (r6Right v p W (hv.ext hW)))
  have C9 := hid fun (W : World) (hW : Ext w W) => (show Calls Try.prog 16 #[v] W (Ret (.bool true) W) from hP ▸ pmRight v p W (hv.ext hW) hx)
  have C10 := hid fun (W : World) (hW : Ext w W) => r6Back v _ p W (hv.ext hW) hp a2
  have C11 := hid fun (W : World) (hW : Ext w W) => RetD.ret (r6Sign v p W (hv.ext hW) a2)
  have C12 := hid fun (W : World) (hW : Ext w W) => r6Rings v _ p W (hv.ext hW) hp a2
  have C13 := hid fun (W : World) (hW : Ext w W) => (show Calls Try.prog 15 #[u] W (Ret (.bool Q1) W) from hQ1 ▸ RetD.ret (r6Right u q W (hu.ext hW)))
  have C14 := hid fun (k : Q = true) (W : World) (hW : Ext w W) => (show Calls Try.prog 21 #[v, u] W (RetI (thenL p q) W) from by
    have k2 := hQ.trans k
    rw [Bool.and_eq_true] at k2
    have k3 := ordB_iff.1 (hQ1.trans k2.1)
    have k4 : q.length = p.length := of_decide_eq_true (hL1.trans k2.2)
    exact r6Then v u p.length p q W (hv.ext hW) (hu.ext hW) rfl (k4 ▸ k3.2.2) a2)
  have C15 := hid fun (k : X = true) (W : World) (hW : Ext w W) => r6Do v vx _ p x W (hv.ext hW) (hz.ext hW) hp (of_decide_eq_true (hX.trans k)) a2
  have C16 := hid fun (W : World) (hW : Ext w W) => hS1 ▸ shaped06 r c vm xs W (hm.ext hW)
  have C17 := hid fun (k : M = true) (W : World) (hW : Ext w W) => (show Calls Try.prog 26 #[v, matV r c vm] W (RetM r c (rowsL p c.toNat xs) W) from by
    have k2 := hM.trans k
    rw [Bool.and_eq_true] at k2
    have k3 := hS1.trans k2.1
    unfold shB at k3
    simp only [Bool.and_eq_true, decide_eq_true_eq] at k3
    have k4 : r = p.length := of_decide_eq_true (hR1.trans k2.2)
    obtain ⟨m, rfl⟩ := Int.eq_ofNat_of_zero_le (show 0 ≤ c by omega)
    rw [k4, Int.toNat_natCast]
    exact r6Rows v vm p.length m p xs W (hv.ext hW) (hm.ext hW) hp a2 (by omega) (by have := k3.2.2; rw [k4] at this; exact_mod_cast this))
  have hls : 0 < (ringsL p).length := by
    rcases Nat.eq_zero_or_pos (ringsL p).length with h | h
    · exfalso
      have := hp.rings_flat.len
      rw [List.eq_nil_of_length_eq_zero h] at this
      simp at this; omega
    · exact h
  have bL : ((q.length : Int) == (p.length : Int)) = L1 := by rw [← hL1, Bool.eq_iff_iff]; simp; omega
  have bX : ((x.length : Int) == (p.length : Int)) = X := by rw [← hX, Bool.eq_iff_iff]; simp; omega
  have bR : (r == (p.length : Int)) = R1 := by rw [← hR1, Bool.eq_iff_iff]; simp
  have BL := hid bL; have BX := hid bX; have BR := hid bR; have HQ := hid hQ; have HM := hid hM
  clear bL bX bR hQ1 hL1 hQ hX hS1 hR1 hM hp
  clear hSd hP hx hy hzx hmx hn
  obtain ⟨s1, es1⟩ : ∃ s, sgnL p = s := ⟨_, rfl⟩
  rw [es1] at C3 C11
  obtain ⟨ls, els⟩ : ∃ l, ringsL p = l := ⟨_, rfl⟩
  rw [els] at C6 C12 hls
  clear es1 els
  obtain ⟨a, cap, rfl, k1, k2, k3⟩ := hv
  obtain ⟨a', cap', rfl, k1', k2', k3'⟩ := hu
  obtain ⟨ax, capx, rfl, l1, l2, l3⟩ := hz
  obtain ⟨am, capm, rfl, m1, m2, m3⟩ := hm
  have HA := hid (Blk.new w 25 #[.int .i64 r, .int .i64 c, .slice am xs.length capm])
  have hW0 := hid ((Ext.refl w).alloc (.cells #[.int .i64 r, .int .i64 c, .slice am xs.length capm] 25))
  clear k3 k3' l3 m3
  unfold matV at C5 C16 C17
  unfold matV
  go_enter Try.func3, Try.ntmps3
  go_wp2_with fail
  refine (awake06 _).mono ?_
  rintro _ w1 ⟨rfl, xw1⟩
  obtain ⟨ha_0, ha_1, ha_2⟩ := (HA.out.ext xw1).at3
  go_wp2_with fail
  refine (C1.out _ (hW0.out.trans xw1)).mono ?_
  rintro _ w2 ⟨vT, lT, eT, rfl, iT, qT, tT, xw2⟩
  clear ha_0 ha_1 ha_2
  have IT := hid iT; have QT := hid qT; have TT := hid tT
  obtain ⟨aT, kT, rfl, _, _, kk⟩ := iT
  clear kk qT tT
  go_wp2_with fail
  refine (C2.out _ (hW0.out.trans (xw1.trans xw2))).mono ?_
  rintro _ w3 ⟨vB, rfl, iB, xw3⟩
  have IB := hid iB
  obtain ⟨aB, kB, rfl, _, _, kk⟩ := iB
  clear kk
  go_wp2_with fail
  refine (C3.out _ (hW0.out.trans (xw1.trans (xw2.trans xw3)))).mono ?_
  rintro _ w4 ⟨rfl, xw4⟩
  go_wp2_with fail
  refine (C4.out _ (hW0.out.trans (xw1.trans (xw2.trans (xw3.trans xw4))))).mono ?_
  rintro _ w5 ⟨vD, lD, eD, rfl, iD, qD, tD, xw5⟩
  have ID := hid iD; have QD := hid qD; have TD := hid tD
  obtain ⟨aD, kD, rfl, _, _, kk⟩ := iD
  clear kk qD tD
  obtain ⟨ha_0, ha_1, ha_2⟩ := (HA.out.ext (xw1.trans (xw2.trans (xw3.trans (xw4.trans xw5))))).at3
  go_wp2_with fail
  refine (C5.out _ (hW0.out.trans (xw1.trans (xw2.trans (xw3.trans (xw4.trans xw5)))))).mono ?_
  rintro _ w6 ⟨nrR, ncR, vR, lR, eR, rfl, iR, qR, tR, gR, xw6⟩
  clear ha_0 ha_1 ha_2
  have IR := hid iR; have QR := hid qR; have TR := hid tR; have GR := hid gR
  obtain ⟨aR, kR, rfl, _, _, kk⟩ := iR
  clear kk qR tR gR
  have z8 := (Ext.refl w6).alloc (.cells #[.int .i64 nrR, .int .i64 ncR, .slice aR lR.length kR] 25)
  have HR := hid (Blk.new w6 25 #[.int .i64 nrR, .int .i64 ncR, .slice aR lR.length kR])
  go_wp2_with fail
  refine (C6.out _ (hW0.out.trans (xw1.trans (xw2.trans (xw3.trans (xw4.trans (xw5.trans (xw6.trans z8)))))))).mono ?_
  rintro _ w7 ⟨vL, rfl, iL, xw7⟩
  obtain ⟨aL, kL, rfl, _, _, kk⟩ := iL
  have IL := hid (show IntsL w7 (.slice aL ls.length kL) ls from ⟨aL, kL, rfl, by assumption, by assumption, kk⟩)
  clear kk
  go_wp2_with fail
  refine (C7.out _).mono ?_
  rintro _ w8 ⟨vO, lO, eO, rfl, iO, qO, tO, xw8⟩
  have IO := hid iO; have QO := hid qO; have TO := hid tO
  obtain ⟨aO, kO, rfl, _, _, kk⟩ := iO
  clear kk qO tO
  have HG : Hid (∀ k, k < lO.length → lO.getD k 0 = (k : Int)) := by
    have e := TO.out
    cases Sd with
    | false => simp only [Bool.false_eq_true, if_false] at e; subst e; intro k hk; simp at hk
    | true => simp only [if_true] at e; subst e; intro k hk; rw [upL_len] at hk; exact upL_get hk
  go_wp2_with fail
  refine (C8.out _ (hW0.out.trans (xw1.trans (xw2.trans (xw3.trans (xw4.trans (xw5.trans (xw6.trans (z8.trans (xw7.trans xw8)))))))))).mono ?_
  rintro _ w9 ⟨rfl, xw9⟩
  go_upto_region 13 with fail
  go_cut [123] from 90 to 122 (fun tv w' => tv = .bool false ∧ Ext w9 w')
  case first =>
    have qd := QS.out
    cases Sd with
    | true =>
      have e0 := QO.out; have e1 := TO.out
      simp only [if_true] at e0 e1
      subst e0
      obtain ⟨hn1, hn2⟩ : 1 ≤ n ∧ n ≤ 64 := of_decide_eq_true qd.symm
      have b1 : ((lO.length : Int) != n) = false := by
        rw [e1, upL_len, Int.toNat_of_nonneg (by omega)]; simp
      clear e1 qd
      as_aux_lemma =>
        go_wp2_with fail
        refine (C9.out _ (hW0.out.trans (xw1.trans (xw2.trans (xw3.trans (xw4.trans (xw5.trans (xw6.trans (z8.trans (xw7.trans (xw8.trans xw9))))))))))).mono ?_
        rintro _ wq ⟨rfl, xq⟩
        go_wp2_with fail
        go_meet
        exact ⟨rfl, xq⟩
    | false =>
      have e0 := QO.out; have e1 := TO.out
      simp only [Bool.false_eq_true, if_false] at e0 e1
      subst e0
      have hn : n < 1 ∨ 64 < n := by
        have := of_decide_eq_false qd.symm
        omega
      have b1 : ((lO.length : Int) != 0) = false := by rw [e1]; rfl
      clear e1 qd
      rcases hn with hn | hn
      all_goals
        as_aux_lemma =>
          go_wp2_with fail
          refine (C9.out _ (hW0.out.trans (xw1.trans (xw2.trans (xw3.trans (xw4.trans (xw5.trans (xw6.trans (z8.trans (xw7.trans (xw8.trans xw9))))))))))).mono ?_
          rintro _ wq ⟨rfl, xq⟩
          go_wp2_with fail
          go_meet
          first
            | exact ⟨rfl, xq⟩
            | exact ⟨congrArg Value.bool (decide_eq_false (by omega)), xq⟩
  case rest =>
    obtain ⟨rfl, xc13⟩ := hcut
    rename World => W13
    clear QO TO QS C1 C2 C3 C4 C5 C6 C7 C8 C9 d1 d2 d3 d4
    obtain ⟨LO, hLO⟩ : ∃ k, lO.length = k := ⟨_, rfl⟩
    have KO := hid (show 0 < LO → ∃ b off, aO = some ⟨b, off, none⟩ ∧ b < w8.heap.size ∧ ∀ j, j < LO → w8.cell? ⟨b, off + j, none⟩ = some (.int .i64 (j : Int)) from by
      obtain ⟨_, _, e, o1, o2, o3⟩ := IO.out
      injection e with e1 e2 e3
      subst e1
      intro h
      obtain ⟨b, off, h1, h2, h3⟩ := o3 (by omega)
      exact ⟨b, off, h1, h2, fun j hj => by rw [h3 j (by omega), HG.out j (by omega)]⟩)
    have hLOb : LO ≤ 9223372036854775807 := by
      obtain ⟨_, _, e, o1, o2, o3⟩ := IO.out
      omega
    rw [hLO]
    clear IO HG hLO
    go_wp2_with fail
    go_loopw [26] (fun iv wr => ∃ k : Nat, iv = .int .i64 k ∧ k ≤ LO ∧ Ext W13 wr) (fun iv _ => LO - (intOf iv).toNat)
    case atStart => exact ⟨0, rfl, Nat.zero_le _, Ext.refl _⟩
    case round =>
      obtain ⟨k, rfl, hk, hxk⟩ := hrel
      rename World => wk
      by_cases hlt : k < LO
      · obtain ⟨b, off, rfl, hb, hc⟩ := KO.out (by omega)
        have g1 := (((xw9.trans xc13).trans hxk).cells _ _ hb).trans (hc k hlt)
        clear hc
        go_wp2_with fail
        go_roundw
        case rel => exact ⟨k + 1, by go_num, by omega, hxk⟩
        case measure => simp [intOf]; omega
      · obtain rfl : k = LO := by omega
        clear KO
        go_wp2_with fail
        refine (C10.out _ (hW0.out.trans (xw1.trans (xw2.trans (xw3.trans (xw4.trans (xw5.trans (xw6.trans (z8.trans (xw7.trans (xw8.trans (xw9.trans (xc13.trans hxk))))))))))))).mono ?_
        rintro _ w10 ⟨vK, rfl, iK, xw10⟩
        have IK := hid iK
        obtain ⟨aK, kK, rfl, _, _, kk⟩ := iK
        clear kk
        go_wp2_with fail
        refine (r6Same_yes _ _ _ _ (IB.out.ext (xw4.trans (xw5.trans (xw6.trans (z8.trans (xw7.trans (xw8.trans (xw9.trans (xc13.trans (hxk.trans xw10)))))))))) IK.out).mono ?_
        rintro _ w11 ⟨rfl, xw11⟩
        go_wp2_with fail
        refine (C11.out _ (hW0.out.trans (xw1.trans (xw2.trans (xw3.trans (xw4.trans (xw5.trans (xw6.trans (z8.trans (xw7.trans (xw8.trans (xw9.trans (xc13.trans (hxk.trans (xw10.trans xw11))))))))))))))).mono ?_
        rintro _ w12 ⟨rfl, xw12⟩
        go_wp2_with fail
        refine (C12.out _ (hW0.out.trans (xw1.trans (xw2.trans (xw3.trans (xw4.trans (xw5.trans (xw6.trans (z8.trans (xw7.trans (xw8.trans (xw9.trans (xc13.trans (hxk.trans (xw10.trans (xw11.trans xw12)))))))))))))))).mono ?_
        rintro _ w13 ⟨vW, rfl, iW, xw13⟩
        obtain ⟨aW, kW, rfl, _, _, kk⟩ := iW
        have KW := hid kk
        clear kk
        obtain ⟨_, _, eL, _, _, kkL⟩ := IL.out
        injection eL with eL1 eL2 eL3
        subst eL1
        subst eL3
        have KL := hid kkL
        clear kkL eL2 IL C10 C11 C12
        go_wp2_with fail
        go_loopw [28] (fun iv wr => ∃ k : Nat, iv = .int .i64 k ∧ k ≤ ls.length ∧ Ext w13 wr) (fun iv _ => ls.length - (intOf iv).toNat)
        case atStart => exact ⟨0, rfl, Nat.zero_le _, Ext.refl _⟩
        case round =>
          obtain ⟨j, rfl, hj, hxj⟩ := hrel
          rename World => wj
          by_cases hlt : j < ls.length
          · obtain ⟨b, off, rfl, hb, hc⟩ := KL.out (by omega)
            obtain ⟨b', off', rfl, hb', hc'⟩ := KW.out (by omega)
            obtain ⟨u1, f1, f2⟩ := hc j hlt
            obtain ⟨u2, f3, f4⟩ := hc' j hlt
            have f1' := (((xw8.trans (xw9.trans (xc13.trans (hxk.trans (xw10.trans (xw11.trans (xw12.trans xw13))))))).trans hxj).cells _ _ hb).trans f1
            have f3' := (hxj.cells _ _ hb').trans f3
            have HS := hid fun (N : Nat) => (show Calls Try.prog 17 #[u1, u2] (wj.drewN N) (RetD (.bool true) (wj.drewN N)) from by
              have h := r6SameD u1 u2 _ _ (wj.drewN N) ((f2.ext ((xw8.trans (xw9.trans (xc13.trans (hxk.trans (xw10.trans (xw11.trans (xw12.trans xw13))))))).trans hxj)).drewN N) ((f4.ext hxj).drewN N)
              rwa [show decide (ls.getD j [] = ls.getD j []) = true by simp] at h)
            clear hc hc' f1 f2 f3 f4
            go_wp2_with fail
            go_quiet ((go_at_call 17; exact quiet_d (HS.out _)))
            go_wp2_with fail
            go_roundw
            case rel => exact ⟨j + 1, by go_num, by omega, hxj.drewN _⟩
            case measure => simp [intOf]; omega
          · obtain rfl : j = ls.length := by omega
            clear KL KW
            go_upto_region 30 with fail
            go_cut [238] from 230 to 237 (fun tv w' => tv = .bool Q ∧ Ext wj w')
            case first =>
              have bL := BL.out
              cases Q1 <;>
                (go_wp2_with fail; refine (C13.out _ (hW0.out.trans (xw1.trans (xw2.trans (xw3.trans (xw4.trans (xw5.trans (xw6.trans (z8.trans (xw7.trans (xw8.trans (xw9.trans (xc13.trans (hxk.trans (xw10.trans (xw11.trans (xw12.trans (xw13.trans hxj)))))))))))))))))).mono ?_; rintro _ wq ⟨rfl, xq⟩; go_wp2_with fail; go_meet; exact ⟨congrArg Value.bool HQ.out, xq⟩)
            case rest =>
              obtain ⟨rfl, xc30⟩ := hcut
              rename World => W30
              clear BL HQ C13
              go_upto_if 238 with fail
              go_cut [] from 239 to 255 (fun w' => Ext W30 w')
              case first =>
                cases Q with
                | true =>
                  have e0 := QT.out; have e1 := TT.out
                  simp only [if_true] at e0 e1
                  subst e0
                  have K := hid (C14.out (by trivial))
                  have E1 := hid e1
                  clear e1
                  as_aux_lemma =>
                    go_wp2_with fail
                    refine (K.out _ (hW0.out.trans (xw1.trans (xw2.trans (xw3.trans (xw4.trans (xw5.trans (xw6.trans (z8.trans (xw7.trans (xw8.trans (xw9.trans (xc13.trans (hxk.trans (xw10.trans (xw11.trans (xw12.trans (xw13.trans (hxj.trans xc30))))))))))))))))))).mono ?_
                    rintro _ u1 ⟨z, rfl, hz, xu⟩
                    rw [← E1.out] at hz
                    go_wp2_with fail
                    refine (r6Same_yes _ _ _ _ ((IT.out.ext (xw3.trans (xw4.trans (xw5.trans (xw6.trans (z8.trans (xw7.trans (xw8.trans (xw9.trans (xc13.trans (hxk.trans (xw10.trans (xw11.trans (xw12.trans (xw13.trans (hxj.trans xc30)))))))))))))))).ext xu) hz).mono ?_
                    rintro _ u2 ⟨rfl, xu2⟩
                    go_wp2_with fail
                    go_meet
                    exact xu.trans xu2
                | false =>
                  have e0 := QT.out; have e1 := TT.out
                  simp only [Bool.false_eq_true, if_false] at e0 e1
                  subst e0
                  have b1 : ((lT.length : Int) != 0) = false := by rw [e1]; rfl
                  clear e1
                  as_aux_lemma =>
                    go_wp2_with fail
                    go_meet
                    exact Ext.refl _
              case rest =>
                have xc33 := hcut
                rename World => W33
                clear IT QT TT C14
                have bX := BX.out
                go_upto_if 260 with fail
                clear bX
                go_cut [] from 261 to 277 (fun w' => Ext W33 w')
                case first =>
                  cases X with
                  | true =>
                    have e0 := QD.out; have e1 := TD.out
                    simp only [if_true] at e0 e1
                    subst e0
                    have K := hid (C15.out (by trivial))
                    have E1 := hid e1
                    clear e1
                    as_aux_lemma =>
                      go_wp2_with fail
                      refine (K.out _ (hW0.out.trans (xw1.trans (xw2.trans (xw3.trans (xw4.trans (xw5.trans (xw6.trans (z8.trans (xw7.trans (xw8.trans (xw9.trans (xc13.trans (hxk.trans (xw10.trans (xw11.trans (xw12.trans (xw13.trans (hxj.trans (xc30.trans xc33)))))))))))))))))))).mono ?_
                      rintro _ u1 ⟨z, rfl, hz, xu⟩
                      rw [← E1.out] at hz
                      go_wp2_with fail
                      refine (same_yes _ _ _ _ ((ID.out.ext (xw6.trans (z8.trans (xw7.trans (xw8.trans (xw9.trans (xc13.trans (hxk.trans (xw10.trans (xw11.trans (xw12.trans (xw13.trans (hxj.trans (xc30.trans xc33)))))))))))))).ext xu) hz).mono ?_
                      rintro _ u2 ⟨rfl, xu2⟩
                      go_wp2_with fail
                      go_meet
                      exact xu.trans xu2
                  | false =>
                    have e0 := QD.out; have e1 := TD.out
                    simp only [Bool.false_eq_true, if_false] at e0 e1
                    subst e0
                    have b1 : ((lD.length : Int) != 0) = false := by rw [e1]; rfl
                    clear e1
                    as_aux_lemma =>
                      go_wp2_with fail
                      go_meet
                      exact Ext.refl _
                case rest =>
                  have xc38 := hcut
                  rename World => W38
                  clear ID QD TD BX C15
                  obtain ⟨ha_0, ha_1, ha_2⟩ := (HA.out.ext (xw1.trans (xw2.trans (xw3.trans (xw4.trans (xw5.trans (xw6.trans (z8.trans (xw7.trans (xw8.trans (xw9.trans (xc13.trans (hxk.trans (xw10.trans (xw11.trans (xw12.trans (xw13.trans (hxj.trans (xc30.trans (xc33.trans xc38)))))))))))))))))))).at3
                  go_upto_region 40 with fail
                  go_cut [286] from 278 to 285 (fun tv w' => tv = .bool M ∧ Ext W38 w')
                  case first =>
                    have bR := BR.out
                    cases S1 <;>
                      (go_wp2_with fail; refine (C16.out _ (hW0.out.trans (xw1.trans (xw2.trans (xw3.trans (xw4.trans (xw5.trans (xw6.trans (z8.trans (xw7.trans (xw8.trans (xw9.trans (xc13.trans (hxk.trans (xw10.trans (xw11.trans (xw12.trans (xw13.trans (hxj.trans (xc30.trans (xc33.trans xc38))))))))))))))))))))).mono ?_; rintro _ wq ⟨rfl, xq⟩; obtain ⟨p0, p1, p2⟩ := ((HA.out.ext (xw1.trans (xw2.trans (xw3.trans (xw4.trans (xw5.trans (xw6.trans (z8.trans (xw7.trans (xw8.trans (xw9.trans (xc13.trans (hxk.trans (xw10.trans (xw11.trans (xw12.trans (xw13.trans (hxj.trans (xc30.trans (xc33.trans xc38)))))))))))))))))))).ext xq).at3; go_wp2_with fail; go_meet; exact ⟨congrArg Value.bool HM.out, xq⟩)
                  case rest =>
                    obtain ⟨rfl, xc40⟩ := hcut
                    rename World => W40
                    clear ha_0 ha_1 ha_2
                    clear BR HM C16
                    cases M with
                    | true =>
                      have e0 := QR.out; have e1 := TR.out; have e2 := GR.out
                      simp only [if_true] at e0 e1
                      subst e0
                      obtain ⟨ea, eb⟩ := e2 rfl
                      replace ea := ea.symm
                      replace eb := eb.symm
                      clear e2
                      subst ea
                      subst eb
                      have K := hid (C17.out (by trivial))
                      unfold RetM matV at K
                      have hS := hid fun (W : World) (v u : Value) (hv : Ints .u64 W v lR) (hu : Ints .u64 W u (rowsL p c.toNat xs)) => (show Calls Try.prog 25 #[matV r c v, matV r c u] W (Ret (.bool true) W) from by
                        have h := rmSame r c r c v u lR (rowsL p c.toNat xs) W hv hu
                        rwa [decide_eq_true (show r = r ∧ c = c ∧ lR = rowsL p c.toNat xs from ⟨rfl, rfl, e1⟩)] at h)
                      unfold matV at hS
                      clear e1
                      have fs := hid (fun (W : World) (hW : Ext W40 W) => And.intro (((HA.out.ext (xw1.trans (xw2.trans (xw3.trans (xw4.trans (xw5.trans (xw6.trans (z8.trans (xw7.trans (xw8.trans (xw9.trans (xc13.trans (hxk.trans (xw10.trans (xw11.trans (xw12.trans (xw13.trans (hxj.trans (xc30.trans (xc33.trans (xc38.trans xc40))))))))))))))))))))).ext hW).at3) (((HR.out.ext (xw7.trans (xw8.trans (xw9.trans (xc13.trans (hxk.trans (xw10.trans (xw11.trans (xw12.trans (xw13.trans (hxj.trans (xc30.trans (xc33.trans (xc38.trans xc40)))))))))))))).ext hW).at3))
                      as_aux_lemma =>
                        go_wp2_with fail
                        go_region_held3 (fun w' => (w'.cell? ⟨w.heap.size, 0, none⟩ = some (.int .i64 r) ∧ w'.cell? ⟨w.heap.size, 1, none⟩ = some (.int .i64 c) ∧ w'.cell? ⟨w.heap.size, 2, none⟩ = some (.slice am xs.length capm)) ∧ (w'.cell? ⟨w6.heap.size, 0, none⟩ = some (.int .i64 r) ∧ w'.cell? ⟨w6.heap.size, 1, none⟩ = some (.int .i64 c) ∧ w'.cell? ⟨w6.heap.size, 2, none⟩ = some (.slice aR lR.length kR))) (first | assumption | exact fs.out _ ((Ext.refl W40).drew) | exact fs.out _ (by assumption))
                          ((first
                            | (go_at_call 26; refine (K.out _ ((hW0.out.trans (xw1.trans (xw2.trans (xw3.trans (xw4.trans (xw5.trans (xw6.trans (z8.trans (xw7.trans (xw8.trans (xw9.trans (xc13.trans (hxk.trans (xw10.trans (xw11.trans (xw12.trans (xw13.trans (hxj.trans (xc30.trans (xc33.trans (xc38.trans xc40))))))))))))))))))))).trans (by first | exact (Ext.refl W40).drew | assumption))).mono ?_; rintro _ u1 ⟨z, rfl, hz, xu⟩; have zu : Ext W40 u1 := Ext.trans (by first | exact (Ext.refl W40).drew | assumption) xu)
                            | (go_at_call 25; refine (hS.out _ _ _ ((IR.out.ext (z8.trans (xw7.trans (xw8.trans (xw9.trans (xc13.trans (hxk.trans (xw10.trans (xw11.trans (xw12.trans (xw13.trans (hxj.trans (xc30.trans (xc33.trans (xc38.trans xc40))))))))))))))).ext (by first | exact (Ext.refl W40).drew | assumption)) hz).mono ?_; rintro _ u2 ⟨rfl, xu2⟩; have zu2 : Ext W40 u2 := Ext.trans (by first | exact (Ext.refl W40).drew | assumption) xu2)))
                        go_wp2_with fail
                        go_ret
                        exact ⟨rfl, (hW0.out.trans (xw1.trans (xw2.trans (xw3.trans (xw4.trans (xw5.trans (xw6.trans (z8.trans (xw7.trans (xw8.trans (xw9.trans (xc13.trans (hxk.trans (xw10.trans (xw11.trans (xw12.trans (xw13.trans (hxj.trans (xc30.trans (xc33.trans (xc38.trans xc40))))))))))))))))))))).trans zu2⟩
                    | false =>
                      have e0 := QR.out; have e1 := TR.out
                      simp only [Bool.false_eq_true, if_false] at e0 e1
                      subst e0
                      have e2 : ((lR.length : Int) == 0) = true := by rw [e1]; rfl
                      clear e1
                      obtain ⟨hr_0, hr_1, hr_2⟩ := (HR.out.ext (xw7.trans (xw8.trans (xw9.trans (xc13.trans (hxk.trans (xw10.trans (xw11.trans (xw12.trans (xw13.trans (hxj.trans (xc30.trans (xc33.trans (xc38.trans xc40)))))))))))))).at3
                      as_aux_lemma =>
                        go_wp2_with fail
                        go_ret
                        exact ⟨rfl, (hW0.out.trans (xw1.trans (xw2.trans (xw3.trans (xw4.trans (xw5.trans (xw6.trans (z8.trans (xw7.trans (xw8.trans (xw9.trans (xc13.trans (hxk.trans (xw10.trans (xw11.trans (xw12.trans (xw13.trans (hxj.trans (xc30.trans (xc33.trans (xc38.trans xc40)))))))))))))))))))))⟩

/-- the law answers true -/
theorem walk (v : Value) (p : List Int) (u : Value) (q : List Int) (vx : Value) (x : List Int) (r c : Int) (vm : Value) (xs : List Int) (n : Int) (w : World) (hv : Ints .i64 w v p) (hx : ∀ x ∈ p, (Lit.int .i64 x).wf = true) (hu : Ints .i64 w u q) (hy : ∀ y ∈ q, (Lit.int .i64 y).wf = true) (hz : Ints .u64 w vx x) (hxx : ∀ y ∈ x, (Lit.int .u64 y).wf = true)
    (_ : (Lit.int .i64 r).wf = true) (_ : (Lit.int .i64 c).wf = true) (hm : Ints .u64 w vm xs) (hmx : ∀ y ∈ xs, (Lit.int .u64 y).wf = true) (hn : (Lit.int .i64 n).wf = true) :
    Calls Try.prog 3 #[v, u, vx, .agg #[.int .i64 r, .int .i64 c, vm], .int .i64 n] w (Ret (.bool true) w) := by
  have hx' : I64s p := fun x h => i64_wf (hx x h)
  have hy' : I64s q := fun x h => i64_wf (hy x h)
  have hz' : U64s x := fun x h => u64_wf (hxx x h)
  have hm' : U64s xs := fun x h => u64_wf (hmx x h)
  cases h : (decide (p.length ≤ 80) && decide (q.length ≤ 80) && decide (x.length ≤ 80) && decide (xs.length ≤ 300)) with
  | false => exact walk_skip v u vx vm p q x xs r c n w hv hx' hu hy' hz hz' hm hm' (i64_wf hn) h
  | true =>
    cases hP : ordB p with
    | false => exact walk_no v u vx vm p q x xs r c n w hv hx' hu hy' hz hz' hm hm' (i64_wf hn) h hP
    | true => exact walk_yes v u vx vm p q x xs r c n w hv hx' hu hy' hz hz' hm hm' (i64_wf hn) h hP

theorem own : ownKnob Try.prog.godebug = none := by kernel_rfl
set_option maxRecDepth 100000 in
theorem lifted (os : Os) (started : os.Started) (H : Type) (enc : TypeId × Value → H) :
    ReturnsInHanded {} Try.checked os 3 .any (Rows.permRightSpec.pre6 enc Try.prog Try.f3 Rows.permRightRow.domain false) (Rows.permRightSpec.post enc Try.prog Try.f3 false true false false) := by
  refine returnsInHanded_of_change (C := Try.checked) own started (by kernel_rfl) Try.func3
    (ChangeSpec.witness6 (enc := enc) (C := Try.checked) false ⟨#[], #[.slice none 0 0, .slice none 0 0, .slice none 0 0, .agg #[.int .i64 0, .int .i64 0, .slice none 0 0], .int .i64 0], []⟩ 8 (by kernel_rfl) (by kernel_rfl) (by kernel_rfl) (by kernel_rfl)) ?_
  intro W base args ds gs before hval0 hW _ _
  have hval : ∀ (j : Nat) t v, Try.f3.params[j]? = some t → args[j]? = some v → Value.okWide Try.prog W .any base t v := hval0
  have hW' := hW
  obtain ⟨p, q, hA0, hV, rfl, _, _⟩ := hW
  have hA : DataW.TrodAll enc Try.prog W 0 (fun _ => true) true Try.f3.params.toList args.toList ds p := hA0
  rw [Try.params3] at hA hval
  obtain ⟨v0, vs0, d0, ds0, p0, q0, hargs, rfl, rfl, h0, r0⟩ := trodAll_cons hA
  obtain ⟨v1, vs1, d1, ds1, p1, q1, rfl, rfl, rfl, h1, r1⟩ := trodAll_cons r0
  obtain ⟨v2, vs2, d2, ds2, p2, q2, rfl, rfl, rfl, h2, r2⟩ := trodAll_cons r1
  obtain ⟨v3, vs3, d3, ds3, p3, q3, rfl, rfl, rfl, h3, r3⟩ := trodAll_cons r2
  obtain ⟨v4, vs4, d4, ds4, p4, q4, rfl, rfl, rfl, h4, r4⟩ := trodAll_cons r3
  obtain ⟨rfl, rfl, rfl⟩ := trodAll_nil r4
  obtain rfl : args = #[v0, v1, v2, v3, v4] := by cases args; simp_all
  obtain ⟨rfl, rfl⟩ := trodVars_none hV
  obtain ⟨xs0, i0, w0⟩ := open_Ints Try.underlying22 Try.underlying3 (by kernel_rfl) (hval 0 22 v0 rfl rfl) h0
  obtain ⟨xs1, i1, w1⟩ := open_Ints Try.underlying22 Try.underlying3 (by kernel_rfl) (hval 1 22 v1 rfl rfl) h1
  obtain ⟨xs2, i2, w2⟩ := open_Ints Try.underlying23 Try.underlying55 (by kernel_rfl) (hval 2 23 v2 rfl rfl) h2
  obtain ⟨mr3, mc3, mu3, xs3, rfl, wr3, wc3, i3, w3⟩ := open_Mat (hval 3 25 v3 rfl rfl) h3
  obtain ⟨a4, rfl, rfl, rfl, w4⟩ := open_int Try.underlying3 (hval 4 3 v4 rfl rfl) h4
  refine (walk v0 xs0 v1 xs1 v2 xs2 mr3 mc3 mu3 xs3 a4 W i0 w0 i1 w1 i2 w2 wr3 wc3 i3 w3 w4).mono fun e W' ⟨he, hg⟩ => ⟨_, he, ?_⟩
  exact law_post (by kernel_rfl) (by kernel_rfl) rfl Try.underlying4 rfl rfl hW' hg

/-- the statement -/
theorem proved : Rows.PermRightSaid :=
  OpenClaim.holds_of_wide 3 Try.f3 rfl rfl rfl rfl rfl rfl rfl ⟨rfl, rfl, rfl, rfl, rfl⟩ rfl rfl rfl rfl rfl (by kernel_rfl) Try.func3 (by kernel_rfl)
    (of_decide_eq_true (by kernel_rfl)) (by unfold Func.isWrapper; first | (rw [if_pos (by decide +kernel)]; kernel_rfl) | (rw [if_neg (by decide +kernel)]; exact ⟨rfl, rfl⟩))
    (fun os started H enc _ => lifted os started H enc)
end Go.Proofs.Ytalkbmnbggclpaa.permRight
