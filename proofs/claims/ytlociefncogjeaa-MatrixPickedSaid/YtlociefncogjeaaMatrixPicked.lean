/- MatrixPicked: whatever the number, the two matrices, the rows, the columns and the place, the law answers true, and nothing that was there has turned. No condition. -/
import Derived.Test.YtlociefncogjeaaAwake05
import Derived.Test.YtlociefncogjeaaOpenMat
import Derived.Test.YtlociefncogjeaaMatOk
namespace Go.Proofs.Ytlociefncogjeaa.matrixPicked
open Go.ChangeShapes Go.WideShapes Go.ChangeAt Go.RowKit Go.Maps

/-- a call answers a matrix, and whether all is well -/
def RetAny (ok : Bool) (r c : Int) (l : List Int) (w : World) (e : Ending) (w' : World) : Prop :=
  ∃ (rx cx : Int) (ux : Value) (lx : List Int) (ex : Int), e = .returned (.tuple #[.agg #[.int .i64 rx, .int .i64 cx, ux], .int .i64 ex]) ∧ Ints .u64 w' ux lx ∧ U64s lx ∧ (ex == 0) = ok ∧ (ok = true → rx = r ∧ cx = c ∧ lx = l) ∧ Ext w w'
theorem pick_any (p : Int) (m n : Nat) (v vr vc : Value) (xs rs cs : List Int) (w : World) (ok : MatOk p m n xs) (hv : Ints .u64 w v xs) (hr : Ints .i64 w vr rs) (hc : Ints .i64 w vc cs) :
    Calls Try.prog 31 #[.int .u64 p, matV m n v, vr, vc] w (RetAny (picksB m rs && picksB n cs) rs.length cs.length (pickL n xs (nats rs) (nats cs)) w) := by
  have hp2 := rightB_true ok.hp
  cases h : (picksB m rs && picksB n cs) with
  | true =>
    rw [Bool.and_eq_true] at h
    refine (mxPick_yes p m n v vr vc xs rs cs w ok hv hr hc h.1 h.2).mono ?_
    rintro _ w' ⟨u, rfl, hI, x⟩
    exact ⟨_, _, u, _, 0, rfl, hI, (show Rng p (pickL n xs (nats rs) (nats cs)) from grid_rng fun _ _ _ _ => ok.hx.getD hp2.1 _).u64 hp2.2, rfl, fun _ => ⟨rfl, rfl, rfl⟩, x⟩
  | false =>
    refine (mxPick_no p m n v vr vc xs rs cs w (by omega) (by omega) hv ok.u64 hr hc (by rw [ok.b, Bool.true_and]; exact h)).mono ?_
    rintro _ w' ⟨rfl, x⟩
    exact ⟨0, 0, .slice none 0 0, [], 1, rfl, Ints.nil, (by unfold U64s; simp), rfl, fun h => absurd h (by decide), x⟩
theorem mul_any (p : Int) (R n C : Nat) (both : Bool) (rx cx ry cy : Int) (v u : Value) (lx ly LX LY : List Int) (w : World) (h0 : 0 ≤ p) (h1 : p ≤ 18446744073709551615) (hv : Ints .u64 w v lx) (hu : Ints .u64 w u ly) (hx : U64s lx) (hy : U64s ly)
    (hb : both = true → (rx = R ∧ cx = n ∧ lx = LX) ∧ (ry = n ∧ cy = C ∧ ly = LY) ∧ MatOk p R n LX ∧ MatOk p n C LY) :
    Calls Try.prog 14 #[.int .u64 p, .agg #[.int .i64 rx, .int .i64 cx, v], .agg #[.int .i64 ry, .int .i64 cy, u]] w (fun e w' =>
      ∃ (rw cw : Int) (uw : Value) (lw : List Int) (ew : Int), e = .returned (.tuple #[.agg #[.int .i64 rw, .int .i64 cw, uw], .int .i64 ew]) ∧ Ints .u64 w' uw lw ∧ (both = true → ew = 0 ∧ rw = R ∧ cw = C ∧ lw = mulL p R n C LX LY) ∧ Ext w w') := by
  cases h : (matB p rx cx lx && matB p ry cy ly && decide (cx = ry)) with
  | true =>
    simp only [Bool.and_eq_true, decide_eq_true_eq] at h
    obtain ⟨⟨g1, g2⟩, g3⟩ := h
    obtain ⟨m', n', rfl, rfl, okx⟩ := MatOk.of hx g1
    obtain ⟨n'', q', e1, rfl, oky⟩ := MatOk.of hy g2
    obtain rfl : n' = n'' := by omega
    subst e1
    refine (mxMul_yes p m' n' q' v u lx ly w okx oky hv hu).mono ?_
    rintro _ w' ⟨u', rfl, hI, x⟩
    refine ⟨_, _, u', _, 0, rfl, hI, fun hb' => ?_, x⟩
    obtain ⟨⟨e1, e2, e3⟩, ⟨_, e5, e6⟩, _⟩ := hb hb'
    obtain rfl : m' = R := by omega
    obtain rfl : n' = n := by omega
    obtain rfl : q' = C := by omega
    exact ⟨rfl, rfl, rfl, by rw [e3, e6]⟩
  | false =>
    refine (mxMul_no p rx cx ry cy v u lx ly w h0 h1 hv hx hu hy h).mono ?_
    rintro _ w' ⟨rfl, x⟩
    refine ⟨0, 0, .slice none 0 0, [], 1, rfl, Ints.nil, fun hb' => ?_, x⟩
    obtain ⟨⟨rfl, rfl, rfl⟩, ⟨rfl, rfl, rfl⟩, k1, k2⟩ := hb hb'
    rw [k1.b, k2.b, decide_eq_true rfl] at h
    cases h
/-- all places -/
def allL (n : Nat) : List Int := (List.range n).map fun k : Nat => (k : Int)
theorem allL_len (n : Nat) : (allL n).length = n := by simp [allL]
theorem allL_succ (n : Nat) : allL (n + 1) = allL n ++ [(n : Int)] := by simp [allL, List.range_succ]
theorem allL_nats (n : Nat) : nats (allL n) = List.range n := by
  unfold nats allL
  rw [List.map_map]
  exact (List.map_congr_left fun k _ => Int.toNat_natCast k).trans (List.map_id _)
theorem allL_picks {n : Nat} (h : 1 ≤ n ∧ n ≤ 64) : picksB n (allL n) = true := by
  unfold picksB
  rw [allL_len, decide_eq_true h, Bool.true_and, List.all_eq_true]
  intro x hx
  obtain ⟨k, hk, rfl⟩ := List.mem_map.1 hx
  have := List.mem_range.1 hk
  exact decide_eq_true (by omega)
theorem pick_ok {p : Int} {m n : Nat} {xs : List Int} (ok : MatOk p m n xs) (rows cols : List Nat) (hr : 1 ≤ rows.length ∧ rows.length ≤ 64) (hc : 1 ≤ cols.length ∧ cols.length ≤ 64) : MatOk p rows.length cols.length (pickL n xs rows cols) :=
  ⟨ok.hp, grid_rng fun _ _ _ _ => ok.hx.getD (rightB_true ok.hp).1 _, hr, hc, grid_len _ _ _⟩
theorem unit_get (m r j : Nat) (hr : r < m) : ((List.replicate m (0 : Int)).set r 1).getD j 0 = if j = r then 1 else 0 := by
  rw [set_get _ r j 1 (by simpa using hr), replicate_get]
  by_cases e : r = j
  · rw [if_pos e, if_pos e.symm]
  · rw [if_neg e, if_neg fun h => e h.symm]

set_option maxRecDepth 100000 in
set_option maxHeartbeats 4000000 in
theorem walk_skip (p r c r' c' : Int) (v u vr vc : Value) (xs ys rs cs : List Int) (t : Int) (w : World) (h0 : 0 ≤ p) (h1 : p ≤ 18446744073709551615) (hv : Ints .u64 w v xs) (hx : U64s xs) (hu : Ints .u64 w u ys) (hy : U64s ys) (hr : Ints .i64 w vr rs) (hc : Ints .i64 w vc cs)
    (h : (decide (xs.length ≤ 150) && decide (ys.length ≤ 150) && matB p r c xs && matB p r' c' ys && decide (c = r') && decide (rs.length ≤ 60) && decide (cs.length ≤ 60)) = false) :
    Calls Try.prog 7 #[.int .u64 p, matV r c v, matV r' c' u, vr, vc, .int .u8 t] w (Ret (.bool true) w) := by
  have CS1 := hid fun (W : World) (hW : Ext w W) => rmShort r c v xs W (hv.ext hW)
  have CS2 := hid fun (W : World) (hW : Ext w W) => rmShort r' c' u ys W (hu.ext hW)
  have CR1 := hid fun (W : World) (hW : Ext w W) => mxRight p r c v xs W h0 h1 (hv.ext hW) hx
  have CR2 := hid fun (W : World) (hW : Ext w W) => mxRight p r' c' u ys W h0 h1 (hu.ext hW) hy
  obtain ⟨S1, e1⟩ : ∃ B, decide (xs.length ≤ 150) = B := ⟨_, rfl⟩
  obtain ⟨S2, e2⟩ : ∃ B, decide (ys.length ≤ 150) = B := ⟨_, rfl⟩
  obtain ⟨R1, e3⟩ : ∃ B, matB p r c xs = B := ⟨_, rfl⟩
  obtain ⟨R2, e4⟩ : ∃ B, matB p r' c' ys = B := ⟨_, rfl⟩
  obtain ⟨C, e5⟩ : ∃ B, decide (c = r') = B := ⟨_, rfl⟩
  obtain ⟨X, e6⟩ : ∃ B, decide (rs.length ≤ 60) = B := ⟨_, rfl⟩
  obtain ⟨Y, e7⟩ : ∃ B, decide (cs.length ≤ 60) = B := ⟨_, rfl⟩
  rw [e1] at CS1 h; rw [e2] at CS2 h; rw [e3] at CR1 h; rw [e4] at CR2 h; rw [e5, e6, e7] at h
  have t5 : (c != r') = !C := by rw [← e5]; by_cases e : c = r' <;> simp [e]
  have t6 : decide (60 < (rs.length : Int)) = !X := by rw [← e6, Bool.eq_iff_iff]; simp; omega
  have t7 : decide (60 < (cs.length : Int)) = !Y := by rw [← e7, Bool.eq_iff_iff]; simp; omega
  obtain ⟨a, cap, rfl, k1, k2, k3⟩ := hv
  obtain ⟨a', cap', rfl, k1', k2', k3'⟩ := hu
  obtain ⟨ax, capx, rfl, l1, l2, l3⟩ := hr
  obtain ⟨ay, capy, rfl, m1, m2, m3⟩ := hc
  have hb := hid (boxes2 w 25 25 #[.int .i64 r, .int .i64 c, .slice a xs.length cap] #[.int .i64 r', .int .i64 c', .slice a' ys.length cap'])
  have HA := hid hb.out.1
  have HB := hid hb.out.2.1
  clear k3 k3' l3 m3 hx hy e1 e2 e3 e4 e5 e6 e7
  unfold matV at CS1 CS2 CR1 CR2
  unfold matV
  cases S1 with
  | false =>
    clear h
    as_aux_lemma =>
      go_enter Try.func7, Try.ntmps7
      go_wp2_with (first
        | (go_at_call 8; refine (awake05 _).mono ?_; rintro _ w1 ⟨rfl, x1⟩; have y1 : Ext w w1 := hb.out.2.2.trans x1; obtain ⟨a0, a1, a2⟩ := (HA.out.ext x1).at3; obtain ⟨b0, b1, b2⟩ := (HB.out.ext x1).at3)
        | (go_at_call_of 9 a; refine (CS1.out w1 y1).mono ?_; rintro _ w2 ⟨rfl, x2⟩; have y2 := y1.trans x2; clear a0 a1 a2 b0 b1 b2; obtain ⟨a0, a1, a2⟩ := (HA.out.ext (x1.trans x2)).at3; obtain ⟨b0, b1, b2⟩ := (HB.out.ext (x1.trans x2)).at3)
        | fail)
      go_ret
      exact ⟨rfl, y2⟩
  | true =>
    cases S2 with
    | false =>
      clear h
      as_aux_lemma =>
        go_enter Try.func7, Try.ntmps7
        go_wp2_with (first
          | (go_at_call 8; refine (awake05 _).mono ?_; rintro _ w1 ⟨rfl, x1⟩; have y1 : Ext w w1 := hb.out.2.2.trans x1; obtain ⟨a0, a1, a2⟩ := (HA.out.ext x1).at3; obtain ⟨b0, b1, b2⟩ := (HB.out.ext x1).at3)
          | (go_at_call_of 9 a; refine (CS1.out w1 y1).mono ?_; rintro _ w2 ⟨rfl, x2⟩; have y2 := y1.trans x2; clear a0 a1 a2 b0 b1 b2; obtain ⟨a0, a1, a2⟩ := (HA.out.ext (x1.trans x2)).at3; obtain ⟨b0, b1, b2⟩ := (HB.out.ext (x1.trans x2)).at3)
          | (go_at_call_of 9 a'; refine (CS2.out w2 y2).mono ?_; rintro _ w3 ⟨rfl, x3⟩; have y3 := y2.trans x3; clear a0 a1 a2 b0 b1 b2; obtain ⟨a0, a1, a2⟩ := (HA.out.ext ((x1.trans x2).trans x3)).at3; obtain ⟨b0, b1, b2⟩ := (HB.out.ext ((x1.trans x2).trans x3)).at3)
          | fail)
        go_ret
        exact ⟨rfl, y3⟩
    | true =>
      cases R1 with
      | false =>
        clear h
        as_aux_lemma =>
          go_enter Try.func7, Try.ntmps7
          go_wp2_with (first
            | (go_at_call 8; refine (awake05 _).mono ?_; rintro _ w1 ⟨rfl, x1⟩; have y1 : Ext w w1 := hb.out.2.2.trans x1; obtain ⟨a0, a1, a2⟩ := (HA.out.ext x1).at3; obtain ⟨b0, b1, b2⟩ := (HB.out.ext x1).at3)
            | (go_at_call_of 9 a; refine (CS1.out w1 y1).mono ?_; rintro _ w2 ⟨rfl, x2⟩; have y2 := y1.trans x2; clear a0 a1 a2 b0 b1 b2; obtain ⟨a0, a1, a2⟩ := (HA.out.ext (x1.trans x2)).at3; obtain ⟨b0, b1, b2⟩ := (HB.out.ext (x1.trans x2)).at3)
            | (go_at_call_of 9 a'; refine (CS2.out w2 y2).mono ?_; rintro _ w3 ⟨rfl, x3⟩; have y3 := y2.trans x3; clear a0 a1 a2 b0 b1 b2; obtain ⟨a0, a1, a2⟩ := (HA.out.ext ((x1.trans x2).trans x3)).at3; obtain ⟨b0, b1, b2⟩ := (HB.out.ext ((x1.trans x2).trans x3)).at3)
            | (go_at_call_of 17 a; refine (CR1.out w3 y3).mono ?_; rintro _ w4 ⟨rfl, x4⟩; have y4 := y3.trans x4; clear a0 a1 a2 b0 b1 b2; obtain ⟨a0, a1, a2⟩ := (HA.out.ext (((x1.trans x2).trans x3).trans x4)).at3; obtain ⟨b0, b1, b2⟩ := (HB.out.ext (((x1.trans x2).trans x3).trans x4)).at3)
            | fail)
          go_ret
          exact ⟨rfl, y4⟩
      | true =>
        cases R2 with
        | false =>
          clear h
          as_aux_lemma =>
            go_enter Try.func7, Try.ntmps7
            go_wp2_with (first
              | (go_at_call 8; refine (awake05 _).mono ?_; rintro _ w1 ⟨rfl, x1⟩; have y1 : Ext w w1 := hb.out.2.2.trans x1; obtain ⟨a0, a1, a2⟩ := (HA.out.ext x1).at3; obtain ⟨b0, b1, b2⟩ := (HB.out.ext x1).at3)
              | (go_at_call_of 9 a; refine (CS1.out w1 y1).mono ?_; rintro _ w2 ⟨rfl, x2⟩; have y2 := y1.trans x2; clear a0 a1 a2 b0 b1 b2; obtain ⟨a0, a1, a2⟩ := (HA.out.ext (x1.trans x2)).at3; obtain ⟨b0, b1, b2⟩ := (HB.out.ext (x1.trans x2)).at3)
              | (go_at_call_of 9 a'; refine (CS2.out w2 y2).mono ?_; rintro _ w3 ⟨rfl, x3⟩; have y3 := y2.trans x3; clear a0 a1 a2 b0 b1 b2; obtain ⟨a0, a1, a2⟩ := (HA.out.ext ((x1.trans x2).trans x3)).at3; obtain ⟨b0, b1, b2⟩ := (HB.out.ext ((x1.trans x2).trans x3)).at3)
              | (go_at_call_of 17 a; refine (CR1.out w3 y3).mono ?_; rintro _ w4 ⟨rfl, x4⟩; have y4 := y3.trans x4; clear a0 a1 a2 b0 b1 b2; obtain ⟨a0, a1, a2⟩ := (HA.out.ext (((x1.trans x2).trans x3).trans x4)).at3; obtain ⟨b0, b1, b2⟩ := (HB.out.ext (((x1.trans x2).trans x3).trans x4)).at3)
              | (go_at_call_of 17 a'; refine (CR2.out w4 y4).mono ?_; rintro _ w5 ⟨rfl, x5⟩; have y5 := y4.trans x5; clear a0 a1 a2 b0 b1 b2; obtain ⟨a0, a1, a2⟩ := (HA.out.ext ((((x1.trans x2).trans x3).trans x4).trans x5)).at3; obtain ⟨b0, b1, b2⟩ := (HB.out.ext ((((x1.trans x2).trans x3).trans x4).trans x5)).at3)
              | fail)
            go_ret
            exact ⟨rfl, y5⟩
        | true =>
          cases C with
          | false =>
            clear h
            as_aux_lemma =>
              go_enter Try.func7, Try.ntmps7
              go_wp2_with (first
                | (go_at_call 8; refine (awake05 _).mono ?_; rintro _ w1 ⟨rfl, x1⟩; have y1 : Ext w w1 := hb.out.2.2.trans x1; obtain ⟨a0, a1, a2⟩ := (HA.out.ext x1).at3; obtain ⟨b0, b1, b2⟩ := (HB.out.ext x1).at3)
                | (go_at_call_of 9 a; refine (CS1.out w1 y1).mono ?_; rintro _ w2 ⟨rfl, x2⟩; have y2 := y1.trans x2; clear a0 a1 a2 b0 b1 b2; obtain ⟨a0, a1, a2⟩ := (HA.out.ext (x1.trans x2)).at3; obtain ⟨b0, b1, b2⟩ := (HB.out.ext (x1.trans x2)).at3)
                | (go_at_call_of 9 a'; refine (CS2.out w2 y2).mono ?_; rintro _ w3 ⟨rfl, x3⟩; have y3 := y2.trans x3; clear a0 a1 a2 b0 b1 b2; obtain ⟨a0, a1, a2⟩ := (HA.out.ext ((x1.trans x2).trans x3)).at3; obtain ⟨b0, b1, b2⟩ := (HB.out.ext ((x1.trans x2).trans x3)).at3)
                | (go_at_call_of 17 a; refine (CR1.out w3 y3).mono ?_; rintro _ w4 ⟨rfl, x4⟩; have y4 := y3.trans x4; clear a0 a1 a2 b0 b1 b2; obtain ⟨a0, a1, a2⟩ := (HA.out.ext (((x1.trans x2).trans x3).trans x4)).at3; obtain ⟨b0, b1, b2⟩ := (HB.out.ext (((x1.trans x2).trans x3).trans x4)).at3)
                | (go_at_call_of 17 a'; refine (CR2.out w4 y4).mono ?_; rintro _ w5 ⟨rfl, x5⟩; have y5 := y4.trans x5; clear a0 a1 a2 b0 b1 b2; obtain ⟨a0, a1, a2⟩ := (HA.out.ext ((((x1.trans x2).trans x3).trans x4).trans x5)).at3; obtain ⟨b0, b1, b2⟩ := (HB.out.ext ((((x1.trans x2).trans x3).trans x4).trans x5)).at3)
                | fail)
              go_ret
              exact ⟨rfl, y5⟩
          | true =>
            cases X with
            | false =>
              clear h
              as_aux_lemma =>
                go_enter Try.func7, Try.ntmps7
                go_wp2_with (first
                  | (go_at_call 8; refine (awake05 _).mono ?_; rintro _ w1 ⟨rfl, x1⟩; have y1 : Ext w w1 := hb.out.2.2.trans x1; obtain ⟨a0, a1, a2⟩ := (HA.out.ext x1).at3; obtain ⟨b0, b1, b2⟩ := (HB.out.ext x1).at3)
                  | (go_at_call_of 9 a; refine (CS1.out w1 y1).mono ?_; rintro _ w2 ⟨rfl, x2⟩; have y2 := y1.trans x2; clear a0 a1 a2 b0 b1 b2; obtain ⟨a0, a1, a2⟩ := (HA.out.ext (x1.trans x2)).at3; obtain ⟨b0, b1, b2⟩ := (HB.out.ext (x1.trans x2)).at3)
                  | (go_at_call_of 9 a'; refine (CS2.out w2 y2).mono ?_; rintro _ w3 ⟨rfl, x3⟩; have y3 := y2.trans x3; clear a0 a1 a2 b0 b1 b2; obtain ⟨a0, a1, a2⟩ := (HA.out.ext ((x1.trans x2).trans x3)).at3; obtain ⟨b0, b1, b2⟩ := (HB.out.ext ((x1.trans x2).trans x3)).at3)
                  | (go_at_call_of 17 a; refine (CR1.out w3 y3).mono ?_; rintro _ w4 ⟨rfl, x4⟩; have y4 := y3.trans x4; clear a0 a1 a2 b0 b1 b2; obtain ⟨a0, a1, a2⟩ := (HA.out.ext (((x1.trans x2).trans x3).trans x4)).at3; obtain ⟨b0, b1, b2⟩ := (HB.out.ext (((x1.trans x2).trans x3).trans x4)).at3)
                  | (go_at_call_of 17 a'; refine (CR2.out w4 y4).mono ?_; rintro _ w5 ⟨rfl, x5⟩; have y5 := y4.trans x5; clear a0 a1 a2 b0 b1 b2; obtain ⟨a0, a1, a2⟩ := (HA.out.ext ((((x1.trans x2).trans x3).trans x4).trans x5)).at3; obtain ⟨b0, b1, b2⟩ := (HB.out.ext ((((x1.trans x2).trans x3).trans x4).trans x5)).at3)
                  | fail)
                go_ret
                exact ⟨rfl, y5⟩
            | true =>
              cases Y with
              | false =>
                clear h
                as_aux_lemma =>
                  go_enter Try.func7, Try.ntmps7
                  go_wp2_with (first
                    | (go_at_call 8; refine (awake05 _).mono ?_; rintro _ w1 ⟨rfl, x1⟩; have y1 : Ext w w1 := hb.out.2.2.trans x1; obtain ⟨a0, a1, a2⟩ := (HA.out.ext x1).at3; obtain ⟨b0, b1, b2⟩ := (HB.out.ext x1).at3)
                    | (go_at_call_of 9 a; refine (CS1.out w1 y1).mono ?_; rintro _ w2 ⟨rfl, x2⟩; have y2 := y1.trans x2; clear a0 a1 a2 b0 b1 b2; obtain ⟨a0, a1, a2⟩ := (HA.out.ext (x1.trans x2)).at3; obtain ⟨b0, b1, b2⟩ := (HB.out.ext (x1.trans x2)).at3)
                    | (go_at_call_of 9 a'; refine (CS2.out w2 y2).mono ?_; rintro _ w3 ⟨rfl, x3⟩; have y3 := y2.trans x3; clear a0 a1 a2 b0 b1 b2; obtain ⟨a0, a1, a2⟩ := (HA.out.ext ((x1.trans x2).trans x3)).at3; obtain ⟨b0, b1, b2⟩ := (HB.out.ext ((x1.trans x2).trans x3)).at3)
                    | (go_at_call_of 17 a; refine (CR1.out w3 y3).mono ?_; rintro _ w4 ⟨rfl, x4⟩; have y4 := y3.trans x4; clear a0 a1 a2 b0 b1 b2; obtain ⟨a0, a1, a2⟩ := (HA.out.ext (((x1.trans x2).trans x3).trans x4)).at3; obtain ⟨b0, b1, b2⟩ := (HB.out.ext (((x1.trans x2).trans x3).trans x4)).at3)
                    | (go_at_call_of 17 a'; refine (CR2.out w4 y4).mono ?_; rintro _ w5 ⟨rfl, x5⟩; have y5 := y4.trans x5; clear a0 a1 a2 b0 b1 b2; obtain ⟨a0, a1, a2⟩ := (HA.out.ext ((((x1.trans x2).trans x3).trans x4).trans x5)).at3; obtain ⟨b0, b1, b2⟩ := (HB.out.ext ((((x1.trans x2).trans x3).trans x4).trans x5)).at3)
                    | fail)
                  go_ret
                  exact ⟨rfl, y5⟩
              | true =>
                cases h

set_option maxRecDepth 100000 in
set_option maxHeartbeats 8000000 in
theorem walk_yes (p : Int) (m n q t : Nat) (v u vr vc : Value) (xs ys rs cs : List Int) (w : World) (ok : MatOk p m n xs) (oky : MatOk p n q ys) (hv : Ints .u64 w v xs) (hu : Ints .u64 w u ys) (hr : Ints .i64 w vr rs) (hc : Ints .i64 w vc cs) (hs1 : xs.length ≤ 150) (hs2 : ys.length ≤ 150) (hs3 : rs.length ≤ 60) (hs4 : cs.length ≤ 60) (ht : t ≤ 255) :
    Calls Try.prog 7 #[.int .u64 p, matV m n v, matV n q u, vr, vc, .int .u8 t] w (Ret (.bool true) w) := by
  have hp2 := rightB_true ok.hp
  obtain ⟨ii, hii, hi0, hi1, hi2⟩ := info_parts info_intp
  have CS1 := hid fun (W : World) (hW : Ext w W) => (show Calls Try.prog 9 #[matV m n v] W (Ret (.bool true) W) from decide_eq_true hs1 ▸ rmShort m n v xs W (hv.ext hW))
  have CS2 := hid fun (W : World) (hW : Ext w W) => (show Calls Try.prog 9 #[matV n q u] W (Ret (.bool true) W) from decide_eq_true hs2 ▸ rmShort n q u ys W (hu.ext hW))
  have CR1 := hid fun (W : World) (hW : Ext w W) => (show Calls Try.prog 17 #[.int .u64 p, matV m n v] W (Ret (.bool true) W) from ok.b ▸ mxRight p m n v xs W (by omega) (by omega) (hv.ext hW) ok.u64)
  have CR2 := hid fun (W : World) (hW : Ext w W) => (show Calls Try.prog 17 #[.int .u64 p, matV n q u] W (Ret (.bool true) W) from oky.b ▸ mxRight p n q u ys W (by omega) (by omega) (hu.ext hW) oky.u64)
  have C4 := hid fun (W : World) (hW : Ext w W) (i k : Nat) (hi : i < m) (hk : k < n) => rmAt m n v xs i k n W (hv.ext hW) rfl (by have := ok.hn; omega) (by have := ok.hm; omega) (by have := ok.hn; omega) (by rw [ok.hl]; exact at_lt hi hk)
  have Ok := hid ok; have Oky := hid oky; have Okm := hid (ok.mul oky)
  have hm := ok.hm; have hn := ok.hn
  have IA := hid hv; have IB := hid hu; have IR := hid hr; have IC := hid hc
  obtain ⟨a, cap, rfl, k1, k2, k3⟩ := hv
  obtain ⟨b, off, rfl, hbk, k4⟩ := k3 ok.pos
  have hcap := hid fun (i : Nat) (h : i < m) => Nat.le_trans (ok.at_ h) k1
  obtain ⟨a', cap', rfl, k1', k2', k3'⟩ := hu
  obtain ⟨ax, capx, rfl, l1, l2, l3⟩ := hr
  obtain ⟨ay, capy, rfl, m1, m2, m3⟩ := hc
  have hb := hid (boxes2 w 25 25 #[.int .i64 (m : Int), .int .i64 (n : Int), .slice (some ⟨b, off, none⟩) xs.length cap] #[.int .i64 (n : Int), .int .i64 (q : Int), .slice a' ys.length cap'])
  have HA := hid hb.out.1
  have HB := hid hb.out.2.1
  have hW0 := hid hb.out.2.2
  have t6 : decide (60 < (rs.length : Int)) = false := decide_eq_false (by omega)
  have t7 : decide (60 < (cs.length : Int)) = false := decide_eq_false (by omega)
  clear k3 k4 k3' l3 m3 hs1 hs2 ok oky
  unfold matV at CS1 CS2 CR1 CR2 C4
  unfold matV
  go_enter Try.func7, Try.ntmps7
  go_wp2_with (first
    | (go_at_call 8; refine (awake05 _).mono ?_; rintro _ w1 ⟨rfl, x1⟩; have y1 : Ext w w1 := hb.out.2.2.trans x1; obtain ⟨a0, a1, a2⟩ := (HA.out.ext x1).at3; obtain ⟨b0, b1, b2⟩ := (HB.out.ext x1).at3)
    | (go_at_call_of 9 b; refine (CS1.out w1 y1).mono ?_; rintro _ w2 ⟨rfl, x2⟩; have y2 := y1.trans x2; clear a0 a1 a2 b0 b1 b2; obtain ⟨a0, a1, a2⟩ := (HA.out.ext (x1.trans x2)).at3; obtain ⟨b0, b1, b2⟩ := (HB.out.ext (x1.trans x2)).at3)
    | (go_at_call_of 9 a'; refine (CS2.out w2 y2).mono ?_; rintro _ w3 ⟨rfl, x3⟩; have y3 := y2.trans x3; clear a0 a1 a2 b0 b1 b2; obtain ⟨a0, a1, a2⟩ := (HA.out.ext ((x1.trans x2).trans x3)).at3; obtain ⟨b0, b1, b2⟩ := (HB.out.ext ((x1.trans x2).trans x3)).at3)
    | (go_at_call_of 17 b; refine (CR1.out w3 y3).mono ?_; rintro _ w4 ⟨rfl, x4⟩; have y4 := y3.trans x4; clear a0 a1 a2 b0 b1 b2; obtain ⟨a0, a1, a2⟩ := (HA.out.ext (((x1.trans x2).trans x3).trans x4)).at3; obtain ⟨b0, b1, b2⟩ := (HB.out.ext (((x1.trans x2).trans x3).trans x4)).at3)
    | (go_at_call_of 17 a'; refine (CR2.out w4 y4).mono ?_; rintro _ w5 ⟨rfl, x5⟩; have y5 := y4.trans x5; clear a0 a1 a2 b0 b1 b2; obtain ⟨a0, a1, a2⟩ := (HA.out.ext ((((x1.trans x2).trans x3).trans x4).trans x5)).at3; obtain ⟨b0, b1, b2⟩ := (HB.out.ext ((((x1.trans x2).trans x3).trans x4).trans x5)).at3)
    | fail)
  clear a0 a1 a2 b0 b1 b2 CS1 CS2 CR1 CR2 t6 t7
  obtain ⟨ha_0, ha_1, ha_2⟩ := (HA.out.ext (x1.trans (x2.trans (x3.trans (x4.trans x5))))).at3
  obtain ⟨hb_0, hb_1, hb_2⟩ := (HB.out.ext (x1.trans (x2.trans (x3.trans (x4.trans x5))))).at3
  go_wp2_with fail
  refine (mxMul_yes p m n q _ _ xs ys _ Ok.out Oky.out (IA.out.ext (hW0.out.trans (x1.trans (x2.trans (x3.trans (x4.trans x5)))))) (IB.out.ext (hW0.out.trans (x1.trans (x2.trans (x3.trans (x4.trans x5))))))).mono ?_
  rintro _ w6 ⟨uM, rfl, iM, xw6⟩
  clear ha_0 ha_1 ha_2 hb_0 hb_1 hb_2
  have IM := hid iM
  obtain ⟨aM, cM, rfl, _, _, kM⟩ := iM
  clear kM
  unfold matV
  have z8 := (Ext.refl w6).alloc (.cells #[.int .i64 (m : Int), .int .i64 (q : Int), .slice aM (mulL p m n q xs ys).length cM] 25)
  have HM := hid (Blk.new w6 25 #[.int .i64 (m : Int), .int .i64 (q : Int), .slice aM (mulL p m n q xs ys).length cM])
  obtain ⟨ha_0, ha_1, ha_2⟩ := (HA.out.ext (x1.trans (x2.trans (x3.trans (x4.trans (x5.trans (xw6.trans z8))))))).at3
  go_wp2_with fail
  clear ha_0 ha_1 ha_2
  have y0 := hid (hW0.out.trans (x1.trans (x2.trans (x3.trans (x4.trans (x5.trans (xw6.trans z8)))))))
  obtain ⟨WB, hWB⟩ : ∃ W, (w6.alloc (.cells #[.int .i64 (m : Int), .int .i64 (q : Int), .slice aM (mulL p m n q xs ys).length cM] 25)) = W := ⟨_, rfl⟩
  have HAL := hid (HA.out.ext (x1.trans (x2.trans (x3.trans (x4.trans (x5.trans (xw6.trans z8)))))))
  have HBL := hid (HB.out.ext (x1.trans (x2.trans (x3.trans (x4.trans (x5.trans (xw6.trans z8)))))))
  have HML := hid HM.out
  have IML := hid (IM.out.ext z8)
  rw [hWB] at HAL HBL HML IML y0 ⊢
  clear hWB
  go_loopw [15, 16] (fun av iv wr => ∃ i : Nat, iv = .int .i64 i ∧ i ≤ n ∧ Hid (wr.ownsRow WB.heap.size 3 1 av i ((allL i).map (Value.int .i64))) ∧ Ext WB wr) (fun _ iv _ => n - (intOf iv).toNat)
  case atStart => exact ⟨0, rfl, Nat.zero_le _, hid (World.ownsRow_nil _ _ _ _), Ext.refl _⟩
  case round =>
    obtain ⟨i, rfl, hi, hown, xr⟩ := hrel
    obtain ⟨a0, a1, a2⟩ := (HAL.out.ext xr).at3
    by_cases hlt : i < n
    · have hap := hid (show (allL i).map (Value.int .i64) ++ [Value.int .i64 (i : Int)] = (allL (i + 1)).map (Value.int .i64) by rw [allL_succ, List.map_append]; rfl)
      have hsz := xr.size
      go_wp2_with (first | (at_builtin; refine wpList_append_own _ rfl _ _ 26 rfl WB.heap.size 3 ii (.int .i64 0) 1 8 Try.underlying26 hii hi0 hi1 hi2 rfl (by decide) _ i _ rfl (hown.out.alloc _) ⟨_, 0, none⟩ 1 1 [.int .i64 (i : Int)] rfl rfl (cells_new _ _ _ (by simp)) (by simp [Value.oneCell']) (by simp only [maxLen]; omega) (by omega) (by simp; omega) ?_; intro v6 w6 hown6 hgrow6 hnil6) | fail)
      go_roundw
      case rel => exact ⟨i + 1, by go_num, by omega, hid (by rw [← hap.out]; exact hown6), (xr.alloc _).grown hgrow6 (fun t e => (hown.out.lt t e).1)⟩
      case measure => simp [intOf]; omega
    · obtain rfl : n = i := by omega
      clear a0 a1 a2
      obtain ⟨al, cl, rfl, z1, z2, z3, z4⟩ := of_own hown.out
      have IL := hid z4
      clear z4 hown
      have hall := hid (allL_picks (n := n) hn)
      have P1 := hid fun (W : World) (hW : Ext w W) (va : Value) (ha : Ints .i64 W va (allL n)) => pick_any p m n _ _ va xs rs (allL n) W Ok.out (IA.out.ext hW) (IR.out.ext hW) ha
      have P2 := hid fun (W : World) (hW : Ext w W) (va : Value) (ha : Ints .i64 W va (allL n)) => pick_any p n q _ va _ ys (allL n) cs W Oky.out (IB.out.ext hW) ha (IC.out.ext hW)
      rw [hall.out, Bool.and_true, allL_len, allL_nats] at P1
      rw [hall.out, Bool.true_and, allL_len, allL_nats] at P2
      unfold matV at P1 P2
      obtain ⟨hal_0, hal_1, hal_2⟩ := (HAL.out.ext xr).at3
      go_wp2_with fail
      refine (P1.out _ (y0.out.trans xr) _ IL.out).mono ?_
      rintro _ w7 ⟨rX, cX, uX, lX, eX, rfl, iX, UX, tX, gX, xw7⟩
      clear hal_0 hal_1 hal_2
      have IX := hid iX; have UUX := hid UX; have GX := hid gX
      obtain ⟨aX, kX, rfl, _, _, kk⟩ := iX
      clear kk UX gX
      have z3 := (Ext.refl w7).alloc (.cells #[.int .i64 rX, .int .i64 cX, .slice aX lX.length kX] 25)
      have HX := hid (Blk.new w7 25 #[.int .i64 rX, .int .i64 cX, .slice aX lX.length kX])
      obtain ⟨hbl_0, hbl_1, hbl_2⟩ := (HBL.out.ext (xr.trans (xw7.trans z3))).at3
      go_wp2_with fail
      refine (P2.out _ (y0.out.trans (xr.trans (xw7.trans z3))) _ (IL.out.ext (xw7.trans z3))).mono ?_
      rintro _ w8 ⟨rY, cY, uY, lY, eY, rfl, iY, UY, tY, gY, xw8⟩
      clear hbl_0 hbl_1 hbl_2
      have IY := hid iY; have UUY := hid UY; have GY := hid gY
      obtain ⟨aY, kY, rfl, _, _, kk⟩ := iY
      clear kk UY gY
      have z5 := (Ext.refl w8).alloc (.cells #[.int .i64 rY, .int .i64 cY, .slice aY lY.length kY] 25)
      have HY := hid (Blk.new w8 25 #[.int .i64 rY, .int .i64 cY, .slice aY lY.length kY])
      obtain ⟨hml_0, hml_1, hml_2⟩ := (HML.out.ext (xr.trans (xw7.trans (z3.trans (xw8.trans z5))))).at3
      go_wp2_with fail
      refine (pick_any p m q _ _ _ (mulL p m n q xs ys) rs cs _ Okm.out (IML.out.ext (xr.trans (xw7.trans (z3.trans (xw8.trans z5))))) (IR.out.ext (y0.out.trans (xr.trans (xw7.trans (z3.trans (xw8.trans z5)))))) (IC.out.ext (y0.out.trans (xr.trans (xw7.trans (z3.trans (xw8.trans z5))))))).mono ?_
      rintro _ w9 ⟨rZ, cZ, uZ, lZ, eZ, rfl, iZ, UZ, tZ, gZ, xw9⟩
      clear hml_0 hml_1 hml_2
      have IZ := hid iZ; have UUZ := hid UZ; have GZ := hid gZ
      obtain ⟨aZ, kZ, rfl, _, _, kk⟩ := iZ
      clear kk UZ gZ
      have z7 := (Ext.refl w9).alloc (.cells #[.int .i64 rZ, .int .i64 cZ, .slice aZ lZ.length kZ] 25)
      have HZ := hid (Blk.new w9 25 #[.int .i64 rZ, .int .i64 cZ, .slice aZ lZ.length kZ])
      obtain ⟨g, hg⟩ : ∃ B, picksB m rs = B := ⟨_, rfl⟩
      obtain ⟨g', hg'⟩ : ∃ B, picksB q cs = B := ⟨_, rfl⟩
      have HG := hid hg; have HG' := hid hg'
      have hboth : Hid (∀ h : (g && g') = true, (rX = (rs.length : Nat) ∧ cX = (n : Nat) ∧ lX = pickL n xs (nats rs) (List.range n)) ∧ (rY = (n : Nat) ∧ cY = (cs.length : Nat) ∧ lY = pickL q ys (List.range n) (nats cs)) ∧ MatOk p rs.length n (pickL n xs (nats rs) (List.range n)) ∧ MatOk p n cs.length (pickL q ys (List.range n) (nats cs))) := hid fun h => by
        rw [Bool.and_eq_true] at h
        have e1 := HG.out.trans h.1
        have e2 := HG'.out.trans h.2
        refine ⟨GX.out e1, GY.out e2, ?_, ?_⟩
        · have := pick_ok Ok.out (nats rs) (List.range n) (by rw [nats_len]; exact picksB_len e1) (by rw [List.length_range]; exact hn)
          rwa [nats_len, List.length_range] at this
        · have := pick_ok Oky.out (List.range n) (nats cs) (by rw [List.length_range]; exact hn) (by rw [nats_len]; exact picksB_len e2)
          rwa [nats_len, List.length_range] at this
      rw [hg] at tX tZ
      rw [hg'] at tY tZ
      clear hg hg' 
      obtain ⟨hx_0, hx_1, hx_2⟩ := (HX.out.ext (xw8.trans (z5.trans (xw9.trans z7)))).at3
      obtain ⟨hy_0, hy_1, hy_2⟩ := (HY.out.ext (xw9.trans z7)).at3
      go_wp2_with fail
      refine (mul_any p rs.length n cs.length (g && g') rX cX rY cY _ _ lX lY _ _ _ (by omega) (by omega) (IX.out.ext (z3.trans (xw8.trans (z5.trans (xw9.trans z7))))) (IY.out.ext (z5.trans (xw9.trans z7))) UUX.out UUY.out hboth.out).mono ?_
      rintro _ w10 ⟨rW, cW, uW, lW, eW, rfl, iW, gW, xw10⟩
      clear hx_0 hx_1 hx_2 hy_0 hy_1 hy_2
      have IW := hid iW; have GW := hid gW
      obtain ⟨aW, kW, rfl, _, _, kk⟩ := iW
      clear kk gW
      have z9 := (Ext.refl w10).alloc (.cells #[.int .i64 rW, .int .i64 cW, .slice aW lW.length kW] 25)
      have HW := hid (Blk.new w10 25 #[.int .i64 rW, .int .i64 cW, .slice aW lW.length kW])
      go_upto_region 15 with fail
      obtain ⟨WC, hWC⟩ : ∃ W, (w10.alloc (.cells #[.int .i64 rW, .int .i64 cW, .slice aW lW.length kW] 25)) = W := ⟨_, rfl⟩
      have yC := hid (y0.out.trans (xr.trans (xw7.trans (z3.trans (xw8.trans (z5.trans (xw9.trans (z7.trans (xw10.trans z9)))))))))
      have HALC := hid (HAL.out.ext (xr.trans (xw7.trans (z3.trans (xw8.trans (z5.trans (xw9.trans (z7.trans (xw10.trans z9)))))))))
      have HZC := hid (HZ.out.ext (xw10.trans z9))
      have HWC := hid HW.out
      have IZC := hid (IZ.out.ext (z7.trans (xw10.trans z9)))
      have IWC := hid (IW.out.ext z9)
      rw [hWC] at yC HALC HZC HWC IZC IWC ⊢
      clear hWC
      go_cut [143] (fun tv w' => tv = .bool false ∧ Ext WC w')
      case first =>
        by_cases hgg : (g && g') = true
        · obtain ⟨e1, e2, e3, e4⟩ := GW.out hgg
          rw [hgg] at tZ
          have gz := GZ.out (by rw [HG.out, HG'.out]; exact hgg)
          obtain ⟨e5, e6, e7⟩ := gz
          rw [Bool.and_eq_true] at hgg
          obtain ⟨rfl, rfl⟩ := hgg
          have hpm := pick_mul (p := p) (m := m) (n := n) (q := q) (xs := xs) (ys := ys) (rows := nats rs) (cols := nats cs) (fun i hi => (nats_get HG.out (by rwa [nats_len] at hi)).2) (fun i hi => (nats_get HG'.out (by rwa [nats_len] at hi)).2)
          rw [nats_len, nats_len] at hpm
          have e8 : lW = lZ := by rw [e4, e7, hpm]
          have e9 : rW = rZ := by rw [e2, e5]
          have e10 : cW = cZ := by rw [e3, e6]
          subst e1
          have hS := hid fun (W : World) (v u : Value) (hv : Ints .u64 W v lW) (hu : Ints .u64 W u lZ) => (show Calls Try.prog 23 #[matV rW cW v, matV rZ cZ u] W (Ret (.bool true) W) from (decide_eq_true (⟨e9, e10, e8⟩ : rW = rZ ∧ cW = cZ ∧ lW = lZ)) ▸ rmSame rW cW rZ cZ v u lW lZ W hv hu)
          unfold matV at hS
          obtain ⟨z0, z1', z2'⟩ := HZC.out.at3
          obtain ⟨q0, q1, q2⟩ := HWC.out.at3
          clear e2 e3 e4 e5 e6 e7 e8 e9 e10 hpm
          as_aux_lemma =>
            go_wp2_with (first | (go_at_call 23; refine (hS.out _ _ _ IWC.out IZC.out).mono ?_; rintro _ w11 ⟨rfl, x11⟩) | fail)
            go_meet
            exact ⟨rfl, x11⟩
        · have hgf : (g && g') = false := by simpa using hgg
          rw [hgf] at tZ
          clear hgg
          cases g with
          | false =>
            as_aux_lemma =>
              go_wp2_with fail
              go_meet
              exact ⟨rfl, Ext.refl _⟩
          | true =>
            rw [Bool.true_and] at hgf
            subst hgf
            as_aux_lemma =>
              go_wp2_with fail
              go_meet
              exact ⟨rfl, Ext.refl _⟩
      case rest =>
        obtain ⟨rfl, xc⟩ := hcut
        clear P1 P2 GX GY GZ GW hboth tX tY tZ
        obtain ⟨i, hi⟩ : ∃ i, t % m = i := ⟨_, rfl⟩
        have him : i < m := by rw [← hi]; exact Nat.mod_lt _ hm.1
        have hrem : (t : Int) % (m : Int) = (i : Int) := by rw [← hi]; rfl
        obtain ⟨k, hk⟩ : ∃ k, t % n = k := ⟨_, rfl⟩
        have hkn : k < n := by rw [← hk]; exact Nat.mod_lt _ hn.1
        have hremk : (t : Int) % (n : Int) = (k : Int) := by rw [← hk]; rfl
        clear hi hk
        have hmk := make_ints (P := Try.prog) 23 22 .u64 8 (by omega) (by kernel_rfl) (by kernel_rfl) m m (Nat.le_refl _) (by omega)
        have hmk2 := make_ints (P := Try.prog) 23 22 .u64 8 (by omega) (by kernel_rfl) (by kernel_rfl) n n (Nat.le_refl _) (by omega)
        obtain ⟨g0', g1', g2'⟩ := (HALC.out.ext xc).at3
        go_upto_region 19 with fail
        clear g0' g1' g2' 
        have hrOne := hid (WRow.made (w := wc) (t := 22) (n := m) rfl)
        have hzOne : Ext wc (wc.alloc (.cells (madeCells #[Value.int .u64 0] m) 22)) := (Ext.refl _).alloc _
        obtain ⟨v1, hWOne⟩ : ∃ W, wc.alloc (.cells (madeCells #[Value.int .u64 0] m) 22) = W := ⟨_, rfl⟩
        obtain ⟨gOne, hgOne⟩ : ∃ g, wc.heap.size = g := ⟨_, rfl⟩
        rw [hWOne, hgOne] at hrOne
        rw [hWOne] at hzOne
        rw [hWOne, hgOne]
        have hlOne : wc.heap.size ≤ gOne := by omega
        have fOne := hrOne.out.2 i (by simpa using him)
        rw [Nat.zero_add] at fOne
        obtain ⟨cOne, dOne⟩ := fOne
        have hsOne := hrOne.out.set_ (i := i) (by simpa using him) 1
        rw [Nat.zero_add] at hsOne
        have IOne := hid (hsOne.ints' (n := m) (cap := m) (by simp) (Nat.le_refl _) (by omega))
        have xo1 := hzOne.setCell (p := ⟨gOne, i, none⟩) hlOne (.int .u64 1)
        have hROne := hid (show Rng p ((List.replicate m (0 : Int)).set i 1) from Rng.of_get fun j _ => by rw [unit_get _ _ _ him]; split <;> omega)
        clear hWOne hgOne hsOne
        obtain ⟨halc_0, halc_1, halc_2⟩ := (HALC.out.ext (xc.trans xo1)).at3
        go_wp2_with fail
        refine (mxLeft_yes p m n _ _ xs _ _ Ok.out (IA.out.ext (yC.out.trans (xc.trans xo1))) IOne.out hROne.out (by simp)).mono ?_
        rintro _ v2 ⟨vL, rfl, iL, xv2⟩
        clear halc_0 halc_1 halc_2
        clear cOne dOne
        rw [left_unit Ok.out.hx hp2.1 him (fun j _ => unit_get m i j him), ← piece_tab (Ok.out.at_ him)] at iL
        have IL2 := hid iL
        clear iL
        obtain ⟨halc_0, halc_1, halc_2⟩ := (HALC.out.ext (xc.trans (xo1.trans xv2))).at3
        go_upto_region 23 with fail
        clear halc_0 halc_1 halc_2
        have hrUnit := hid (WRow.made (w := v2) (t := 22) (n := n) rfl)
        have hzUnit : Ext v2 (v2.alloc (.cells (madeCells #[Value.int .u64 0] n) 22)) := (Ext.refl _).alloc _
        obtain ⟨v3, hWUnit⟩ : ∃ W, v2.alloc (.cells (madeCells #[Value.int .u64 0] n) 22) = W := ⟨_, rfl⟩
        obtain ⟨gUnit, hgUnit⟩ : ∃ g, v2.heap.size = g := ⟨_, rfl⟩
        rw [hWUnit, hgUnit] at hrUnit
        rw [hWUnit] at hzUnit
        rw [hWUnit, hgUnit]
        have hlUnit : v2.heap.size ≤ gUnit := by omega
        have fUnit := hrUnit.out.2 k (by simpa using hkn)
        rw [Nat.zero_add] at fUnit
        obtain ⟨cUnit, dUnit⟩ := fUnit
        have hsUnit := hrUnit.out.set_ (i := k) (by simpa using hkn) 1
        rw [Nat.zero_add] at hsUnit
        have IUnit := hid (hsUnit.ints' (n := n) (cap := n) (by simp) (Nat.le_refl _) (by omega))
        have xo2 := hzUnit.setCell (p := ⟨gUnit, k, none⟩) hlUnit (.int .u64 1)
        have hRUnit := hid (show Rng p ((List.replicate n (0 : Int)).set k 1) from Rng.of_get fun j _ => by rw [unit_get _ _ _ hkn]; split <;> omega)
        clear hWUnit hgUnit hsUnit
        obtain ⟨halc_0, halc_1, halc_2⟩ := (HALC.out.ext (xc.trans (xo1.trans (xv2.trans xo2)))).at3
        go_wp2_with fail
        refine (mxTimes_yes p m n _ _ xs _ _ Ok.out (IA.out.ext (yC.out.trans (xc.trans (xo1.trans (xv2.trans xo2))))) IUnit.out hRUnit.out (by simp)).mono ?_
        rintro _ v4 ⟨vT, rfl, iT, xv4⟩
        clear halc_0 halc_1 halc_2
        clear cUnit dUnit
        rw [times_unit Ok.out.hx hp2.1 hkn (fun j _ => unit_get n k j hkn)] at iT
        obtain ⟨aT, cT, rfl, _, _, kT⟩ := iT
        rw [tab_len] at kT ⊢
        obtain ⟨bT, oT, rfl, hbT, KT⟩ := kT hm.1
        have HKT := hid KT
        clear KT kT
        obtain ⟨q0, hq0⟩ : ∃ q, i * n = q := ⟨_, rfl⟩
        have hck := hcap.out i him
        have hat := Ok.out.at_ him
        have hI := (show Ints .u64 _ (.slice (some ⟨b, off + i * n, none⟩) n (cap - i * n)) (piece xs i n) from ((IA.out.ext (yC.out.trans (xc.trans (xo1.trans (xv2.trans (xo2.trans xv4))))))).sub (i * n) n hat hn.1)
        have hqb : q0 ≤ 4096 := by rw [← hq0]; exact Nat.mul_le_mul (show i ≤ 64 by omega) hn.2
        have hqi : (i : Int) * (n : Int) = (q0 : Int) := by rw [← hq0]; push_cast; rfl
        have hqs : ((i : Int) + 1) * (n : Int) = ((q0 + n : Nat) : Int) := by rw [Int.add_mul, hqi]; push_cast; omega
        rw [hq0] at hck hI
        obtain ⟨qe, hqe⟩ : ∃ m, q0 + n = m := ⟨_, rfl⟩
        rw [hqe] at hqs hck
        have eqn : qe - q0 = n := by omega
        have hsl := fun W => slice_run b off xs.length cap q0 qe (by omega) hck (by omega) W
        have hsl' := fun W => slice_run' b off xs.length cap q0 qe (by omega) hck (by omega) W
        rw [eqn] at hsl hsl'
        have HI := hid hI
        clear hq0 hqe eqn hI hat
        obtain ⟨halc_0, halc_1, halc_2⟩ := (HALC.out.ext (xc.trans (xo1.trans (xv2.trans (xo2.trans xv4))))).at3
        go_wp2_with fail
        refine (same_yes _ _ _ _ (IL2.out.ext (xo2.trans xv4)) HI.out).mono ?_
        rintro _ v5 ⟨rfl, xv5⟩
        clear halc_0 halc_1 halc_2
        obtain ⟨halc_0, halc_1, halc_2⟩ := (HALC.out.ext (xc.trans (xo1.trans (xv2.trans (xo2.trans (xv4.trans xv5)))))).at3
        go_wp2_with fail
        clear hsl hsl' halc_0 halc_1 halc_2
        have xF := hid (xc.trans (xo1.trans (xv2.trans (xo2.trans (xv4.trans xv5)))))
        have xT := hid xv5
        go_loopw [33] (fun rv wr => ∃ r : Nat, rv = .int .i64 r ∧ r ≤ m ∧ Ext v5 wr) (fun rv _ => m - (intOf rv).toNat)
        case atStart => exact ⟨0, rfl, Nat.zero_le _, Ext.refl _⟩
        case round =>
          obtain ⟨r, rfl, hr, xr⟩ := hrel
          rename World => wi
          obtain ⟨a0, a1, a2⟩ := (HALC.out.ext (xF.out.trans xr)).at3
          by_cases hlr : r < m
          · have gT := ((xT.out.trans xr).cells _ _ hbT).trans (HKT.out r hlr)
            rw [tab_get _ hlr] at gT
            have hA := hid fun W hW => C4.out W ((yC.out.trans (xF.out.trans xr)).trans hW) r k hlr hkn
            obtain ⟨x, ex⟩ : ∃ x, xs.getD (r * n + k) 0 = x := ⟨_, rfl⟩
            rw [ex] at gT hA
            have fs := hid (fun (W : World) (hW : Ext wi W) => And.intro ((HALC.out.ext (xF.out.trans (xr.trans hW))).at3) ((hW.cells _ _ (cell_lt gT)).trans gT))
            have hr1 : (r : Int) < (m : Int) := by omega
            have hr0 : (0 : Int) ≤ (r : Int) := by omega
            clear ex
            go_wp2_with fail
            go_region_held3 (fun w' => (w'.cell? ⟨w.heap.size, 0, none⟩ = some (.int .i64 (m : Int)) ∧ w'.cell? ⟨w.heap.size, 1, none⟩ = some (.int .i64 (n : Int)) ∧ w'.cell? ⟨w.heap.size, 2, none⟩ = some (.slice (some ⟨b, off, none⟩) xs.length cap)) ∧ w'.cell? ⟨bT, oT + r, none⟩ = some (.int .u64 x)) (first | assumption | exact fs.out _ ((Ext.refl wi).drew) | exact fs.out _ (by assumption))
              ((first
                | (go_at_call 32; refine (hA.out _ (by first | exact (Ext.refl wi).drew | assumption)).mono ?_; rintro _ w7 ⟨rfl, x7⟩; have z7 : Ext wi w7 := Ext.trans (by first | exact (Ext.refl wi).drew | assumption) x7)))
            go_wp2_with fail
            go_roundw
            case rel => exact ⟨r + 1, by go_num, by omega, xr.trans z7⟩
            case measure => simp [intOf]; omega
          · obtain rfl : m = r := by omega
            go_wp2_with fail
            go_ret
            exact ⟨rfl, yC.out.trans (xF.out.trans xr)⟩

/-- the law answers true -/
theorem walk (p r c : Int) (v : Value) (xs : List Int) (r' c' : Int) (u : Value) (ys : List Int) (vr : Value) (rs : List Int) (vc : Value) (cs : List Int) (t : Int) (w : World) (hp : (Lit.int .u64 p).wf = true) (_ : (Lit.int .i64 r).wf = true) (_ : (Lit.int .i64 c).wf = true) (hv : Ints .u64 w v xs) (hx : ∀ x ∈ xs, (Lit.int .u64 x).wf = true)
    (_ : (Lit.int .i64 r').wf = true) (_ : (Lit.int .i64 c').wf = true) (hu : Ints .u64 w u ys) (hy : ∀ x ∈ ys, (Lit.int .u64 x).wf = true) (hr : Ints .i64 w vr rs) (_ : ∀ x ∈ rs, (Lit.int .i64 x).wf = true) (hc : Ints .i64 w vc cs) (_ : ∀ x ∈ cs, (Lit.int .i64 x).wf = true) (ht : (Lit.int .u8 t).wf = true) :
    Calls Try.prog 7 #[.int .u64 p, .agg #[.int .i64 r, .int .i64 c, v], .agg #[.int .i64 r', .int .i64 c', u], vr, vc, .int .u8 t] w (Ret (.bool true) w) := by
  have hp' := u64_wf hp
  have hx' : U64s xs := fun x h => u64_wf (hx x h)
  have hy' : U64s ys := fun x h => u64_wf (hy x h)
  have ht' := u8_wf ht
  cases h : (decide (xs.length ≤ 150) && decide (ys.length ≤ 150) && matB p r c xs && matB p r' c' ys && decide (c = r') && decide (rs.length ≤ 60) && decide (cs.length ≤ 60)) with
  | false => exact walk_skip p r c r' c' v u vr vc xs ys rs cs t w hp'.1 hp'.2 hv hx' hu hy' hr hc h
  | true =>
    simp only [Bool.and_eq_true, decide_eq_true_eq] at h
    obtain ⟨⟨⟨⟨⟨⟨g1, g2⟩, g3⟩, g4⟩, g5⟩, g6⟩, g7⟩ := h
    obtain ⟨m, n, rfl, rfl, ok⟩ := MatOk.of hx' g3
    obtain ⟨n', q, e1, rfl, oky⟩ := MatOk.of hy' g4
    obtain rfl : n = n' := by omega
    subst e1
    obtain ⟨t', rfl⟩ := Int.eq_ofNat_of_zero_le ht'.1
    exact walk_yes p m n q t' v u vr vc xs ys rs cs w ok oky hv hu hr hc g1 g2 g6 g7 (by omega)

theorem own : ownKnob Try.prog.godebug = none := by kernel_rfl
set_option maxRecDepth 100000 in
theorem lifted (os : Os) (started : os.Started) (H : Type) (enc : TypeId × Value → H) :
    ReturnsInHanded {} Try.checked os 7 .any (Rows.matrixPickedSpec.pre6 enc Try.prog Try.f7 Rows.matrixPickedRow.domain false) (Rows.matrixPickedSpec.post enc Try.prog Try.f7 false true false false) := by
  refine returnsInHanded_of_change (C := Try.checked) own started (by kernel_rfl) Try.func7
    (ChangeSpec.witness6 (enc := enc) (C := Try.checked) false ⟨#[], #[.int .u64 0, .agg #[.int .i64 0, .int .i64 0, .slice none 0 0], .agg #[.int .i64 0, .int .i64 0, .slice none 0 0], .slice none 0 0, .slice none 0 0, .int .u8 0], []⟩ 8 (by kernel_rfl) (by kernel_rfl) (by kernel_rfl) (by kernel_rfl)) ?_
  intro W base args ds gs before hval0 hW _ _
  have hval : ∀ (j : Nat) t v, Try.f7.params[j]? = some t → args[j]? = some v → Value.okWide Try.prog W .any base t v := hval0
  have hW' := hW
  obtain ⟨p, q, hA0, hV, rfl, _, _⟩ := hW
  have hA : DataW.TrodAll enc Try.prog W 0 (fun _ => true) true Try.f7.params.toList args.toList ds p := hA0
  rw [Try.params7] at hA hval
  obtain ⟨v0, vs0, d0, ds0, p0, q0, hargs, rfl, rfl, h0, r0⟩ := trodAll_cons hA
  obtain ⟨v1, vs1, d1, ds1, p1, q1, rfl, rfl, rfl, h1, r1⟩ := trodAll_cons r0
  obtain ⟨v2, vs2, d2, ds2, p2, q2, rfl, rfl, rfl, h2, r2⟩ := trodAll_cons r1
  obtain ⟨v3, vs3, d3, ds3, p3, q3, rfl, rfl, rfl, h3, r3⟩ := trodAll_cons r2
  obtain ⟨v4, vs4, d4, ds4, p4, q4, rfl, rfl, rfl, h4, r4⟩ := trodAll_cons r3
  obtain ⟨v5, vs5, d5, ds5, p5, q5, rfl, rfl, rfl, h5, r5⟩ := trodAll_cons r4
  obtain ⟨rfl, rfl, rfl⟩ := trodAll_nil r5
  obtain rfl : args = #[v0, v1, v2, v3, v4, v5] := by cases args; simp_all
  obtain ⟨rfl, rfl⟩ := trodVars_none hV
  obtain ⟨a0, rfl, rfl, rfl, w0⟩ := open_int Try.underlying22 (hval 0 22 v0 rfl rfl) h0
  obtain ⟨mr1, mc1, mu1, xs1, rfl, wr1, wc1, i1, w1⟩ := open_Mat (hval 1 25 v1 rfl rfl) h1
  obtain ⟨mr2, mc2, mu2, xs2, rfl, wr2, wc2, i2, w2⟩ := open_Mat (hval 2 25 v2 rfl rfl) h2
  obtain ⟨xs3, i3, w3⟩ := open_Ints Try.underlying26 Try.underlying3 (by kernel_rfl) (hval 3 26 v3 rfl rfl) h3
  obtain ⟨xs4, i4, w4⟩ := open_Ints Try.underlying26 Try.underlying3 (by kernel_rfl) (hval 4 26 v4 rfl rfl) h4
  obtain ⟨a5, rfl, rfl, rfl, w5⟩ := open_int Try.underlying5 (hval 5 5 v5 rfl rfl) h5
  refine (walk a0 mr1 mc1 mu1 xs1 mr2 mc2 mu2 xs2 v3 xs3 v4 xs4 a5 W w0 wr1 wc1 i1 w1 wr2 wc2 i2 w2 i3 w3 i4 w4 w5).mono fun e W' ⟨he, hg⟩ => ⟨_, he, ?_⟩
  exact law_post (by kernel_rfl) (by kernel_rfl) rfl Try.underlying4 rfl rfl hW' hg

/-- the statement -/
theorem proved : Rows.MatrixPickedSaid :=
  OpenClaim.holds_of_wide 7 Try.f7 rfl rfl rfl rfl rfl rfl rfl ⟨rfl, rfl, rfl, rfl, rfl⟩ rfl rfl rfl rfl rfl (by kernel_rfl) Try.func7 (by kernel_rfl)
    (of_decide_eq_true (by kernel_rfl)) (by unfold Func.isWrapper; first | (rw [if_pos (by decide +kernel)]; kernel_rfl) | (rw [if_neg (by decide +kernel)]; exact ⟨rfl, rfl⟩))
    (fun os started H enc _ => lifted os started H enc)
end Go.Proofs.Ytlociefncogjeaa.matrixPicked
