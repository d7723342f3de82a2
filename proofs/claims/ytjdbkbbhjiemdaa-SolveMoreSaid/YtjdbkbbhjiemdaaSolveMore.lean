/- SolveMore: whatever the number, the matrix and the two right sides, the law answers true, and nothing that was there has turned. No condition. -/
import Derived.Test.YtjdbkbbhjiemdaaSolB6
import Derived.Test.YtjdbkbbhjiemdaaAwake08
import Derived.Test.YtjdbkbbhjiemdaaSolB2
import Derived.Test.YtjdbkbbhjiemdaaOpenMat
import Derived.Test.YtjdbkbbhjiemdaaSame
import Derived.Deep.RegionHeld3
namespace Go.Proofs.Ytjdbkbbhjiemdaa.solveMore
open Go.ChangeShapes Go.WideShapes Go.ChangeAt Go.RowKit Go.Maps

/-- does the law go on? -/
noncomputable def goB (p r c : Int) (xs b d : List Int) : Bool := decide (xs.length ≤ 150) && (takenB p && (matB p r c xs && (hasB p b && (hasB p d && (decide ((b.length : Int) = r) && decide ((d.length : Int) = r))))))
set_option maxRecDepth 100000 in
set_option maxHeartbeats 2000000 in
theorem walk_skip (p r c : Int) (v u z : Value) (xs b d : List Int) (w : World) (h0 : 0 ≤ p) (h1 : p ≤ 18446744073709551615) (hv : Ints .u64 w v xs) (hx : U64s xs) (hu : Ints .u64 w u b) (hy : U64s b) (hz : Ints .u64 w z d) (hd : U64s d) (h : goB p r c xs b d = false) :
    Calls Try.prog 7 #[.int .u64 p, matV r c v, u, z] w (Ret (.bool true) w) := by
  have C1 := hid fun (W : World) => prime_any p W h0
  have C2 := hid fun (W : World) (hW : Ext w W) => mxRight p r c v xs W h0 h1 (hv.ext hW) hx
  have C3 := hid fun (W : World) (hW : Ext w W) => has_any p u b W h0 h1 (hu.ext hW) hy
  have C4 := hid fun (W : World) (hW : Ext w W) => has_any p z d W h0 h1 (hz.ext hW) hd
  unfold goB at h
  obtain ⟨T, e1⟩ : ∃ B, takenB p = B := ⟨_, rfl⟩
  obtain ⟨M, e2⟩ : ∃ B, matB p r c xs = B := ⟨_, rfl⟩
  obtain ⟨S, e3⟩ : ∃ B, hasB p b = B := ⟨_, rfl⟩
  obtain ⟨S2, e3'⟩ : ∃ B, hasB p d = B := ⟨_, rfl⟩
  obtain ⟨Q, e4⟩ : ∃ B, decide ((b.length : Int) = r) = B := ⟨_, rfl⟩
  obtain ⟨Q2, e4'⟩ : ∃ B, decide ((d.length : Int) = r) = B := ⟨_, rfl⟩
  obtain ⟨K, e5⟩ : ∃ B, decide (xs.length ≤ 150) = B := ⟨_, rfl⟩
  rw [e1] at C1 h; rw [e2] at C2 h; rw [e3] at C3 h; rw [e3'] at C4 h; rw [e4, e4', e5] at h
  have t4 : ((b.length : Int) != r) = !Q := by rw [← e4]; rfl
  have t4' : ((d.length : Int) != r) = !Q2 := by rw [← e4']; rfl
  have t5 : decide (150 < (xs.length : Int)) = !K := by rw [← e5]; by_cases e : xs.length ≤ 150 <;> simp [e] <;> omega
  obtain ⟨a, cap, rfl, k1, k2, k3⟩ := hv
  obtain ⟨a', cap', rfl, k1', k2', k3'⟩ := hu
  obtain ⟨a2, cap2, rfl, k12, k22, k32⟩ := hz
  clear k3 k3' k32 hx hy hd e1 e2 e3 e3' e4 e4' e5
  have HA := hid (Blk.new w 25 #[.int .i64 r, .int .i64 c, .slice a xs.length cap])
  have hW0 := hid ((Ext.refl w).alloc (.cells #[.int .i64 r, .int .i64 c, .slice a xs.length cap] 25))
  unfold matV at C2
  unfold matV
  have T4 := hid t4; have T4' := hid t4'; have T5 := hid t5; have H := hid h
  clear t4 t4' t5 h
  cases K with
  | false =>
    as_aux_lemma =>
      have t4 := T4.out
      have t4' := T4'.out
      have t5 := T5.out
      go_enter Try.func7, Try.ntmps7
      go_wp2_with fail
      refine (awake08 _).mono ?_
      rintro _ w1 ⟨rfl, xw1⟩
      obtain ⟨ha_0, ha_1, ha_2⟩ := (HA.out.ext xw1).at3
      go_wp2_with fail
      go_ret
      exact ⟨rfl, (hW0.out.trans xw1)⟩
  | true =>
    cases T with
    | false =>
      as_aux_lemma =>
        have t4 := T4.out
        have t4' := T4'.out
        have t5 := T5.out
        go_enter Try.func7, Try.ntmps7
        go_wp2_with fail
        refine (awake08 _).mono ?_
        rintro _ w1 ⟨rfl, xw1⟩
        obtain ⟨ha_0, ha_1, ha_2⟩ := (HA.out.ext xw1).at3
        go_wp2_with fail
        refine (C1.out _).mono ?_
        rintro _ _ ⟨rfl, rfl⟩
        go_wp2_with fail
        go_ret
        exact ⟨rfl, (hW0.out.trans xw1)⟩
    | true =>
      cases M with
      | false =>
        as_aux_lemma =>
          have t4 := T4.out
          have t4' := T4'.out
          have t5 := T5.out
          go_enter Try.func7, Try.ntmps7
          go_wp2_with fail
          refine (awake08 _).mono ?_
          rintro _ w1 ⟨rfl, xw1⟩
          obtain ⟨ha_0, ha_1, ha_2⟩ := (HA.out.ext xw1).at3
          go_wp2_with fail
          refine (C1.out _).mono ?_
          rintro _ _ ⟨rfl, rfl⟩
          go_wp2_with fail
          refine (C2.out _ (hW0.out.trans xw1)).mono ?_
          rintro _ w2 ⟨rfl, xw2⟩
          clear ha_0 ha_1 ha_2
          obtain ⟨ha_0, ha_1, ha_2⟩ := (HA.out.ext (xw1.trans xw2)).at3
          go_wp2_with fail
          go_ret
          exact ⟨rfl, (hW0.out.trans (xw1.trans xw2))⟩
      | true =>
        cases S with
        | false =>
          as_aux_lemma =>
            have t4 := T4.out
            have t4' := T4'.out
            have t5 := T5.out
            go_enter Try.func7, Try.ntmps7
            go_wp2_with fail
            refine (awake08 _).mono ?_
            rintro _ w1 ⟨rfl, xw1⟩
            obtain ⟨ha_0, ha_1, ha_2⟩ := (HA.out.ext xw1).at3
            go_wp2_with fail
            refine (C1.out _).mono ?_
            rintro _ _ ⟨rfl, rfl⟩
            go_wp2_with fail
            refine (C2.out _ (hW0.out.trans xw1)).mono ?_
            rintro _ w2 ⟨rfl, xw2⟩
            clear ha_0 ha_1 ha_2
            obtain ⟨ha_0, ha_1, ha_2⟩ := (HA.out.ext (xw1.trans xw2)).at3
            go_wp2_with fail
            refine (C3.out _ (hW0.out.trans (xw1.trans xw2))).mono ?_
            rintro _ _ ⟨rfl, rfl⟩
            go_wp2_with fail
            go_ret
            exact ⟨rfl, (hW0.out.trans (xw1.trans xw2))⟩
        | true =>
          cases S2 with
          | false =>
            as_aux_lemma =>
              have t4 := T4.out
              have t4' := T4'.out
              have t5 := T5.out
              go_enter Try.func7, Try.ntmps7
              go_wp2_with fail
              refine (awake08 _).mono ?_
              rintro _ w1 ⟨rfl, xw1⟩
              obtain ⟨ha_0, ha_1, ha_2⟩ := (HA.out.ext xw1).at3
              go_wp2_with fail
              refine (C1.out _).mono ?_
              rintro _ _ ⟨rfl, rfl⟩
              go_wp2_with fail
              refine (C2.out _ (hW0.out.trans xw1)).mono ?_
              rintro _ w2 ⟨rfl, xw2⟩
              clear ha_0 ha_1 ha_2
              obtain ⟨ha_0, ha_1, ha_2⟩ := (HA.out.ext (xw1.trans xw2)).at3
              go_wp2_with fail
              refine (C3.out _ (hW0.out.trans (xw1.trans xw2))).mono ?_
              rintro _ _ ⟨rfl, rfl⟩
              go_wp2_with fail
              refine (C4.out _ (hW0.out.trans (xw1.trans xw2))).mono ?_
              rintro _ _ ⟨rfl, rfl⟩
              go_wp2_with fail
              go_ret
              exact ⟨rfl, (hW0.out.trans (xw1.trans xw2))⟩
          | true =>
            cases Q with
            | false =>
              as_aux_lemma =>
                have t4 := T4.out
                have t4' := T4'.out
                have t5 := T5.out
                go_enter Try.func7, Try.ntmps7
                go_wp2_with fail
                refine (awake08 _).mono ?_
                rintro _ w1 ⟨rfl, xw1⟩
                obtain ⟨ha_0, ha_1, ha_2⟩ := (HA.out.ext xw1).at3
                go_wp2_with fail
                refine (C1.out _).mono ?_
                rintro _ _ ⟨rfl, rfl⟩
                go_wp2_with fail
                refine (C2.out _ (hW0.out.trans xw1)).mono ?_
                rintro _ w2 ⟨rfl, xw2⟩
                clear ha_0 ha_1 ha_2
                obtain ⟨ha_0, ha_1, ha_2⟩ := (HA.out.ext (xw1.trans xw2)).at3
                go_wp2_with fail
                refine (C3.out _ (hW0.out.trans (xw1.trans xw2))).mono ?_
                rintro _ _ ⟨rfl, rfl⟩
                go_wp2_with fail
                refine (C4.out _ (hW0.out.trans (xw1.trans xw2))).mono ?_
                rintro _ _ ⟨rfl, rfl⟩
                go_wp2_with fail
                go_ret
                exact ⟨rfl, (hW0.out.trans (xw1.trans xw2))⟩
            | true =>
              cases Q2 with
              | false =>
                as_aux_lemma =>
                  have t4 := T4.out
                  have t4' := T4'.out
                  have t5 := T5.out
                  go_enter Try.func7, Try.ntmps7
                  go_wp2_with fail
                  refine (awake08 _).mono ?_
                  rintro _ w1 ⟨rfl, xw1⟩
                  obtain ⟨ha_0, ha_1, ha_2⟩ := (HA.out.ext xw1).at3
                  go_wp2_with fail
                  refine (C1.out _).mono ?_
                  rintro _ _ ⟨rfl, rfl⟩
                  go_wp2_with fail
                  refine (C2.out _ (hW0.out.trans xw1)).mono ?_
                  rintro _ w2 ⟨rfl, xw2⟩
                  clear ha_0 ha_1 ha_2
                  obtain ⟨ha_0, ha_1, ha_2⟩ := (HA.out.ext (xw1.trans xw2)).at3
                  go_wp2_with fail
                  refine (C3.out _ (hW0.out.trans (xw1.trans xw2))).mono ?_
                  rintro _ _ ⟨rfl, rfl⟩
                  go_wp2_with fail
                  refine (C4.out _ (hW0.out.trans (xw1.trans xw2))).mono ?_
                  rintro _ _ ⟨rfl, rfl⟩
                  go_wp2_with fail
                  go_ret
                  exact ⟨rfl, (hW0.out.trans (xw1.trans xw2))⟩
              | true =>
                exact absurd H.out (by decide)

/-- what Solve answers -/
theorem solves (p : Int) (m n : Nat) (v u : Value) (xs b : List Int) (w : World) (ok : MatOk p m n xs) (hf : Fld p) (hv : Ints .u64 w v xs) (hu : Ints .u64 w u b) (hb : b.length = m) (hr : Rng p b) :
    ∃ (e : Int) (x : List Int) (B : Bool), (e != 0) = !B ∧ (∀ W, Ext w W → Calls Try.prog 10 #[.int .u64 p, matV m n v, u] W (RetE e x W)) ∧ (B = true → IsX p m n xs b x) := by
  by_cases h : ∃ x, IsX p m n xs b x
  · obtain ⟨x, hx⟩ := h
    exact ⟨0, x, true, rfl, fun W hW => svSolve_yes p m n v u xs b x W ok hf (hv.ext hW) (hu.ext hW) hb hr hx, fun _ => hx⟩
  · exact ⟨6, [], false, rfl, fun W hW => svSolve_no p m n v u xs b W ok hf (hv.ext hW) (hu.ext hW) hb hr h, fun h => Bool.noConfusion h⟩
/-- what Kernel answers -/
theorem kernels (p : Int) (m n : Nat) (v : Value) (xs : List Int) (w : World) (ok : MatOk p m n xs) (hf : Fld p) (hv : Ints .u64 w v xs) :
    ∃ (e : Int) (x : List Int) (B : Bool), (e != 0) = !B ∧ (∀ W, Ext w W → Calls Try.prog 12 #[.int .u64 p, matV m n v] W (RetE e x W)) ∧ (B = true → IsK p m n xs x ∧ freeC n (takeL p m n xs).cols < n) := by
  by_cases h : (takeL p m n xs).U.length < n
  · obtain ⟨x, hx⟩ := IsK.of ok hf h
    have ht := takeL_ok (m := m) (n := n) (rightB_true ok.hp).1 hf ok.hx
    exact ⟨0, x, true, rfl, fun W hW => svKernel_yes p m n v xs x W ok hf (hv.ext hW) hx h, fun _ => ⟨hx, (freeC_lt ht.cols_nodup fun c hc => ht.cols_lt hc).2 (by rw [ht.lk]; exact h)⟩⟩
  · exact ⟨6, [], false, rfl, fun W hW => svKernel_no p m n v xs W ok hf (hv.ext hW) h, fun h => Bool.noConfusion h⟩
/-- numbers that lie at a slice's begin -/
def At0 (w : World) (a : Option Addr) (n : Nat) (x : List Int) : Prop := 0 < n → ∃ b off, a = some ⟨b, off, none⟩ ∧ b < w.heap.size ∧ ∀ j, j < n → w.cell? ⟨b, off + j, none⟩ = some (.int .u64 (x.getD j 0))
theorem parts {w : World} {v : Value} {x : List Int} {n : Nat} (h : Ints .u64 w v x) (hl : x.length = n) : ∃ a cap, v = .slice a n cap ∧ At0 w a n x := by
  obtain ⟨a, cap, rfl, _, _, h3⟩ := h
  subst hl
  exact ⟨a, cap, rfl, h3⟩

/-- a row of the call's own is a slice -/
theorem own_slice0 {w : World} {base n : Nat} {e : TypeId} {v : Value} {xs : List Value} (h : w.ownsRow base e 1 v n xs) : ∃ a cap, v = .slice a n cap := by
  obtain ⟨_, ⟨rfl, h1⟩ | ⟨g, cap, cur, rfl, _⟩⟩ := h
  · obtain rfl : n = 0 := by simpa using h1
    exact ⟨none, 0, rfl⟩
  · exact ⟨_, cap, rfl⟩
set_option maxRecDepth 100000 in
set_option maxHeartbeats 4000000 in
theorem walk_yes (p : Int) (m n : Nat) (v u z : Value) (xs b d : List Int) (w : World) (ok : MatOk p m n xs) (hf : Fld p) (hT : takenB p = true) (hlen : xs.length ≤ 150) (hb : b.length = m) (hr : Rng p b) (hd : d.length = m) (hrd : Rng p d) (hv : Ints .u64 w v xs) (hu : Ints .u64 w u b) (hz : Ints .u64 w z d) :
    Calls Try.prog 7 #[.int .u64 p, matV m n v, u, z] w (Ret (.bool true) w) := by
  have hp2 := rightB_true ok.hp
  obtain ⟨i0, hi, hz0, hz1, hz2⟩ := info_parts info_u64p
  have C1 := hid fun (W : World) => (hT ▸ prime_any p W (by omega) : Calls Try.prog 9 #[.int .u64 p] W fun e w' => e = .returned (.bool true) ∧ W = w')
  have C2 := hid fun (W : World) (hW : Ext w W) => (ok.b ▸ mxRight p m n v xs W (by omega) (by omega) (hv.ext hW) ok.u64 : Calls Try.prog 23 #[.int .u64 p, matV m n v] W (Ret (.bool true) W))
  have C3 := hid fun (W : World) (hW : Ext w W) => (hr.has ok.hp ▸ has_any p u b W (by omega) (by omega) (hu.ext hW) (hr.u64 hp2.2) : Calls Try.prog 24 #[.int .u64 p, u] W fun e w' => e = .returned (.bool true) ∧ W = w')
  have C4 := hid fun (W : World) (hW : Ext w W) => (hrd.has ok.hp ▸ has_any p z d W (by omega) (by omega) (hz.ext hW) (hrd.u64 hp2.2) : Calls Try.prog 24 #[.int .u64 p, z] W fun e w' => e = .returned (.bool true) ∧ W = w')
  have S1 := hid (solves p m n v u xs b w ok hf hv hu hb hr)
  have S2 := hid (solves p m n v z xs d w ok hf hv hz hd hrd)
  have S3 := hid (kernels p m n v xs w ok hf hv)
  have CT := hid fun (W : World) (y : Value) (ys : List Int) (hW : Ext w W) (hy : Ints .u64 W y ys) (hry : Rng p ys) (hl : ys.length = n) => mxTimes_yes p m n v y xs ys W ok (hv.ext hW) hy hry hl
  have CS := hid fun (W : World) (y : Value) (c x : List Int) (hW : Ext w W) (hy : Ints .u64 W y c) (hc : c.length = m) (hrc : Rng p c) (hx : IsX p m n xs c x) => svSolve_yes p m n v y xs c x W ok hf (hv.ext hW) hy hc hrc hx
  have HU := hid hu; have HZ := hid hz; have HP := hid ok.hp; have HR := hid hr; have HRD := hid hrd
  have hm := ok.hm; have hn := ok.hn
  have t5 : decide (150 < (xs.length : Int)) = false := decide_eq_false (by omega)
  have t6 : decide (150 < xs.length) = false := decide_eq_false (by omega)
  have t4 : ((m : Int) != (m : Int)) = false := by simp
  have Hb := hid hb; have Hd := hid hd
  clear ok hf hT hlen
  obtain ⟨a, cap, rfl, k1, k2, k3⟩ := hv
  obtain ⟨a', cap', rfl, KB⟩ := parts hu hb
  obtain ⟨a2, cap2, rfl, KD⟩ := parts hz hd
  have KB := hid KB; have KD := hid KD
  clear k3 hu hz hb hd hr hrd
  have HA := hid (Blk.new w 25 #[.int .i64 (m : Int), .int .i64 (n : Int), .slice a xs.length cap])
  have hW0 := hid ((Ext.refl w).alloc (.cells #[.int .i64 (m : Int), .int .i64 (n : Int), .slice a xs.length cap] 25))
  unfold matV at C2 CT CS S1 S2 S3
  unfold matV
  go_enter Try.func7, Try.ntmps7
  go_wp2_with fail
  refine (awake08 _).mono ?_
  rintro _ w1 ⟨rfl, xw1⟩
  obtain ⟨ha_0, ha_1, ha_2⟩ := (HA.out.ext xw1).at3
  go_wp2_with fail
  refine (C1.out _).mono ?_
  rintro _ _ ⟨rfl, rfl⟩
  go_wp2_with fail
  refine (C2.out _ (hW0.out.trans xw1)).mono ?_
  rintro _ w2 ⟨rfl, xw2⟩
  clear ha_0 ha_1 ha_2
  obtain ⟨ha_0, ha_1, ha_2⟩ := (HA.out.ext (xw1.trans xw2)).at3
  go_wp2_with fail
  refine (C3.out _ (hW0.out.trans (xw1.trans xw2))).mono ?_
  rintro _ _ ⟨rfl, rfl⟩
  go_wp2_with fail
  refine (C4.out _ (hW0.out.trans (xw1.trans xw2))).mono ?_
  rintro _ _ ⟨rfl, rfl⟩
  clear C1 C2 C3 C4
  clear ha_0 ha_1 ha_2
  obtain ⟨e1, x, B1, b1, c1, hx⟩ := S1.out
  obtain ⟨e2, y, B2, b2, c2, hy⟩ := S2.out
  have K1 := hid c1; have K2 := hid c2; have HXf := hid hx; have HYf := hid hy
  have B1h := hid b1; have B2h := hid b2
  unfold RetE at K1 K2
  clear c1 c2 hx hy S1 S2 b1 b2
  cases B1 with
  | false =>
    as_aux_lemma =>
      have b1 := B1h.out
      have b2 := B2h.out
      clear HXf HYf S3 CT CS
      obtain ⟨ha_0, ha_1, ha_2⟩ := (HA.out.ext (xw1.trans xw2)).at3
      go_wp2_with fail
      refine (K1.out _ (hW0.out.trans (xw1.trans xw2))).mono ?_
      rintro _ w3 ⟨vx, rfl, ix, xw3⟩
      clear ha_0 ha_1 ha_2
      have IX := hid ix
      clear ix
      obtain ⟨ha_0, ha_1, ha_2⟩ := (HA.out.ext (xw1.trans (xw2.trans xw3))).at3
      go_wp2_with fail
      refine (K2.out _ (hW0.out.trans (xw1.trans (xw2.trans xw3)))).mono ?_
      rintro _ w4 ⟨vy, rfl, iy, xw4⟩
      clear ha_0 ha_1 ha_2
      have IY := hid iy
      clear iy
      obtain ⟨ha_0, ha_1, ha_2⟩ := (HA.out.ext (xw1.trans (xw2.trans (xw3.trans xw4)))).at3
      go_wp2_with fail
      go_ret
      exact ⟨rfl, (hW0.out.trans (xw1.trans (xw2.trans (xw3.trans xw4))))⟩
  | true =>
    cases B2 with
    | false =>
      as_aux_lemma =>
        have b1 := B1h.out
        have b2 := B2h.out
        clear HXf HYf S3 CT CS
        obtain ⟨ha_0, ha_1, ha_2⟩ := (HA.out.ext (xw1.trans xw2)).at3
        go_wp2_with fail
        refine (K1.out _ (hW0.out.trans (xw1.trans xw2))).mono ?_
        rintro _ w3 ⟨vx, rfl, ix, xw3⟩
        clear ha_0 ha_1 ha_2
        have IX := hid ix
        clear ix
        obtain ⟨ha_0, ha_1, ha_2⟩ := (HA.out.ext (xw1.trans (xw2.trans xw3))).at3
        go_wp2_with fail
        refine (K2.out _ (hW0.out.trans (xw1.trans (xw2.trans xw3)))).mono ?_
        rintro _ w4 ⟨vy, rfl, iy, xw4⟩
        clear ha_0 ha_1 ha_2
        have IY := hid iy
        clear iy
        obtain ⟨ha_0, ha_1, ha_2⟩ := (HA.out.ext (xw1.trans (xw2.trans (xw3.trans xw4)))).at3
        go_wp2_with fail
        go_ret
        exact ⟨rfl, (hW0.out.trans (xw1.trans (xw2.trans (xw3.trans xw4))))⟩
    | true =>
      have b1 := B1h.out
      have b2 := B2h.out
      have HX : Hid (IsX p m n xs b x) := hid (HXf.out rfl)
      have HY : Hid (IsX p m n xs d y) := hid (HYf.out rfl)
      clear HXf HYf
      obtain ⟨ha_0, ha_1, ha_2⟩ := (HA.out.ext (xw1.trans xw2)).at3
      go_wp2_with fail
      refine (K1.out _ (hW0.out.trans (xw1.trans xw2))).mono ?_
      rintro _ w3 ⟨vx, rfl, ix, xw3⟩
      clear ha_0 ha_1 ha_2
      have IX := hid ix
      obtain ⟨ax, kx, rfl, KX⟩ := parts ix HX.out.len
      have KX := hid KX
      clear ix
      obtain ⟨ha_0, ha_1, ha_2⟩ := (HA.out.ext (xw1.trans (xw2.trans xw3))).at3
      go_wp2_with fail
      refine (K2.out _ (hW0.out.trans (xw1.trans (xw2.trans xw3)))).mono ?_
      rintro _ w4 ⟨vy, rfl, iy, xw4⟩
      clear ha_0 ha_1 ha_2
      have IY := hid iy
      obtain ⟨ay, ky, rfl, KY⟩ := parts iy HY.out.len
      have KY := hid KY
      clear iy K1 K2
      obtain ⟨Gw7, hGw7⟩ : ∃ G : Nat → Int, (fun j => (atV x j + atV y j) % p) = G := ⟨_, rfl⟩
      have HGw7 := hid fun j => (congrFun hGw7 j : (x.getD j 0 + y.getD j 0) % p = Gw7 j)
      have AGw7 := hid (show addL p n x y = tab n Gw7 by rw [← hGw7]; rfl)
      clear hGw7
      obtain ⟨ha_0, ha_1, ha_2⟩ := (HA.out.ext (xw1.trans (xw2.trans (xw3.trans xw4)))).at3
      go_wp2_with fail
      go_loopw [15, 13] (fun iv rv wr => ∃ k : Nat, iv = .int .i64 k ∧ k ≤ n ∧ Hid (wr.ownsRow w4.heap.size 22 1 rv k ((tab k Gw7).map (Value.int .u64))) ∧ Hid (Ext w4 wr)) (fun iv _ _ => n - (intOf iv).toNat)
      case atStart => exact ⟨0, rfl, Nat.zero_le _, hid (World.ownsRow_nil _ _ _ _), hid (Ext.refl _)⟩
      case round =>
        obtain ⟨k, rfl, hk, hown, hxk⟩ := hrel
        rename World => w7
        by_cases hlt : k < n
        · obtain ⟨bx, ox, rfl, hbx, kcx⟩ := KX.out (by omega)
          obtain ⟨bw, oy, rfl, hby, kcy⟩ := KY.out (by omega)
          have g := (Ext.cells ((xw4).trans hxk.out) _ _ hbx).trans (kcx k hlt)
          have g' := (Ext.cells (((Ext.refl _)).trans hxk.out) _ _ hby).trans (kcy k hlt)
          have r := HX.out.rng.getD (rightB_true HP.out).1 k
          have r' := HY.out.rng.getD (rightB_true HP.out).1 k
          have hG : (x.getD k 0 + y.getD k 0) % p = Gw7 k := HGw7.out k
          obtain ⟨q, eq⟩ : ∃ t, x.getD k 0 = t := ⟨_, rfl⟩
          obtain ⟨q', eq'⟩ : ∃ t, y.getD k 0 = t := ⟨_, rfl⟩
          rw [eq] at g r hG; rw [eq'] at g' r' hG
          obtain ⟨s, es, s0, s1⟩ := name_mod (p := p) (q + q') (rightB_true HP.out).1
          rw [es] at hG
          have hlm := hid (show ((tab k Gw7).map (Value.int .u64)) ++ [Value.int .u64 s] = (tab (k + 1) Gw7).map (Value.int .u64) by rw [tab_succ, List.map_append, ← hG]; rfl)
          have Es := hid es
          clear eq eq' es kcx kcy hG
          have gs := hid (fun (W : World) (hW : Ext w7 W) => And.intro ((hW.cells _ _ (cell_lt g)).trans g) ((hW.cells _ _ (cell_lt g')).trans g'))
          have hsz := hxk.out.size
          go_wp2_with fail
          go_region_held3 (fun w' => w'.cell? ⟨bx, ox + k, none⟩ = some (.int .u64 q) ∧ w'.cell? ⟨bw, oy + k, none⟩ = some (.int .u64 q')) (first | exact gs.out _ ((Ext.refl w7).drew) | exact gs.out _ (((Ext.refl w7).drew).trans x5))
            ((go_at_call 36; refine (add_as p q q' s _ HP.out r.1 r.2 r'.1 r'.2 Es.out).mono ?_; rintro _ w5 ⟨rfl, x5⟩))
          have e5 : Ext w7 w5 := ((Ext.refl w7).drew).trans x5
          have hx5 := hxk.out.trans e5
          have hsz5 := hx5.size
          have hown5 := hid (ownsRow_ext hown.out e5)
          clear x5 g g'
          go_wp2_with (first | (at_builtin; refine wpList_append_own _ rfl _ _ 23 rfl w4.heap.size 22 i0 (.int .u64 0) 1 8 Try.underlying23 hi hz0 hz1 hz2 rfl (by decide) _ _ _ rfl (hown5.out.alloc _) ⟨w5.heap.size, 0, none⟩ 1 1 [.int .u64 s] rfl rfl (cells_new _ _ _ (by simp)) (by simp [Value.oneCell']) (by simp only [maxLen]; omega) (by omega) (by simp; omega) ?_; intro v' w6 hown6 hgrow6 hnil6) | fail)
          go_roundw
          case rel => exact ⟨k + 1, by go_num, by omega, hid (by rw [← hlm.out]; exact hown6), hid ((hx5.alloc _).grown hgrow6 (fun t e => (hown5.out.lt t e).1))⟩
          case measure => simp [intOf]; omega
        · obtain rfl : n = k := by omega
          have HXw7 := hid hxk.out
          have HOw7 := hid (own_ints hown.out)
          have HNw7 := hid (own_slice0 hown.out)
          clear hown hlt hk hxk
          obtain ⟨ab, kb, rfl⟩ := HNw7.out
          rw [← AGw7.out] at HOw7
          obtain ⟨Gw8, hGw8⟩ : ∃ G : Nat → Int, (fun j => (atV b j + atV d j) % p) = G := ⟨_, rfl⟩
          have HGw8 := hid fun j => (congrFun hGw8 j : (b.getD j 0 + d.getD j 0) % p = Gw8 j)
          have AGw8 := hid (show addL p m b d = tab m Gw8 by rw [← hGw8]; rfl)
          clear hGw8
          go_wp2_with fail
          go_loopw [18, 14] (fun iv rv wr => ∃ k : Nat, iv = .int .i64 k ∧ k ≤ m ∧ Hid (wr.ownsRow w7.heap.size 22 1 rv k ((tab k Gw8).map (Value.int .u64))) ∧ Hid (Ext w7 wr)) (fun iv _ _ => m - (intOf iv).toNat)
          case atStart => exact ⟨0, rfl, Nat.zero_le _, hid (World.ownsRow_nil _ _ _ _), hid (Ext.refl _)⟩
          case round =>
            obtain ⟨k, rfl, hk, hown, hxk⟩ := hrel
            rename World => w8
            by_cases hlt : k < m
            · obtain ⟨bx, ox, rfl, hbx, kcx⟩ := KB.out (by omega)
              obtain ⟨bw, oy, rfl, hby, kcy⟩ := KD.out (by omega)
              have g := (Ext.cells (((hW0.out.trans (xw1.trans (xw2.trans (xw3.trans (xw4.trans HXw7.out)))))).trans hxk.out) _ _ hbx).trans (kcx k hlt)
              have g' := (Ext.cells (((hW0.out.trans (xw1.trans (xw2.trans (xw3.trans (xw4.trans HXw7.out)))))).trans hxk.out) _ _ hby).trans (kcy k hlt)
              have r := HR.out.getD (rightB_true HP.out).1 k
              have r' := HRD.out.getD (rightB_true HP.out).1 k
              have hG : (b.getD k 0 + d.getD k 0) % p = Gw8 k := HGw8.out k
              obtain ⟨q, eq⟩ : ∃ t, b.getD k 0 = t := ⟨_, rfl⟩
              obtain ⟨q', eq'⟩ : ∃ t, d.getD k 0 = t := ⟨_, rfl⟩
              rw [eq] at g r hG; rw [eq'] at g' r' hG
              obtain ⟨s, es, s0, s1⟩ := name_mod (p := p) (q + q') (rightB_true HP.out).1
              rw [es] at hG
              have hlm := hid (show ((tab k Gw8).map (Value.int .u64)) ++ [Value.int .u64 s] = (tab (k + 1) Gw8).map (Value.int .u64) by rw [tab_succ, List.map_append, ← hG]; rfl)
              have Es := hid es
              clear eq eq' es kcx kcy hG
              have gs := hid (fun (W : World) (hW : Ext w8 W) => And.intro ((hW.cells _ _ (cell_lt g)).trans g) ((hW.cells _ _ (cell_lt g')).trans g'))
              have hsz := hxk.out.size
              go_wp2_with fail
              go_region_held3 (fun w' => w'.cell? ⟨bx, ox + k, none⟩ = some (.int .u64 q) ∧ w'.cell? ⟨bw, oy + k, none⟩ = some (.int .u64 q')) (first | exact gs.out _ ((Ext.refl w8).drew) | exact gs.out _ (((Ext.refl w8).drew).trans x5))
                ((go_at_call 36; refine (add_as p q q' s _ HP.out r.1 r.2 r'.1 r'.2 Es.out).mono ?_; rintro _ w5 ⟨rfl, x5⟩))
              have e5 : Ext w8 w5 := ((Ext.refl w8).drew).trans x5
              have hx5 := hxk.out.trans e5
              have hsz5 := hx5.size
              have hown5 := hid (ownsRow_ext hown.out e5)
              clear x5 g g'
              go_wp2_with (first | (at_builtin; refine wpList_append_own _ rfl _ _ 23 rfl w7.heap.size 22 i0 (.int .u64 0) 1 8 Try.underlying23 hi hz0 hz1 hz2 rfl (by decide) _ _ _ rfl (hown5.out.alloc _) ⟨w5.heap.size, 0, none⟩ 1 1 [.int .u64 s] rfl rfl (cells_new _ _ _ (by simp)) (by simp [Value.oneCell']) (by simp only [maxLen]; omega) (by omega) (by simp; omega) ?_; intro v' w6 hown6 hgrow6 hnil6) | fail)
              go_roundw
              case rel => exact ⟨k + 1, by go_num, by omega, hid (by rw [← hlm.out]; exact hown6), hid ((hx5.alloc _).grown hgrow6 (fun t e => (hown5.out.lt t e).1))⟩
              case measure => simp [intOf]; omega
            · obtain rfl : m = k := by omega
              have HXw8 := hid hxk.out
              have HOw8 := hid (own_ints hown.out)
              have HNw8 := hid (own_slice0 hown.out)
              clear hown hlt hk hxk
              obtain ⟨as8, ks, rfl⟩ := HNw8.out
              rw [← AGw8.out] at HOw8
              have hbl := hid (show (addL p n x y).length = n from ofF_len _)
              have hbr := hid (show Rng p (addL p n x y) from ofF_rng (rightB_true HP.out).1 _)
              have hsl := hid (show (addL p m b d).length = m from ofF_len _)
              have hsr := hid (show Rng p (addL p m b d) from ofF_rng (rightB_true HP.out).1 _)
              have hsum := hid (HX.out.add (rightB_true HP.out).1 HY.out)
              have KT := hid fun (W : World) (q : Value) (hW : Ext w W) (hq : Ints .u64 W q (addL p n x y)) => hsum.out.sol ▸ CT.out W q _ hW hq hbr.out hbl.out
              unfold RetV at KT
              obtain ⟨ha_0, ha_1, ha_2⟩ := (HA.out.ext (xw1.trans (xw2.trans (xw3.trans (xw4.trans (HXw7.out.trans HXw8.out)))))).at3
              go_wp2_with fail
              refine (KT.out _ _ (hW0.out.trans (xw1.trans (xw2.trans (xw3.trans (xw4.trans (HXw7.out.trans HXw8.out)))))) (HOw7.out.ext HXw8.out)).mono ?_
              rintro _ w9 ⟨vt, rfl, it, xw9⟩
              clear ha_0 ha_1 ha_2
              have IT := hid it
              obtain ⟨at9, kt, rfl, -⟩ := parts it hsl.out
              clear it
              have KS := hid fun (W : World) (q : Value) (hW : Ext w W) (hq : Ints .u64 W q (addL p m b d)) => CS.out W q _ _ hW hq hsl.out hsr.out hsum.out
              unfold RetE at KS
              obtain ⟨ha_0, ha_1, ha_2⟩ := (HA.out.ext (xw1.trans (xw2.trans (xw3.trans (xw4.trans (HXw7.out.trans (HXw8.out.trans xw9))))))).at3
              go_wp2_with fail
              refine (KS.out _ _ (hW0.out.trans (xw1.trans (xw2.trans (xw3.trans (xw4.trans (HXw7.out.trans (HXw8.out.trans xw9))))))) (HOw8.out.ext xw9)).mono ?_
              rintro _ w10 ⟨vq, rfl, iq, xw10⟩
              clear ha_0 ha_1 ha_2
              have IQ := hid iq
              obtain ⟨aq, kq, rfl, -⟩ := parts iq hbl.out
              clear iq KS KT
              go_wp2_with fail
              refine (same_yes _ _ _ _ (IT.out.ext xw10) (HOw8.out.ext (xw9.trans xw10))).mono ?_
              rintro _ w11 ⟨rfl, xw11⟩
              go_wp2_with fail
              refine (same_yes _ _ _ _ (IQ.out.ext xw11) (HOw7.out.ext (HXw8.out.trans (xw9.trans (xw10.trans xw11))))).mono ?_
              rintro _ w12 ⟨rfl, xw12⟩
              obtain ⟨e3, kl, B3, b3, c3, hkl⟩ := S3.out
              have K3 := hid c3; have HK := hid hkl; have B3h := hid b3
              unfold RetE at K3
              clear c3 hkl S3 b3
              cases B3 with
              | false =>
                have b3 := B3h.out
                obtain ⟨ha_0, ha_1, ha_2⟩ := (HA.out.ext (xw1.trans (xw2.trans (xw3.trans (xw4.trans (HXw7.out.trans (HXw8.out.trans (xw9.trans (xw10.trans (xw11.trans xw12)))))))))).at3
                go_wp2_with fail
                refine (K3.out _ (hW0.out.trans (xw1.trans (xw2.trans (xw3.trans (xw4.trans (HXw7.out.trans (HXw8.out.trans (xw9.trans (xw10.trans (xw11.trans xw12))))))))))).mono ?_
                rintro _ w13 ⟨vk, rfl, ik, xw13⟩
                clear ha_0 ha_1 ha_2
                go_wp2_with fail
                go_ret
                exact ⟨rfl, (hW0.out.trans (xw1.trans (xw2.trans (xw3.trans (xw4.trans (HXw7.out.trans (HXw8.out.trans (xw9.trans (xw10.trans (xw11.trans (xw12.trans xw13)))))))))))⟩
              | true =>
                have b3 := B3h.out
                obtain ⟨hk1, hk2⟩ := HK.out rfl
                have HK1 := hid hk1; have HK2 := hid hk2
                clear hk1 hk2 HK
                obtain ⟨ha_0, ha_1, ha_2⟩ := (HA.out.ext (xw1.trans (xw2.trans (xw3.trans (xw4.trans (HXw7.out.trans (HXw8.out.trans (xw9.trans (xw10.trans (xw11.trans xw12)))))))))).at3
                go_wp2_with fail
                refine (K3.out _ (hW0.out.trans (xw1.trans (xw2.trans (xw3.trans (xw4.trans (HXw7.out.trans (HXw8.out.trans (xw9.trans (xw10.trans (xw11.trans xw12))))))))))).mono ?_
                rintro _ w13 ⟨vk, rfl, ik, xw13⟩
                clear ha_0 ha_1 ha_2
                have IK := hid ik
                obtain ⟨ak, kk, rfl, KK⟩ := parts ik HK1.out.len
                have KK := hid KK
                clear ik
                obtain ⟨Gw14, hGw14⟩ : ∃ G : Nat → Int, (fun j => (atV x j + atV kl j) % p) = G := ⟨_, rfl⟩
                have HGw14 := hid fun j => (congrFun hGw14 j : (x.getD j 0 + kl.getD j 0) % p = Gw14 j)
                have AGw14 := hid (show addL p n x kl = tab n Gw14 by rw [← hGw14]; rfl)
                clear hGw14
                go_wp2_with fail
                go_loopw [28, 27] (fun iv rv wr => ∃ k : Nat, iv = .int .i64 k ∧ k ≤ n ∧ Hid (wr.ownsRow w13.heap.size 22 1 rv k ((tab k Gw14).map (Value.int .u64))) ∧ Hid (Ext w13 wr)) (fun iv _ _ => n - (intOf iv).toNat)
                case atStart => exact ⟨0, rfl, Nat.zero_le _, hid (World.ownsRow_nil _ _ _ _), hid (Ext.refl _)⟩
                case round =>
                  obtain ⟨k, rfl, hk, hown, hxk⟩ := hrel
                  rename World => w14
                  by_cases hlt : k < n
                  · obtain ⟨bx, ox, rfl, hbx, kcx⟩ := KX.out (by omega)
                    obtain ⟨bw, oy, rfl, hby, kcy⟩ := KK.out (by omega)
                    have g := (Ext.cells (((xw4.trans (HXw7.out.trans (HXw8.out.trans (xw9.trans (xw10.trans (xw11.trans (xw12.trans xw13)))))))).trans hxk.out) _ _ hbx).trans (kcx k hlt)
                    have g' := (Ext.cells (((Ext.refl _)).trans hxk.out) _ _ hby).trans (kcy k hlt)
                    have r := HX.out.rng.getD (rightB_true HP.out).1 k
                    have r' := HK1.out.rng.getD (rightB_true HP.out).1 k
                    have hG : (x.getD k 0 + kl.getD k 0) % p = Gw14 k := HGw14.out k
                    obtain ⟨q, eq⟩ : ∃ t, x.getD k 0 = t := ⟨_, rfl⟩
                    obtain ⟨q', eq'⟩ : ∃ t, kl.getD k 0 = t := ⟨_, rfl⟩
                    rw [eq] at g r hG; rw [eq'] at g' r' hG
                    obtain ⟨s, es, s0, s1⟩ := name_mod (p := p) (q + q') (rightB_true HP.out).1
                    rw [es] at hG
                    have hlm := hid (show ((tab k Gw14).map (Value.int .u64)) ++ [Value.int .u64 s] = (tab (k + 1) Gw14).map (Value.int .u64) by rw [tab_succ, List.map_append, ← hG]; rfl)
                    have Es := hid es
                    clear eq eq' es kcx kcy hG
                    have gs := hid (fun (W : World) (hW : Ext w14 W) => And.intro ((hW.cells _ _ (cell_lt g)).trans g) ((hW.cells _ _ (cell_lt g')).trans g'))
                    have hsz := hxk.out.size
                    go_wp2_with fail
                    go_region_held3 (fun w' => w'.cell? ⟨bx, ox + k, none⟩ = some (.int .u64 q) ∧ w'.cell? ⟨bw, oy + k, none⟩ = some (.int .u64 q')) (first | exact gs.out _ ((Ext.refl w14).drew) | exact gs.out _ (((Ext.refl w14).drew).trans x5))
                      ((go_at_call 36; refine (add_as p q q' s _ HP.out r.1 r.2 r'.1 r'.2 Es.out).mono ?_; rintro _ w5 ⟨rfl, x5⟩))
                    have e5 : Ext w14 w5 := ((Ext.refl w14).drew).trans x5
                    have hx5 := hxk.out.trans e5
                    have hsz5 := hx5.size
                    have hown5 := hid (ownsRow_ext hown.out e5)
                    clear x5 g g'
                    go_wp2_with (first | (at_builtin; refine wpList_append_own _ rfl _ _ 23 rfl w13.heap.size 22 i0 (.int .u64 0) 1 8 Try.underlying23 hi hz0 hz1 hz2 rfl (by decide) _ _ _ rfl (hown5.out.alloc _) ⟨w5.heap.size, 0, none⟩ 1 1 [.int .u64 s] rfl rfl (cells_new _ _ _ (by simp)) (by simp [Value.oneCell']) (by simp only [maxLen]; omega) (by omega) (by simp; omega) ?_; intro v' w6 hown6 hgrow6 hnil6) | fail)
                    go_roundw
                    case rel => exact ⟨k + 1, by go_num, by omega, hid (by rw [← hlm.out]; exact hown6), hid ((hx5.alloc _).grown hgrow6 (fun t e => (hown5.out.lt t e).1))⟩
                    case measure => simp [intOf]; omega
                  · obtain rfl : n = k := by omega
                    have HXw14 := hid hxk.out
                    have HOw14 := hid (own_ints hown.out)
                    have HNw14 := hid (own_slice0 hown.out)
                    clear hown hlt hk hxk
                    obtain ⟨am, km, rfl⟩ := HNw14.out
                    rw [← AGw14.out] at HOw14
                    have KT := hid fun (W : World) (q : Value) (hW : Ext w W) (hq : Ints .u64 W q (addL p n x kl)) => HX.out.more (rightB_true HP.out).1 Hb.out HR.out HK1.out ▸ CT.out W q _ hW hq (ofF_rng (rightB_true HP.out).1 _) (ofF_len _)
                    have hne := hid (HK1.out.ne (rightB_true HP.out).1 HX.out.len HX.out.rng HK2.out)
                    unfold RetV at KT
                    obtain ⟨ha_0, ha_1, ha_2⟩ := (HA.out.ext (xw1.trans (xw2.trans (xw3.trans (xw4.trans (HXw7.out.trans (HXw8.out.trans (xw9.trans (xw10.trans (xw11.trans (xw12.trans (xw13.trans HXw14.out)))))))))))).at3
                    go_wp2_with fail
                    refine (KT.out _ _ (hW0.out.trans (xw1.trans (xw2.trans (xw3.trans (xw4.trans (HXw7.out.trans (HXw8.out.trans (xw9.trans (xw10.trans (xw11.trans (xw12.trans (xw13.trans HXw14.out)))))))))))) HOw14.out).mono ?_
                    rintro _ w15 ⟨vt2, rfl, it2, xw15⟩
                    clear ha_0 ha_1 ha_2
                    have IT2 := hid it2
                    obtain ⟨at15, kt2, rfl, -⟩ := parts it2 Hb.out
                    clear it2
                    go_wp2_with fail
                    refine (same_yes _ _ _ _ IT2.out (HU.out.ext (hW0.out.trans (xw1.trans (xw2.trans (xw3.trans (xw4.trans (HXw7.out.trans (HXw8.out.trans (xw9.trans (xw10.trans (xw11.trans (xw12.trans (xw13.trans (HXw14.out.trans xw15))))))))))))))).mono ?_
                    rintro _ w16 ⟨rfl, xw16⟩
                    go_wp2_with fail
                    refine ((decide_eq_false hne.out ▸ same_any _ _ _ _ _ (HOw14.out.ext (xw15.trans xw16)) (IX.out.ext (xw4.trans (HXw7.out.trans (HXw8.out.trans (xw9.trans (xw10.trans (xw11.trans (xw12.trans (xw13.trans (HXw14.out.trans (xw15.trans xw16))))))))))) : Calls Try.prog 19 _ _ (Ret (.bool false) _))).mono ?_
                    rintro _ w17 ⟨rfl, xw17⟩
                    go_wp2_with fail
                    go_ret
                    exact ⟨rfl, (hW0.out.trans (xw1.trans (xw2.trans (xw3.trans (xw4.trans (HXw7.out.trans (HXw8.out.trans (xw9.trans (xw10.trans (xw11.trans (xw12.trans (xw13.trans (HXw14.out.trans (xw15.trans (xw16.trans xw17)))))))))))))))⟩

/-- the law answers true -/
theorem walk (p r c : Int) (v : Value) (xs : List Int) (u : Value) (b : List Int) (z : Value) (d : List Int) (w : World) (hp : (Lit.int .u64 p).wf = true) (_ : (Lit.int .i64 r).wf = true) (_ : (Lit.int .i64 c).wf = true) (hv : Ints .u64 w v xs) (hx : ∀ x ∈ xs, (Lit.int .u64 x).wf = true) (hu : Ints .u64 w u b) (hy : ∀ x ∈ b, (Lit.int .u64 x).wf = true) (hz : Ints .u64 w z d) (hzw : ∀ x ∈ d, (Lit.int .u64 x).wf = true) :
    Calls Try.prog 7 #[.int .u64 p, .agg #[.int .i64 r, .int .i64 c, v], u, z] w (Ret (.bool true) w) := by
  have hx' : U64s xs := fun x h => u64_wf (hx x h)
  have hy' : U64s b := fun x h => u64_wf (hy x h)
  have hd' : U64s d := fun x h => u64_wf (hzw x h)
  cases h : goB p r c xs b d with
  | false => exact walk_skip p r c v u z xs b d w (u64_wf hp).1 (u64_wf hp).2 hv hx' hu hy' hz hd' h
  | true =>
    unfold goB at h
    simp only [Bool.and_eq_true, decide_eq_true_eq] at h
    obtain ⟨h1, h2, h3, h4, h5, h6, h7⟩ := h
    obtain ⟨m, n, rfl, rfl, ok⟩ := MatOk.of hx' h3
    obtain ⟨_, h8⟩ := hasB_true h4
    obtain ⟨_, h9⟩ := hasB_true h5
    exact walk_yes p m n v u z xs b d w ok (taken_fld h2) h2 h1 (by omega) (fun x hx => ⟨(hy' x hx).1, h8 x hx⟩) (by omega) (fun x hx => ⟨(hd' x hx).1, h9 x hx⟩) hv hu hz

theorem own : ownKnob Try.prog.godebug = none := by kernel_rfl
set_option maxRecDepth 100000 in
theorem lifted (os : Os) (started : os.Started) (H : Type) (enc : TypeId × Value → H) :
    ReturnsInHanded {} Try.checked os 7 .any (Rows.solveMoreSpec.pre6 enc Try.prog Try.f7 Rows.solveMoreRow.domain false) (Rows.solveMoreSpec.post enc Try.prog Try.f7 false true false false) := by
  refine returnsInHanded_of_change (C := Try.checked) own started (by kernel_rfl) Try.func7
    (ChangeSpec.witness6 (enc := enc) (C := Try.checked) false ⟨#[], #[.int .u64 0, .agg #[.int .i64 0, .int .i64 0, .slice none 0 0], .slice none 0 0, .slice none 0 0], []⟩ 8 (by kernel_rfl) (by kernel_rfl) (by kernel_rfl) (by kernel_rfl)) ?_
  intro W base args ds gs before hval0 hW _ _
  have hval : ∀ (j : Nat) t v, Try.f7.params[j]? = some t → args[j]? = some v → Value.okWide Try.prog W .any base t v := hval0
  have hW' := hW
  obtain ⟨p, q, hA0, hV, rfl, _, _⟩ := hW
  have hA : DataW.TrodAll enc Try.prog W 0 (fun _ => true) true Try.f7.params.toList args.toList ds p := hA0
  rw [Try.params7] at hA hval
  obtain ⟨v0, vs0, d0, ds0, p0, q0, hargs, rfl, rfl, h0, r0⟩ := trodAll_cons hA
  obtain ⟨v1, vs1, d1, ds1, p1, q1, rfl, rfl, rfl, h1, r1⟩ := trodAll_cons r0
  obtain ⟨v2, vs2, d2, ds2, p2, q2, rfl, rfl, rfl, h2, r2⟩ := trodAll_cons r1
  obtain ⟨v3, vs3, d3, ds3, p3, q3, rfl, rfl, rfl, h3, r3⟩ := trodAll_cons r2
  obtain ⟨rfl, rfl, rfl⟩ := trodAll_nil r3
  obtain rfl : args = #[v0, v1, v2, v3] := by cases args; simp_all
  obtain ⟨rfl, rfl⟩ := trodVars_none hV
  obtain ⟨a0, rfl, rfl, rfl, w0⟩ := open_int Try.underlying22 (hval 0 22 v0 rfl rfl) h0
  obtain ⟨mr1, mc1, mu1, xs1, rfl, wr1, wc1, i1, w1⟩ := open_Mat (hval 1 25 v1 rfl rfl) h1
  obtain ⟨xs2, i2, w2⟩ := open_Ints Try.underlying23 Try.underlying22 (by kernel_rfl) (hval 2 23 v2 rfl rfl) h2
  obtain ⟨xs3, i3, w3⟩ := open_Ints Try.underlying23 Try.underlying22 (by kernel_rfl) (hval 3 23 v3 rfl rfl) h3
  refine (walk a0 mr1 mc1 mu1 xs1 v2 xs2 v3 xs3 W w0 wr1 wc1 i1 w1 i2 w2 i3 w3).mono fun e W' ⟨he, hg⟩ => ⟨_, he, ?_⟩
  exact law_post (by kernel_rfl) (by kernel_rfl) rfl Try.underlying4 rfl rfl hW' hg

/-- the statement -/
theorem proved : Rows.SolveMoreSaid :=
  OpenClaim.holds_of_wide 7 Try.f7 rfl rfl rfl rfl rfl rfl rfl ⟨rfl, rfl, rfl, rfl, rfl⟩ rfl rfl rfl rfl rfl (by kernel_rfl) Try.func7 (by kernel_rfl)
    (of_decide_eq_true (by kernel_rfl)) (by unfold Func.isWrapper; first | (rw [if_pos (by decide +kernel)]; kernel_rfl) | (rw [if_neg (by decide +kernel)]; exact ⟨rfl, rfl⟩))
    (fun os started H enc _ => lifted os started H enc)
end Go.Proofs.Ytjdbkbbhjiemdaa.solveMore
