/- SolveOr: whatever the number, the matrix, the right side and the vector, the law answers true, and nothing that was there has turned. No condition. -/
import Derived.Test.YtjdbkbbhjiemdaaSolB6
import Derived.Test.YtjdbkbbhjiemdaaAwake08
import Derived.Test.YtjdbkbbhjiemdaaOpenMat
import Derived.Test.YtjdbkbbhjiemdaaSame
namespace Go.Proofs.Ytjdbkbbhjiemdaa.solveOr
open Go.ChangeShapes Go.WideShapes Go.ChangeAt Go.RowKit Go.Maps

/-- does the law go on? -/
noncomputable def goB (p r c : Int) (xs b : List Int) : Bool := decide (xs.length ≤ 150) && (takenB p && (matB p r c xs && (hasB p b && decide ((b.length : Int) = r))))
set_option maxRecDepth 100000 in
set_option maxHeartbeats 2000000 in
theorem walk_skip (p r c : Int) (v u z : Value) (xs b : List Int) (w : World) (h0 : 0 ≤ p) (h1 : p ≤ 18446744073709551615) (hv : Ints .u64 w v xs) (hx : U64s xs) (hu : Ints .u64 w u b) (hy : U64s b) (h : goB p r c xs b = false) :
    Calls Try.prog 4 #[.int .u64 p, matV r c v, u, z] w (Ret (.bool true) w) := by
  have C1 := hid fun (W : World) => prime_any p W h0
  have C2 := hid fun (W : World) (hW : Ext w W) => mxRight p r c v xs W h0 h1 (hv.ext hW) hx
  have C3 := hid fun (W : World) (hW : Ext w W) => has_any p u b W h0 h1 (hu.ext hW) hy
  unfold goB at h
  obtain ⟨T, e1⟩ : ∃ B, takenB p = B := ⟨_, rfl⟩
  obtain ⟨M, e2⟩ : ∃ B, matB p r c xs = B := ⟨_, rfl⟩
  obtain ⟨S, e3⟩ : ∃ B, hasB p b = B := ⟨_, rfl⟩
  obtain ⟨Q, e4⟩ : ∃ B, decide ((b.length : Int) = r) = B := ⟨_, rfl⟩
  obtain ⟨K, e5⟩ : ∃ B, decide (xs.length ≤ 150) = B := ⟨_, rfl⟩
  rw [e1] at C1 h; rw [e2] at C2 h; rw [e3] at C3 h; rw [e4, e5] at h
  have t4 : ((b.length : Int) != r) = !Q := by rw [← e4]; rfl
  have t5 : decide (150 < (xs.length : Int)) = !K := by rw [← e5]; by_cases e : xs.length ≤ 150 <;> simp [e] <;> omega
  obtain ⟨a, cap, rfl, k1, k2, k3⟩ := hv
  obtain ⟨a', cap', rfl, k1', k2', k3'⟩ := hu
  clear k3 k3' hx hy e1 e2 e3 e4 e5
  have HA := hid (Blk.new w 25 #[.int .i64 r, .int .i64 c, .slice a xs.length cap])
  have hW0 := hid ((Ext.refl w).alloc (.cells #[.int .i64 r, .int .i64 c, .slice a xs.length cap] 25))
  unfold matV at C2
  unfold matV
  have T4 := hid t4; have T5 := hid t5; have H := hid h
  clear t4 t5 h
  cases K with
  | false =>
    as_aux_lemma =>
      have t4 := T4.out
      have t5 := T5.out
      go_enter Try.func4, Try.ntmps4
      go_wp2_with fail
      refine (awake08 _).mono ?_
      rintro _ w1 ⟨rfl, xw1⟩
      obtain ⟨ha_0, ha_1, ha_2⟩ := (HA.out.ext xw1).at3
      go_wp2_with fail
      go_ret
      exact ⟨rfl, (hW0.out.trans xw1)⟩
  | true =>
    cases T with
    | false =>
      as_aux_lemma =>
        have t4 := T4.out
        have t5 := T5.out
        go_enter Try.func4, Try.ntmps4
        go_wp2_with fail
        refine (awake08 _).mono ?_
        rintro _ w1 ⟨rfl, xw1⟩
        obtain ⟨ha_0, ha_1, ha_2⟩ := (HA.out.ext xw1).at3
        go_wp2_with fail
        refine (C1.out _).mono ?_
        rintro _ _ ⟨rfl, rfl⟩
        go_wp2_with fail
        go_ret
        exact ⟨rfl, (hW0.out.trans xw1)⟩
    | true =>
      cases M with
      | false =>
        as_aux_lemma =>
          have t4 := T4.out
          have t5 := T5.out
          go_enter Try.func4, Try.ntmps4
          go_wp2_with fail
          refine (awake08 _).mono ?_
          rintro _ w1 ⟨rfl, xw1⟩
          obtain ⟨ha_0, ha_1, ha_2⟩ := (HA.out.ext xw1).at3
          go_wp2_with fail
          refine (C1.out _).mono ?_
          rintro _ _ ⟨rfl, rfl⟩
          go_wp2_with fail
          refine (C2.out _ (hW0.out.trans xw1)).mono ?_
          rintro _ w2 ⟨rfl, xw2⟩
          clear ha_0 ha_1 ha_2
          obtain ⟨ha_0, ha_1, ha_2⟩ := (HA.out.ext (xw1.trans xw2)).at3
          go_wp2_with fail
          go_ret
          exact ⟨rfl, (hW0.out.trans (xw1.trans xw2))⟩
      | true =>
        cases S with
        | false =>
          as_aux_lemma =>
            have t4 := T4.out
            have t5 := T5.out
            go_enter Try.func4, Try.ntmps4
            go_wp2_with fail
            refine (awake08 _).mono ?_
            rintro _ w1 ⟨rfl, xw1⟩
            obtain ⟨ha_0, ha_1, ha_2⟩ := (HA.out.ext xw1).at3
            go_wp2_with fail
            refine (C1.out _).mono ?_
            rintro _ _ ⟨rfl, rfl⟩
            go_wp2_with fail
            refine (C2.out _ (hW0.out.trans xw1)).mono ?_
            rintro _ w2 ⟨rfl, xw2⟩
            clear ha_0 ha_1 ha_2
            obtain ⟨ha_0, ha_1, ha_2⟩ := (HA.out.ext (xw1.trans xw2)).at3
            go_wp2_with fail
            refine (C3.out _ (hW0.out.trans (xw1.trans xw2))).mono ?_
            rintro _ _ ⟨rfl, rfl⟩
            go_wp2_with fail
            go_ret
            exact ⟨rfl, (hW0.out.trans (xw1.trans xw2))⟩
        | true =>
          cases Q with
          | false =>
            as_aux_lemma =>
              have t4 := T4.out
              have t5 := T5.out
              go_enter Try.func4, Try.ntmps4
              go_wp2_with fail
              refine (awake08 _).mono ?_
              rintro _ w1 ⟨rfl, xw1⟩
              obtain ⟨ha_0, ha_1, ha_2⟩ := (HA.out.ext xw1).at3
              go_wp2_with fail
              refine (C1.out _).mono ?_
              rintro _ _ ⟨rfl, rfl⟩
              go_wp2_with fail
              refine (C2.out _ (hW0.out.trans xw1)).mono ?_
              rintro _ w2 ⟨rfl, xw2⟩
              clear ha_0 ha_1 ha_2
              obtain ⟨ha_0, ha_1, ha_2⟩ := (HA.out.ext (xw1.trans xw2)).at3
              go_wp2_with fail
              refine (C3.out _ (hW0.out.trans (xw1.trans xw2))).mono ?_
              rintro _ _ ⟨rfl, rfl⟩
              go_wp2_with fail
              go_ret
              exact ⟨rfl, (hW0.out.trans (xw1.trans xw2))⟩
          | true => exact absurd H.out (by decide)

/-- what the law finds: a solution, or what is against -/
def Found (p : Int) (m n : Nat) (v u : Value) (xs b : List Int) (w : World) : Prop :=
  ∃ (e1 e2 : Int) (x y : List Int) (B : Bool), (e1 == 0) = B ∧ (e2 == 0) = !B ∧ (∀ W, Ext w W → Calls Try.prog 10 #[.int .u64 p, matV m n v, u] W (RetE e1 x W)) ∧ (∀ W, Ext w W → Calls Try.prog 11 #[.int .u64 p, matV m n v, u] W (RetE e2 y W)) ∧
    (B = true → e2 = 6 ∧ x.length = n ∧ Rng p x ∧ timesL p m n xs x = b) ∧
    (B = false → e1 = 6 ∧ y.length = m ∧ Rng p y ∧ leftL p m n xs y = List.replicate n 0 ∧ ∃ d, dotZ y b % p = d ∧ d ≠ 0)
theorem found (p : Int) (m n : Nat) (v u : Value) (xs b : List Int) (w : World) (ok : MatOk p m n xs) (hf : Fld p) (hv : Ints .u64 w v xs) (hu : Ints .u64 w u b) (hb : b.length = m) (hr : Rng p b) : Found p m n v u xs b w := by
  by_cases h : ∃ x, IsX p m n xs b x
  · obtain ⟨x, hx⟩ := h
    exact ⟨0, 6, x, [], true, rfl, rfl, fun W hW => svSolve_yes p m n v u xs b x W ok hf (hv.ext hW) (hu.ext hW) hb hr hx, fun W hW => svAgainst_no p m n v u xs b W ok hf (hv.ext hW) (hu.ext hW) hb hr (AgOf.none hx), fun _ => ⟨rfl, hx.len, hx.rng, hx.sol⟩, fun h => (Bool.noConfusion h)⟩
  · obtain ⟨y, hy⟩ := AgOf.of ok hf hb hr h
    have hy' := hy
    obtain ⟨i, h1, h2, h3, h4, h5⟩ := hy'
    have e : dotZ y b = dotF m (atV y) (atV b) := by rw [dotZ_sm y b (by rw [h3.len, hb]), h3.len]; rfl
    exact ⟨6, 0, [], y, false, rfl, rfl, fun W hW => svSolve_no p m n v u xs b W ok hf (hv.ext hW) (hu.ext hW) hb hr h, fun W hW => svAgainst_yes p m n v u xs b y W ok hf (hv.ext hW) (hu.ext hW) hb hr hy, fun h => Bool.noConfusion h, fun _ => ⟨rfl, h3.len, h3.rng, h3.sol, _, rfl, by rw [e]; exact h4⟩⟩

set_option maxRecDepth 100000 in
set_option maxHeartbeats 1500000 in
theorem walk_yes (p : Int) (m n : Nat) (v u z : Value) (xs b zs : List Int) (w : World) (ok : MatOk p m n xs) (hf : Fld p) (hT : takenB p = true) (hlen : xs.length ≤ 150) (hb : b.length = m) (hr : Rng p b) (hv : Ints .u64 w v xs) (hu : Ints .u64 w u b) (hz : Ints .u64 w z zs) (hzu : U64s zs) :
    Calls Try.prog 4 #[.int .u64 p, matV m n v, u, z] w (Ret (.bool true) w) := by
  have hp2 := rightB_true ok.hp
  have C1 := hid fun (W : World) => (hT ▸ prime_any p W (by omega) : Calls Try.prog 9 #[.int .u64 p] W fun e w' => e = .returned (.bool true) ∧ W = w')
  have C2 := hid fun (W : World) (hW : Ext w W) => (ok.b ▸ mxRight p m n v xs W (by omega) (by omega) (hv.ext hW) ok.u64 : Calls Try.prog 23 #[.int .u64 p, matV m n v] W (Ret (.bool true) W))
  have C3 := hid fun (W : World) (hW : Ext w W) => (hr.has ok.hp ▸ has_any p u b W (by omega) (by omega) (hu.ext hW) (hr.u64 hp2.2) : Calls Try.prog 24 #[.int .u64 p, u] W fun e w' => e = .returned (.bool true) ∧ W = w')
  have HF := hid (found p m n v u xs b w ok hf hv hu hb hr)
  have CT := hid fun (W : World) (y : Value) (ys : List Int) (hW : Ext w W) (hy : Ints .u64 W y ys) (hry : Rng p ys) (hl : ys.length = n) => mxTimes_yes p m n v y xs ys W ok (hv.ext hW) hy hry hl
  have CN := hid fun (W : World) (hW : Ext w W) (hno : vecB p n zs = false) => mxTimes_no p m n v z xs zs W (by omega) (by omega) (hv.ext hW) ok.u64 (hz.ext hW) hzu (by rw [ok.b]; exact hno)
  have CL := hid fun (W : World) (y : Value) (ys : List Int) (hW : Ext w W) (hy : Ints .u64 W y ys) (hry : Rng p ys) (hl : ys.length = m) => mxLeft_yes p m n v y xs ys W ok (hv.ext hW) hy hry hl
  have CD := hid fun (W : World) (y : Value) (ys : List Int) (d : Int) (hW : Ext w W) (hy : Ints .u64 W y ys) (hry : Rng p ys) (hl : ys.length = m) (hd : dotZ ys b % p = d) => dot_as p d y u ys b W hy (hu.ext hW) (hry.u64 hp2.2) (hr.u64 hp2.2) (by rw [hl, hb]) (hry.has ok.hp) (hr.has ok.hp) hd
  have CS := hid fun (W : World) (y : Value) (ys : List Int) (hW : Ext w W) (hy : Ints .u64 W y (timesL p m n xs ys)) => (show ∃ x, Calls Try.prog 10 #[.int .u64 p, matV m n v, y] W (RetE 0 x W) from by
    obtain ⟨x, hx⟩ := IsX.of_times ok hf (x0 := ys) (b := timesL p m n xs ys) rfl
    exact ⟨x, svSolve_yes p m n v y xs _ x W ok hf (hv.ext hW) hy (timesL_len _ _ _ _) (timesL_rng hp2.1 _ _ _ _) hx⟩)
  have HU := hid hu; have HZ := hid hz; have HP := hid ok.hp
  have hm := ok.hm; have hn := ok.hn
  have hmk := make_ints (P := Try.prog) 23 22 .u64 8 (by omega) (by kernel_rfl) (by kernel_rfl) n n (Nat.le_refl _) (by omega)
  have t5 : decide (150 < (xs.length : Int)) = false := decide_eq_false (by omega)
  have t6 : decide (150 < xs.length) = false := decide_eq_false (by omega)
  have t4 : ((m : Int) != (m : Int)) = false := by simp
  have Hb := hid hb
  clear ok hf hT hr hlen
  obtain ⟨a, cap, rfl, k1, k2, k3⟩ := hv
  obtain ⟨a', cap', rfl, k1', k2', k3'⟩ := hu
  obtain ⟨a2, cap2, rfl, k12, k22, k32⟩ := hz
  clear k3 k3' k32
  rw [hb] at k1' HU C3 CD HF ⊢
  have HA := hid (Blk.new w 25 #[.int .i64 (m : Int), .int .i64 (n : Int), .slice a xs.length cap])
  have hW0 := hid ((Ext.refl w).alloc (.cells #[.int .i64 (m : Int), .int .i64 (n : Int), .slice a xs.length cap] 25))
  unfold Found matV at HF
  unfold matV at C2 CT CN CL CS
  unfold matV
  clear hb
  go_enter Try.func4, Try.ntmps4
  go_wp2_with fail
  refine (awake08 _).mono ?_
  rintro _ w1 ⟨rfl, xw1⟩
  obtain ⟨ha_0, ha_1, ha_2⟩ := (HA.out.ext xw1).at3
  go_wp2_with fail
  refine (C1.out _).mono ?_
  rintro _ _ ⟨rfl, rfl⟩
  go_wp2_with fail
  refine (C2.out _ (hW0.out.trans xw1)).mono ?_
  rintro _ w2 ⟨rfl, xw2⟩
  clear ha_0 ha_1 ha_2
  obtain ⟨ha_0, ha_1, ha_2⟩ := (HA.out.ext (xw1.trans xw2)).at3
  go_wp2_with fail
  refine (C3.out _ (hW0.out.trans (xw1.trans xw2))).mono ?_
  rintro _ _ ⟨rfl, rfl⟩
  clear C1 C2 C3
  clear ha_0 ha_1 ha_2
  obtain ⟨e1, e2, x, y, B, b1, b2, c1, c2, hx, hy⟩ := HF.out
  have K1 := hid c1; have K2 := hid c2; have HX := hid hx; have HY := hid hy; have HB1 := hid b1; have HB2 := hid b2
  have b3 : (B == !B) = false := by cases B <;> rfl
  unfold RetE at K1 K2
  clear c1 c2 HF hx hy
  obtain ⟨ha_0, ha_1, ha_2⟩ := (HA.out.ext (xw1.trans xw2)).at3
  go_wp2_with fail
  refine (K1.out _ (hW0.out.trans (xw1.trans xw2))).mono ?_
  rintro _ w3 ⟨vx, rfl, ix, xw3⟩
  clear ha_0 ha_1 ha_2
  have IX := hid ix
  obtain ⟨ax, kx, rfl, _, _, kk⟩ := ix
  clear kk
  obtain ⟨ha_0, ha_1, ha_2⟩ := (HA.out.ext (xw1.trans (xw2.trans xw3))).at3
  go_wp2_with fail
  refine (K2.out _ (hW0.out.trans (xw1.trans (xw2.trans xw3)))).mono ?_
  rintro _ w4 ⟨vy, rfl, iy, xw4⟩
  clear ha_0 ha_1 ha_2
  have IY := hid iy
  obtain ⟨ay, ky, rfl, _, _, kk⟩ := iy
  clear kk
  clear K1 K2
  obtain ⟨ha_0, ha_1, ha_2⟩ := (HA.out.ext (xw1.trans (xw2.trans (xw3.trans xw4)))).at3
  go_upto_if 73 with fail
  go_cut [] from 74 to 120 (fun w' => Ext w4 w')
  case first =>
    clear ha_0 ha_1 ha_2 b1 b2 b3
    cases B with
    | true =>
      obtain ⟨rfl, x1, x2, x3⟩ := HX.out (by trivial)
      have KT := hid fun (W : World) (z : Value) (hW : Ext w W) (hz : Ints .u64 W z x) => x3 ▸ CT.out W z x hW hz x2 x1
      clear x1 x2 x3
      obtain ⟨ha_0, ha_1, ha_2⟩ := (HA.out.ext (xw1.trans (xw2.trans (xw3.trans xw4)))).at3
      go_wp2_with fail
      refine (KT.out _ _ (hW0.out.trans (xw1.trans (xw2.trans (xw3.trans xw4)))) (IX.out.ext xw4)).mono ?_
      rintro _ w5 ⟨vt, rfl, it, xw5⟩
      clear ha_0 ha_1 ha_2
      have IT := hid it
      obtain ⟨at5, kt, rfl, _, _, kk⟩ := it
      clear kk
      rw [Hb.out] at IT ⊢
      go_wp2_with fail
      refine (same_yes _ _ _ _ IT.out (HU.out.ext (hW0.out.trans (xw1.trans (xw2.trans (xw3.trans (xw4.trans xw5))))))).mono ?_
      rintro _ w6 ⟨rfl, xw6⟩
      go_wp2_with fail
      go_meet
      exact (xw5.trans xw6)
    | false =>
      obtain ⟨rfl, y1, y2, y3, d, y4, y5⟩ := HY.out (by trivial)
      have KL := hid fun (W : World) (z : Value) (hW : Ext w W) (hz : Ints .u64 W z y) => y3 ▸ CL.out W z y hW hz y2 y1
      have KD := hid fun (W : World) (z : Value) (hW : Ext w W) (hz : Ints .u64 W z y) => CD.out W z y d hW hz y2 y1 y4
      have bd : (d == 0) = false := by rw [beq_eq_false_iff_ne]; exact y5
      clear y1 y2 y3 y4 y5
      obtain ⟨ha_0, ha_1, ha_2⟩ := (HA.out.ext (xw1.trans (xw2.trans (xw3.trans xw4)))).at3
      go_wp2_with fail
      refine (KL.out _ _ (hW0.out.trans (xw1.trans (xw2.trans (xw3.trans xw4)))) IY.out).mono ?_
      rintro _ w5 ⟨vt, rfl, it, xw5⟩
      clear ha_0 ha_1 ha_2
      have IT := hid it
      obtain ⟨at5, kt, rfl, _, _, kk⟩ := it
      clear kk
      rw [List.length_replicate] at IT ⊢
      go_wp2_with fail
      refine (KD.out _ _ (hW0.out.trans (xw1.trans (xw2.trans (xw3.trans (xw4.trans xw5))))) (IY.out.ext xw5)).mono ?_
      rintro _ w6 ⟨rfl, xw6⟩
      obtain ⟨ha_0, ha_1, ha_2⟩ := (HA.out.ext (xw1.trans (xw2.trans (xw3.trans (xw4.trans (xw5.trans xw6)))))).at3
      go_wp2_with fail
      have xm := (Ext.refl w6).alloc (.cells (madeCells #[Value.int .u64 0] n) 22)
      refine (same_yes _ _ _ _ ((IT.out.ext xw6).ext xm) (Ints.made (Nat.le_refl _) (by omega) rfl)).mono ?_
      rintro _ w7 ⟨rfl, xw7⟩
      go_wp2_with fail
      go_meet
      exact (xw5.trans xw6).trans (xm.trans xw7)
  case rest =>
    clear ha_0 ha_1 ha_2 CL CD
    have xc := hcut
    rename World => W
    cases hvec : vecB p n zs with
    | false =>
      have KN := hid fun (W : World) (hW : Ext w W) => CN.out W hW hvec
      clear hvec
      unfold matV at KN
      obtain ⟨ha_0, ha_1, ha_2⟩ := (HA.out.ext (xw1.trans (xw2.trans (xw3.trans (xw4.trans xc))))).at3
      go_wp2_with fail
      refine (KN.out _ (hW0.out.trans (xw1.trans (xw2.trans (xw3.trans (xw4.trans xc)))))).mono ?_
      rintro _ w8 ⟨rfl, xw8⟩
      clear ha_0 ha_1 ha_2
      go_wp2_with fail
      go_ret
      exact ⟨rfl, (hW0.out.trans (xw1.trans (xw2.trans (xw3.trans (xw4.trans (xc.trans xw8))))))⟩
    | true =>
      obtain ⟨_, hrz, hlz⟩ := vecB_true hzu hvec
      have hlz2 : zs.length = n := by omega
      have KT := hid fun (W : World) (hW : Ext w W) => CT.out W _ zs hW (HZ.out.ext hW) hrz hlz2
      clear hvec hlz hlz2
      obtain ⟨ha_0, ha_1, ha_2⟩ := (HA.out.ext (xw1.trans (xw2.trans (xw3.trans (xw4.trans xc))))).at3
      go_wp2_with fail
      refine (KT.out _ (hW0.out.trans (xw1.trans (xw2.trans (xw3.trans (xw4.trans xc)))))).mono ?_
      rintro _ w8 ⟨vt, rfl, it, xw8⟩
      clear ha_0 ha_1 ha_2
      have IT := hid it
      obtain ⟨at5, kt, rfl, _, _, kk⟩ := it
      clear kk
      obtain ⟨xx, hxx⟩ := CS.out w8 _ zs (hW0.out.trans (xw1.trans (xw2.trans (xw3.trans (xw4.trans (xc.trans xw8)))))) IT.out
      have HXX := hid hxx
      unfold RetE at HXX
      clear hxx
      obtain ⟨ha_0, ha_1, ha_2⟩ := (HA.out.ext (xw1.trans (xw2.trans (xw3.trans (xw4.trans (xc.trans xw8)))))).at3
      go_wp2_with fail
      refine (HXX.out).mono ?_
      rintro _ w9 ⟨vq, rfl, iq, xw9⟩
      clear ha_0 ha_1 ha_2
      obtain ⟨aq, kq, rfl, _, _, kk⟩ := iq
      clear kk
      go_wp2_with fail
      go_ret
      exact ⟨rfl, (hW0.out.trans (xw1.trans (xw2.trans (xw3.trans (xw4.trans (xc.trans (xw8.trans xw9)))))))⟩

/-- the law answers true -/
theorem walk (p r c : Int) (v : Value) (xs : List Int) (u : Value) (b : List Int) (z : Value) (zs : List Int) (w : World) (hp : (Lit.int .u64 p).wf = true) (_ : (Lit.int .i64 r).wf = true) (_ : (Lit.int .i64 c).wf = true) (hv : Ints .u64 w v xs) (hx : ∀ x ∈ xs, (Lit.int .u64 x).wf = true) (hu : Ints .u64 w u b) (hy : ∀ x ∈ b, (Lit.int .u64 x).wf = true) (hz : Ints .u64 w z zs) (hzw : ∀ x ∈ zs, (Lit.int .u64 x).wf = true) :
    Calls Try.prog 4 #[.int .u64 p, .agg #[.int .i64 r, .int .i64 c, v], u, z] w (Ret (.bool true) w) := by
  have hx' : U64s xs := fun x h => u64_wf (hx x h)
  have hy' : U64s b := fun x h => u64_wf (hy x h)
  cases h : goB p r c xs b with
  | false => exact walk_skip p r c v u z xs b w (u64_wf hp).1 (u64_wf hp).2 hv hx' hu hy' h
  | true =>
    unfold goB at h
    simp only [Bool.and_eq_true, decide_eq_true_eq] at h
    obtain ⟨h1, h2, h3, h4, h5⟩ := h
    obtain ⟨m, n, rfl, rfl, ok⟩ := MatOk.of hx' h3
    obtain ⟨_, h6⟩ := hasB_true h4
    exact walk_yes p m n v u z xs b zs w ok (taken_fld h2) h2 h1 (by omega) (fun x hx => ⟨(hy' x hx).1, h6 x hx⟩) hv hu hz fun x hx => u64_wf (hzw x hx)

theorem own : ownKnob Try.prog.godebug = none := by kernel_rfl
set_option maxRecDepth 100000 in
theorem lifted (os : Os) (started : os.Started) (H : Type) (enc : TypeId × Value → H) :
    ReturnsInHanded {} Try.checked os 4 .any (Rows.solveOrSpec.pre6 enc Try.prog Try.f4 Rows.solveOrRow.domain false) (Rows.solveOrSpec.post enc Try.prog Try.f4 false true false false) := by
  refine returnsInHanded_of_change (C := Try.checked) own started (by kernel_rfl) Try.func4
    (ChangeSpec.witness6 (enc := enc) (C := Try.checked) false ⟨#[], #[.int .u64 0, .agg #[.int .i64 0, .int .i64 0, .slice none 0 0], .slice none 0 0, .slice none 0 0], []⟩ 8 (by kernel_rfl) (by kernel_rfl) (by kernel_rfl) (by kernel_rfl)) ?_
  intro W base args ds gs before hval0 hW _ _
  have hval : ∀ (j : Nat) t v, Try.f4.params[j]? = some t → args[j]? = some v → Value.okWide Try.prog W .any base t v := hval0
  have hW' := hW
  obtain ⟨p, q, hA0, hV, rfl, _, _⟩ := hW
  have hA : DataW.TrodAll enc Try.prog W 0 (fun _ => true) true Try.f4.params.toList args.toList ds p := hA0
  rw [Try.params4] at hA hval
  obtain ⟨v0, vs0, d0, ds0, p0, q0, hargs, rfl, rfl, h0, r0⟩ := trodAll_cons hA
  obtain ⟨v1, vs1, d1, ds1, p1, q1, rfl, rfl, rfl, h1, r1⟩ := trodAll_cons r0
  obtain ⟨v2, vs2, d2, ds2, p2, q2, rfl, rfl, rfl, h2, r2⟩ := trodAll_cons r1
  obtain ⟨v3, vs3, d3, ds3, p3, q3, rfl, rfl, rfl, h3, r3⟩ := trodAll_cons r2
  obtain ⟨rfl, rfl, rfl⟩ := trodAll_nil r3
  obtain rfl : args = #[v0, v1, v2, v3] := by cases args; simp_all
  obtain ⟨rfl, rfl⟩ := trodVars_none hV
  obtain ⟨a0, rfl, rfl, rfl, w0⟩ := open_int Try.underlying22 (hval 0 22 v0 rfl rfl) h0
  obtain ⟨mr1, mc1, mu1, xs1, rfl, wr1, wc1, i1, w1⟩ := open_Mat (hval 1 25 v1 rfl rfl) h1
  obtain ⟨xs2, i2, w2⟩ := open_Ints Try.underlying23 Try.underlying22 (by kernel_rfl) (hval 2 23 v2 rfl rfl) h2
  obtain ⟨xs3, i3, w3⟩ := open_Ints Try.underlying23 Try.underlying22 (by kernel_rfl) (hval 3 23 v3 rfl rfl) h3
  refine (walk a0 mr1 mc1 mu1 xs1 v2 xs2 v3 xs3 W w0 wr1 wc1 i1 w1 i2 w2 i3 w3).mono fun e W' ⟨he, hg⟩ => ⟨_, he, ?_⟩
  exact law_post (by kernel_rfl) (by kernel_rfl) rfl Try.underlying4 rfl rfl hW' hg

/-- the statement -/
theorem proved : Rows.SolveOrSaid :=
  OpenClaim.holds_of_wide 4 Try.f4 rfl rfl rfl rfl rfl rfl rfl ⟨rfl, rfl, rfl, rfl, rfl⟩ rfl rfl rfl rfl rfl (by kernel_rfl) Try.func4 (by kernel_rfl)
    (of_decide_eq_true (by kernel_rfl)) (by unfold Func.isWrapper; first | (rw [if_pos (by decide +kernel)]; kernel_rfl) | (rw [if_neg (by decide +kernel)]; exact ⟨rfl, rfl⟩))
    (fun os started H enc _ => lifted os started H enc)
end Go.Proofs.Ytjdbkbbhjiemdaa.solveOr
