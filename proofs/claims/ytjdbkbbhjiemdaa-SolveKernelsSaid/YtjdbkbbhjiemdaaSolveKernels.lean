/- SolveKernels: whatever the number and the matrix, the law answers true, and nothing that was there has turned. No condition. -/
import Derived.Test.YtjdbkbbhjiemdaaSolB6
import Derived.Test.YtjdbkbbhjiemdaaAwake08
import Derived.Test.YtjdbkbbhjiemdaaSolB2
import Derived.Test.YtjdbkbbhjiemdaaOpenMat
import Derived.Test.YtjdbkbbhjiemdaaSame
namespace Go.Proofs.Ytjdbkbbhjiemdaa.solveKernels
open Go.ChangeShapes Go.WideShapes Go.ChangeAt Go.RowKit Go.Maps

/-- does the law go on? -/
noncomputable def goB (p r c : Int) (xs : List Int) : Bool := decide (xs.length ≤ 150) && (takenB p && matB p r c xs)
set_option maxRecDepth 100000 in
set_option maxHeartbeats 2000000 in
theorem walk_skip (p r c : Int) (v : Value) (xs : List Int) (w : World) (h0 : 0 ≤ p) (h1 : p ≤ 18446744073709551615) (hv : Ints .u64 w v xs) (hx : U64s xs) (h : goB p r c xs = false) :
    Calls Try.prog 5 #[.int .u64 p, matV r c v] w (Ret (.bool true) w) := by
  have C1 := hid fun (W : World) => prime_any p W h0
  have C2 := hid fun (W : World) (hW : Ext w W) => mxRight p r c v xs W h0 h1 (hv.ext hW) hx
  unfold goB at h
  obtain ⟨T, e1⟩ : ∃ B, takenB p = B := ⟨_, rfl⟩
  obtain ⟨M, e2⟩ : ∃ B, matB p r c xs = B := ⟨_, rfl⟩
  obtain ⟨K, e5⟩ : ∃ B, decide (xs.length ≤ 150) = B := ⟨_, rfl⟩
  rw [e1] at C1 h; rw [e2] at C2 h; rw [e5] at h
  have t5 : decide (150 < (xs.length : Int)) = !K := by rw [← e5]; by_cases e : xs.length ≤ 150 <;> simp [e] <;> omega
  obtain ⟨a, cap, rfl, k1, k2, k3⟩ := hv
  clear k3 hx e1 e2 e5
  have HA := hid (Blk.new w 25 #[.int .i64 r, .int .i64 c, .slice a xs.length cap])
  have hW0 := hid ((Ext.refl w).alloc (.cells #[.int .i64 r, .int .i64 c, .slice a xs.length cap] 25))
  unfold matV at C2
  unfold matV
  have T5 := hid t5; have H := hid h
  clear t5 h
  cases K with
  | false =>
    as_aux_lemma =>
      have t5 := T5.out
      go_enter Try.func5, Try.ntmps5
      go_wp2_with fail
      refine (awake08 _).mono ?_
      rintro _ w1 ⟨rfl, xw1⟩
      obtain ⟨ha_0, ha_1, ha_2⟩ := (HA.out.ext xw1).at3
      go_wp2_with fail
      go_ret
      exact ⟨rfl, (hW0.out.trans xw1)⟩
  | true =>
    cases T with
    | false =>
      as_aux_lemma =>
        have t5 := T5.out
        go_enter Try.func5, Try.ntmps5
        go_wp2_with fail
        refine (awake08 _).mono ?_
        rintro _ w1 ⟨rfl, xw1⟩
        obtain ⟨ha_0, ha_1, ha_2⟩ := (HA.out.ext xw1).at3
        go_wp2_with fail
        refine (C1.out _).mono ?_
        rintro _ _ ⟨rfl, rfl⟩
        go_wp2_with fail
        go_ret
        exact ⟨rfl, (hW0.out.trans xw1)⟩
    | true =>
      cases M with
      | false =>
        as_aux_lemma =>
          have t5 := T5.out
          go_enter Try.func5, Try.ntmps5
          go_wp2_with fail
          refine (awake08 _).mono ?_
          rintro _ w1 ⟨rfl, xw1⟩
          obtain ⟨ha_0, ha_1, ha_2⟩ := (HA.out.ext xw1).at3
          go_wp2_with fail
          refine (C1.out _).mono ?_
          rintro _ _ ⟨rfl, rfl⟩
          go_wp2_with fail
          refine (C2.out _ (hW0.out.trans xw1)).mono ?_
          rintro _ w2 ⟨rfl, xw2⟩
          clear ha_0 ha_1 ha_2
          go_wp2_with fail
          go_ret
          exact ⟨rfl, (hW0.out.trans (xw1.trans xw2))⟩
      | true =>
        exact absurd H.out (by decide)

/-- what Kernel answers -/
theorem kernels (p : Int) (m n : Nat) (v : Value) (xs : List Int) (w : World) (ok : MatOk p m n xs) (hf : Fld p) (hv : Ints .u64 w v xs) :
    ∃ (e : Int) (x : List Int) (B : Bool), (e == 0) = B ∧ decide (((takeL p m n xs).U.length : Int) < (n : Int)) = B ∧ (∀ W, Ext w W → Calls Try.prog 12 #[.int .u64 p, matV m n v] W (RetE e x W)) ∧ (B = true → x.length = n ∧ Rng p x ∧ timesL p m n xs x = List.replicate m 0 ∧ x ≠ List.replicate n 0) := by
  by_cases h : (takeL p m n xs).U.length < n
  · obtain ⟨x, hx⟩ := IsK.of ok hf h
    exact ⟨0, x, true, rfl, decide_eq_true (by omega), fun W hW => svKernel_yes p m n v xs x W ok hf (hv.ext hW) hx h, fun _ => ⟨hx.len, hx.rng, hx.sol, fun e => by
      have h1 := hx.free
      rw [e, replicate_get] at h1
      omega⟩⟩
  · exact ⟨6, [], false, rfl, decide_eq_false (by omega), fun W hW => svKernel_no p m n v xs W ok hf (hv.ext hW) h, fun h => Bool.noConfusion h⟩
theorem LeOf.of {p : Int} {m n : Nat} {xs : List Int} (ok : MatOk p m n xs) (hf : Fld p) (h : (takeL p m n xs).U.length < m) : ∃ y, LeOf p m n xs y := by
  have ht := takeL_ok (m := m) (n := n) (rightB_true ok.hp).1 hf ok.hx
  have hnd : (takeL p m n xs).rows.Nodup := by
    unfold List.Nodup
    rw [List.pairwise_iff_getElem]
    intro i k hi hk hik e
    have := ht.inc i k hik hk
    simp only [List.getD, List.getElem?_eq_getElem hi, List.getElem?_eq_getElem hk, Option.getD_some] at this
    omega
  have hfr : freeC m (takeL p m n xs).rows < m := (freeC_lt hnd fun c hc => ht.rows_lt hc).2 (by rw [ht.lr]; exact h)
  obtain ⟨y, hy⟩ := IsY.of ok hf hfr (freeC_not hfr)
  exact ⟨y, _, hfr, freeC_not hfr, hy, fun k hk => freeC_low hk⟩
/-- what Left answers -/
theorem lefts (p : Int) (m n : Nat) (v : Value) (xs : List Int) (w : World) (ok : MatOk p m n xs) (hf : Fld p) (hv : Ints .u64 w v xs) :
    ∃ (e : Int) (x : List Int) (B : Bool), (e == 0) = B ∧ decide (((takeL p m n xs).U.length : Int) < (m : Int)) = B ∧ (∀ W, Ext w W → Calls Try.prog 13 #[.int .u64 p, matV m n v] W (RetE e x W)) ∧ (B = true → x.length = m ∧ Rng p x ∧ leftL p m n xs x = List.replicate n 0 ∧ x ≠ List.replicate m 0) := by
  by_cases h : (takeL p m n xs).U.length < m
  · obtain ⟨x, hx⟩ := LeOf.of ok hf h
    have hx2 := hx
    obtain ⟨i, h1, h2, h3, h4⟩ := hx2
    exact ⟨0, x, true, rfl, decide_eq_true (by omega), fun W hW => svLeft_yes p m n v xs x W ok hf (hv.ext hW) hx, fun _ => ⟨h3.len, h3.rng, h3.sol, fun e => by
      have h1 := h3.own
      rw [e, replicate_get] at h1
      omega⟩⟩
  · exact ⟨6, [], false, rfl, decide_eq_false (by omega), fun W hW => svLeft_no p m n v xs W ok hf (hv.ext hW) h, fun h => Bool.noConfusion h⟩
/-- what Rows answers of a row -/
theorem rowss (p : Int) (m n i : Nat) (v : Value) (xs : List Int) (w : World) (ok : MatOk p m n xs) (hf : Fld p) (hv : Ints .u64 w v xs) (hi : i < m) (B : Bool) (hB : B = decide (i ∈ (takeL p m n xs).rows)) :
    (B = true ∧ ∀ W, Ext w W → Calls Try.prog 14 #[.int .u64 p, matV m n v, .int .i64 i] W (RetE 6 [] W)) ∨ (B = false ∧ ∃ y, y.length = m ∧ y.getD i 0 = 1 ∧ ∀ W, Ext w W → Calls Try.prog 14 #[.int .u64 p, matV m n v, .int .i64 i] W (RetE 0 y W)) := by
  by_cases h : i ∈ (takeL p m n xs).rows
  · exact .inl ⟨by rw [hB, decide_eq_true h], fun W hW => svRows_no p m n i v xs W ok hf (hv.ext hW) hi h⟩
  · obtain ⟨y, hy⟩ := IsY.of ok hf hi h
    exact .inr ⟨by rw [hB, decide_eq_false h], y, hy.len, hy.own, fun W hW => svRows_yes p m n i v xs y W ok hf (hv.ext hW) hi h hy⟩
/-- is a number among the first so many? -/
def inB (l : List Nat) (i j : Nat) : Bool := (List.range j).any fun t => decide (l.getD t 0 = i)
theorem inB_succ (l : List Nat) (i j : Nat) : inB l i (j + 1) = (inB l i j || decide (l.getD j 0 = i)) := by
  unfold inB
  rw [List.range_succ, List.any_append]
  simp
theorem inB_all (l : List Nat) (i : Nat) : inB l i l.length = decide (i ∈ l) := by
  unfold inB
  rw [Bool.eq_iff_iff, List.any_eq_true, decide_eq_true_eq]
  constructor
  · rintro ⟨t, ht, e⟩
    rw [List.mem_range] at ht
    rw [decide_eq_true_eq, List.getD, List.getElem?_eq_getElem ht] at e
    rw [← e]
    exact List.getElem_mem ht
  · intro h
    obtain ⟨t, ht, e⟩ := List.getElem_of_mem h
    exact ⟨t, List.mem_range.2 ht, by rw [decide_eq_true_eq, List.getD, List.getElem?_eq_getElem ht]; exact e⟩

set_option maxRecDepth 100000 in
set_option maxHeartbeats 4000000 in
theorem walk_yes (p : Int) (m n : Nat) (v : Value) (xs : List Int) (w : World) (ok : MatOk p m n xs) (hf : Fld p) (hT : takenB p = true) (hlen : xs.length ≤ 150) (hv : Ints .u64 w v xs) :
    Calls Try.prog 5 #[.int .u64 p, matV m n v] w (Ret (.bool true) w) := by
  have hp2 := rightB_true ok.hp
  have C1 := hid fun (W : World) => (hT ▸ prime_any p W (by omega) : Calls Try.prog 9 #[.int .u64 p] W fun e w' => e = .returned (.bool true) ∧ W = w')
  have C2 := hid fun (W : World) (hW : Ext w W) => (ok.b ▸ mxRight p m n v xs W (by omega) (by omega) (hv.ext hW) ok.u64 : Calls Try.prog 23 #[.int .u64 p, matV m n v] W (Ret (.bool true) W))
  have S1 := hid (kernels p m n v xs w ok hf hv)
  have S2 := hid (lefts p m n v xs w ok hf hv)
  have CR := hid fun (W : World) (hW : Ext w W) => cmRank p m n v xs W ok hf (hv.ext hW)
  have CP := hid fun (W : World) (hW : Ext w W) => cmProfile p m n v xs W ok hf (hv.ext hW)
  have CT := hid fun (W : World) (y : Value) (ys : List Int) (hW : Ext w W) (hy : Ints .u64 W y ys) (hry : Rng p ys) (hl : ys.length = n) => mxTimes_yes p m n v y xs ys W ok (hv.ext hW) hy hry hl
  have CL := hid fun (W : World) (y : Value) (ys : List Int) (hW : Ext w W) (hy : Ints .u64 W y ys) (hry : Rng p ys) (hl : ys.length = m) => mxLeft_yes p m n v y xs ys W ok (hv.ext hW) hy hry hl
  have CW := hid fun (i : Nat) (hi : i < m) (B : Bool) (hB : B = decide (i ∈ (takeL p m n xs).rows)) => rowss p m n i v xs w ok hf hv hi B hB
  have hpl := hid (profZ_len ok hf)
  have hlr := hid ((takeL_ok (m := m) (n := n) hp2.1 hf ok.hx).lr)
  have hle := (takeL_ok (m := m) (n := n) hp2.1 hf ok.hx).le
  have HP := hid ok.hp
  have hm := ok.hm; have hn := ok.hn
  have hmk := make_ints (P := Try.prog) 23 22 .u64 8 (by omega) (by kernel_rfl) (by kernel_rfl) n n (Nat.le_refl _) (by omega)
  have hmk2 := make_ints (P := Try.prog) 23 22 .u64 8 (by omega) (by kernel_rfl) (by kernel_rfl) m m (Nat.le_refl _) (by omega)
  have t5 : decide (150 < (xs.length : Int)) = false := decide_eq_false (by omega)
  have t6 : decide (150 < xs.length) = false := decide_eq_false (by omega)
  have hg := hid (show ∀ j, (profZ p m n xs).getD j 0 = ((takeL p m n xs).rows.getD j 0 : Int) from fun j => by
    unfold profZ
    simp only [List.getD, List.getElem?_map]
    cases (takeL p m n xs).rows[j]? <;> rfl)
  obtain ⟨ro, ero⟩ : ∃ l, (takeL p m n xs).rows = l := ⟨_, rfl⟩
  obtain ⟨r, er⟩ : ∃ r, (takeL p m n xs).U.length = r := ⟨_, rfl⟩
  rw [er] at S1 S2 CR hpl hlr hle
  rw [ero] at CW hg hlr
  obtain ⟨pz, epz⟩ : ∃ l, profZ p m n xs = l := ⟨_, rfl⟩
  rw [epz] at CP hpl hg
  clear ok hf hT hlen ero er epz
  obtain ⟨a, cap, rfl, k1, k2, k3⟩ := hv
  clear k3
  have HA := hid (Blk.new w 25 #[.int .i64 (m : Int), .int .i64 (n : Int), .slice a xs.length cap])
  have hW0 := hid ((Ext.refl w).alloc (.cells #[.int .i64 (m : Int), .int .i64 (n : Int), .slice a xs.length cap] 25))
  unfold matV at C2 CT CL S1 S2 CR CP CW
  unfold matV
  go_enter Try.func5, Try.ntmps5
  go_wp2_with fail
  refine (awake08 _).mono ?_
  rintro _ w1 ⟨rfl, xw1⟩
  obtain ⟨ha_0, ha_1, ha_2⟩ := (HA.out.ext xw1).at3
  go_wp2_with fail
  refine (C1.out _).mono ?_
  rintro _ _ ⟨rfl, rfl⟩
  go_wp2_with fail
  refine (C2.out _ (hW0.out.trans xw1)).mono ?_
  rintro _ w2 ⟨rfl, xw2⟩
  clear ha_0 ha_1 ha_2 C1 C2
  obtain ⟨ha_0, ha_1, ha_2⟩ := (HA.out.ext (xw1.trans xw2)).at3
  go_wp2_with fail
  refine (CR.out _ (hW0.out.trans (xw1.trans xw2))).mono ?_
  rintro _ w3 ⟨rfl, xw3⟩
  clear ha_0 ha_1 ha_2
  obtain ⟨e1, x, B, b1, b2, c1, hx⟩ := S1.out
  obtain ⟨e2, y, D, d1, d2, c2, hy⟩ := S2.out
  have K1 := hid c1; have K2 := hid c2; have HXf := hid hx; have HYf := hid hy
  have b3 : decide (r < n) = B := by rw [← b2]; exact decide_eq_decide.2 (by omega)
  have d3 : decide (r < m) = D := by rw [← d2]; exact decide_eq_decide.2 (by omega)
  have n1 : (B != B) = false := by cases B <;> rfl
  have n2 : (D != D) = false := by cases D <;> rfl
  unfold RetE at K1 K2
  clear c1 c2 hx hy S1 S2
  obtain ⟨ha_0, ha_1, ha_2⟩ := (HA.out.ext (xw1.trans (xw2.trans xw3))).at3
  go_wp2_with fail
  refine (K1.out _ (hW0.out.trans (xw1.trans (xw2.trans xw3)))).mono ?_
  rintro _ w4 ⟨vx, rfl, ix, xw4⟩
  clear ha_0 ha_1 ha_2
  have IX := hid ix
  obtain ⟨ax, kx, rfl, _, _, kk⟩ := ix
  clear kk
  obtain ⟨ha_0, ha_1, ha_2⟩ := (HA.out.ext (xw1.trans (xw2.trans (xw3.trans xw4)))).at3
  go_wp2_with fail
  refine (K2.out _ (hW0.out.trans (xw1.trans (xw2.trans (xw3.trans xw4))))).mono ?_
  rintro _ w5 ⟨vy, rfl, iy, xw5⟩
  clear ha_0 ha_1 ha_2
  have IY := hid iy
  obtain ⟨ay, ky, rfl, _, _, kk⟩ := iy
  clear kk
  clear K1 K2
  obtain ⟨ha_0, ha_1, ha_2⟩ := (HA.out.ext (xw1.trans (xw2.trans (xw3.trans (xw4.trans xw5))))).at3
  go_upto_if 74 with fail
  go_cut [] from 75 to 98 (fun w' => Ext w5 w')
  case first =>
    clear ha_0 ha_1 ha_2 b2 b3 d1 d2 d3 n1 n2
    cases B with
    | false =>
      go_wp2_with fail
      go_meet
      exact Ext.refl _
    | true =>
      obtain ⟨x1, x2, x3, x4⟩ := HXf.out rfl
      have KT := hid fun (W : World) (z : Value) (hW : Ext w W) (hz : Ints .u64 W z x) => x3 ▸ CT.out W z x hW hz x2 x1
      have hne := hid x4
      unfold RetV at KT
      clear x1 x2 x3 x4 HXf
      obtain ⟨ha_0, ha_1, ha_2⟩ := (HA.out.ext (xw1.trans (xw2.trans (xw3.trans (xw4.trans xw5))))).at3
      go_wp2_with fail
      refine (KT.out _ _ (hW0.out.trans (xw1.trans (xw2.trans (xw3.trans (xw4.trans xw5))))) (IX.out.ext xw5)).mono ?_
      rintro _ w6 ⟨vt, rfl, it, xw6⟩
      clear ha_0 ha_1 ha_2
      have IT := hid it
      obtain ⟨at6, kt, rfl, _, _, kk⟩ := it
      clear kk
      rw [List.length_replicate] at IT ⊢
      obtain ⟨ha_0, ha_1, ha_2⟩ := (HA.out.ext (xw1.trans (xw2.trans (xw3.trans (xw4.trans (xw5.trans xw6)))))).at3
      go_wp2_with fail
      have xm := (Ext.refl w6).alloc (.cells (madeCells #[Value.int .u64 0] m) 22)
      refine (same_yes _ _ _ _ (IT.out.ext xm) (Ints.made (Nat.le_refl _) (by omega) rfl)).mono ?_
      rintro _ w7 ⟨rfl, xw7⟩
      clear ha_0 ha_1 ha_2
      obtain ⟨ha_0, ha_1, ha_2⟩ := (HA.out.ext (xw1.trans (xw2.trans (xw3.trans (xw4.trans (xw5.trans (xw6.trans (xm.trans xw7)))))))).at3
      go_wp2_with fail
      have xm2 := (Ext.refl w7).alloc (.cells (madeCells #[Value.int .u64 0] n) 22)
      refine (decide_eq_false hne.out ▸ same_any _ _ _ _ _ ((IX.out.ext (xw5.trans (xw6.trans (xm.trans xw7)))).ext xm2) (Ints.made (Nat.le_refl _) (by omega) rfl) : Calls Try.prog 19 _ _ (Ret (.bool false) _)).mono ?_
      rintro _ w8 ⟨rfl, xw8⟩
      clear ha_0 ha_1 ha_2
      go_wp2_with fail
      go_meet
      exact (xw6.trans ((xm.trans xw7).trans (xm2.trans xw8)))
  case rest =>
    clear ha_0 ha_1 ha_2 b1 b2 b3 n1 HXf
    have xc := hcut
    rename World => W1
    obtain ⟨ha_0, ha_1, ha_2⟩ := (HA.out.ext (xw1.trans (xw2.trans (xw3.trans (xw4.trans (xw5.trans xc)))))).at3
    go_upto_if 100 with fail
    go_cut [] from 101 to 124 (fun w' => Ext W1 w')
    case first =>
      clear ha_0 ha_1 ha_2 d2 d3 n2
      cases D with
      | false =>
        go_wp2_with fail
        go_meet
        exact Ext.refl _
      | true =>
        obtain ⟨x1, x2, x3, x4⟩ := HYf.out rfl
        have KT := hid fun (W : World) (z : Value) (hW : Ext w W) (hz : Ints .u64 W z y) => x3 ▸ CL.out W z y hW hz x2 x1
        have hne := hid x4
        unfold RetV at KT
        clear x1 x2 x3 x4 HYf
        obtain ⟨ha_0, ha_1, ha_2⟩ := (HA.out.ext (xw1.trans (xw2.trans (xw3.trans (xw4.trans (xw5.trans xc)))))).at3
        go_wp2_with fail
        refine (KT.out _ _ (hW0.out.trans (xw1.trans (xw2.trans (xw3.trans (xw4.trans (xw5.trans xc)))))) (IY.out.ext xc)).mono ?_
        rintro _ w6 ⟨vt, rfl, it, xw6⟩
        clear ha_0 ha_1 ha_2
        have IT := hid it
        obtain ⟨at6, kt, rfl, _, _, kk⟩ := it
        clear kk
        rw [List.length_replicate] at IT ⊢
        obtain ⟨ha_0, ha_1, ha_2⟩ := (HA.out.ext (xw1.trans (xw2.trans (xw3.trans (xw4.trans (xw5.trans (xc.trans xw6))))))).at3
        go_wp2_with fail
        have xm := (Ext.refl w6).alloc (.cells (madeCells #[Value.int .u64 0] n) 22)
        refine (same_yes _ _ _ _ (IT.out.ext xm) (Ints.made (Nat.le_refl _) (by omega) rfl)).mono ?_
        rintro _ w7 ⟨rfl, xw7⟩
        clear ha_0 ha_1 ha_2
        obtain ⟨ha_0, ha_1, ha_2⟩ := (HA.out.ext (xw1.trans (xw2.trans (xw3.trans (xw4.trans (xw5.trans (xc.trans (xw6.trans (xm.trans xw7))))))))).at3
        go_wp2_with fail
        have xm2 := (Ext.refl w7).alloc (.cells (madeCells #[Value.int .u64 0] m) 22)
        refine (decide_eq_false hne.out ▸ same_any _ _ _ _ _ ((IY.out.ext (xc.trans (xw6.trans (xm.trans xw7)))).ext xm2) (Ints.made (Nat.le_refl _) (by omega) rfl) : Calls Try.prog 19 _ _ (Ret (.bool false) _)).mono ?_
        rintro _ w8 ⟨rfl, xw8⟩
        clear ha_0 ha_1 ha_2
        go_wp2_with fail
        go_meet
        exact (xw6.trans ((xm.trans xw7).trans (xm2.trans xw8)))
    case rest =>
      clear ha_0 ha_1 ha_2 d1 d2 d3 n2 HYf CT CL CR
      have xc2 := hcut
      rename World => W2
      unfold RetVI at CP
      obtain ⟨ha_0, ha_1, ha_2⟩ := (HA.out.ext (xw1.trans (xw2.trans (xw3.trans (xw4.trans (xw5.trans (xc.trans xc2))))))).at3
      go_wp2_with fail
      refine (CP.out _ (hW0.out.trans (xw1.trans (xw2.trans (xw3.trans (xw4.trans (xw5.trans (xc.trans xc2)))))))).mono ?_
      rintro _ W3 ⟨vo, rfl, io, xW3⟩
      clear ha_0 ha_1 ha_2
      obtain ⟨ao, ko, rfl, ko1, ko2, KO⟩ := io
      have KO := hid KO
      rw [hpl.out] at KO ko1 ⊢
      clear CP
      obtain ⟨ha_0, ha_1, ha_2⟩ := (HA.out.ext (xw1.trans (xw2.trans (xw3.trans (xw4.trans (xw5.trans (xc.trans (xc2.trans xW3)))))))).at3
      go_wp2_with fail
      clear ha_0 ha_1 ha_2
      go_loopw [17] (fun iv wr => ∃ i : Nat, iv = .int .i64 i ∧ i ≤ m ∧ Hid (Ext W3 wr)) (fun iv _ => m - (intOf iv).toNat)
      case atStart => exact ⟨0, rfl, Nat.zero_le _, hid (Ext.refl _)⟩
      case round =>
        obtain ⟨i, rfl, hi, hxi⟩ := hrel
        rename World => W4
        obtain ⟨ha_0, ha_1, ha_2⟩ := (HA.out.ext (xw1.trans (xw2.trans (xw3.trans (xw4.trans (xw5.trans (xc.trans (xc2.trans (xW3.trans hxi.out))))))))).at3
        by_cases hlt : i < m
        · go_wp2_with fail
          clear ha_0 ha_1 ha_2
          go_loopw [19, 18] (fun jv bv wj => ∃ (j : Nat) (B : Bool), jv = .int .i64 j ∧ bv = .bool B ∧ j ≤ r ∧ Hid (B = inB ro i j) ∧ Hid (Ext W4 wj)) (fun jv _ _ => r - (intOf jv).toNat)
          case atStart => exact ⟨0, false, rfl, rfl, Nat.zero_le _, hid rfl, hid (Ext.refl _)⟩
          case round =>
            obtain ⟨j, B, rfl, rfl, hj, hB, hxj⟩ := hrel
            rename World => W5
            by_cases hlj : j < r
            · obtain ⟨bo, oo, rfl, hbo, kco⟩ := KO.out (by omega)
              have go := (Ext.cells (hxi.out.trans hxj.out) _ _ hbo).trans (kco j hlj)
              have hgj := hg.out j
              have hs := inB_succ ro i j
              rw [← hB.out] at hs
              rw [hgj] at go
              obtain ⟨t, et⟩ : ∃ t, ro.getD j 0 = t := ⟨_, rfl⟩
              rw [et] at go hs
              have Hs := hid hs
              clear kco hgj hs et
              cases B with
              | true =>
                go_wp2_with fail
                go_roundw
                case rel => exact ⟨j + 1, true, by go_num, rfl, by omega, hid (by rw [Hs.out]; rfl), hxj⟩
                case measure => simp [intOf]; omega
              | false =>
                by_cases hti : t = i
                · have b6 : ((t : Int) == (i : Int)) = true := by rw [beq_iff_eq]; omega
                  have Hti := hid hti
                  clear hti
                  go_wp2_with fail
                  go_roundw
                  case rel => exact ⟨j + 1, true, by go_num, rfl, by omega, hid (by rw [Hs.out, decide_eq_true Hti.out]; rfl), hxj⟩
                  case measure => simp [intOf]; omega
                · have b6 : ((t : Int) == (i : Int)) = false := by rw [beq_eq_false_iff_ne]; omega
                  have Hti := hid hti
                  clear hti
                  go_wp2_with fail
                  go_roundw
                  case rel => exact ⟨j + 1, false, by go_num, rfl, by omega, hid (by rw [Hs.out, decide_eq_false Hti.out]; rfl), hxj⟩
                  case measure => simp [intOf]; omega
            · obtain rfl : r = j := by omega
              have hBi := hB.out
              rw [show inB ro i r = decide (i ∈ ro) by rw [← inB_all, hlr.out]] at hBi
              have HW := hid (CW.out i hlt B hBi)
              have HWc := HW.out
              clear hBi hB HW
              rcases HWc with ⟨rfl, c3⟩ | ⟨rfl, z, z1, z2, c3⟩
              · have K3 := hid c3
                unfold RetE at K3
                clear c3
                obtain ⟨ha_0, ha_1, ha_2⟩ := (HA.out.ext (xw1.trans (xw2.trans (xw3.trans (xw4.trans (xw5.trans (xc.trans (xc2.trans (xW3.trans (hxi.out.trans hxj.out)))))))))).at3
                go_wp2_with fail
                refine (K3.out _ (hW0.out.trans (xw1.trans (xw2.trans (xw3.trans (xw4.trans (xw5.trans (xc.trans (xc2.trans (xW3.trans (hxi.out.trans hxj.out))))))))))).mono ?_
                rintro _ W6 ⟨vz, rfl, iz, xW6⟩
                clear ha_0 ha_1 ha_2
                obtain ⟨ha_0, ha_1, ha_2⟩ := (HA.out.ext (xw1.trans (xw2.trans (xw3.trans (xw4.trans (xw5.trans (xc.trans (xc2.trans (xW3.trans (hxi.out.trans (hxj.out.trans xW6))))))))))).at3
                go_wp2_with fail
                go_roundw
                case rel => exact ⟨i + 1, by go_num, by omega, hid (hxi.out.trans (hxj.out.trans xW6))⟩
                case measure => simp [intOf]; omega
              · have K3 := hid c3; have Z2 := hid z2; have Z1 := hid z1
                unfold RetE at K3
                clear c3 z2 z1
                obtain ⟨ha_0, ha_1, ha_2⟩ := (HA.out.ext (xw1.trans (xw2.trans (xw3.trans (xw4.trans (xw5.trans (xc.trans (xc2.trans (xW3.trans (hxi.out.trans hxj.out)))))))))).at3
                go_wp2_with fail
                refine (K3.out _ (hW0.out.trans (xw1.trans (xw2.trans (xw3.trans (xw4.trans (xw5.trans (xc.trans (xc2.trans (xW3.trans (hxi.out.trans hxj.out))))))))))).mono ?_
                rintro _ W6 ⟨vz, rfl, iz, xW6⟩
                clear ha_0 ha_1 ha_2
                obtain ⟨az, kz, rfl, _, _, KZ⟩ := iz
                rw [Z1.out] at KZ ⊢
                obtain ⟨bz, oz, rfl, hbz, kcz⟩ := KZ (by omega)
                have gz := kcz i hlt
                rw [Z2.out] at gz
                clear kcz KZ
                obtain ⟨ha_0, ha_1, ha_2⟩ := (HA.out.ext (xw1.trans (xw2.trans (xw3.trans (xw4.trans (xw5.trans (xc.trans (xc2.trans (xW3.trans (hxi.out.trans (hxj.out.trans xW6))))))))))).at3
                have t4 : ((m : Int) != (m : Int)) = false := by simp
                go_wp2_with fail
                go_roundw
                case rel => exact ⟨i + 1, by go_num, by omega, hid (hxi.out.trans (hxj.out.trans xW6))⟩
                case measure => simp [intOf]; omega
        · obtain rfl : m = i := by omega
          go_wp2_with fail
          go_ret
          exact ⟨rfl, (hW0.out.trans (xw1.trans (xw2.trans (xw3.trans (xw4.trans (xw5.trans (xc.trans (xc2.trans (xW3.trans hxi.out)))))))))⟩

/-- the law answers true -/
theorem walk (p r c : Int) (v : Value) (xs : List Int) (w : World) (hp : (Lit.int .u64 p).wf = true) (_ : (Lit.int .i64 r).wf = true) (_ : (Lit.int .i64 c).wf = true) (hv : Ints .u64 w v xs) (hx : ∀ x ∈ xs, (Lit.int .u64 x).wf = true) :
    Calls Try.prog 5 #[.int .u64 p, .agg #[.int .i64 r, .int .i64 c, v]] w (Ret (.bool true) w) := by
  have hx' : U64s xs := fun x h => u64_wf (hx x h)
  cases h : goB p r c xs with
  | false => exact walk_skip p r c v xs w (u64_wf hp).1 (u64_wf hp).2 hv hx' h
  | true =>
    unfold goB at h
    simp only [Bool.and_eq_true, decide_eq_true_eq] at h
    obtain ⟨h1, h2, h3⟩ := h
    obtain ⟨m, n, rfl, rfl, ok⟩ := MatOk.of hx' h3
    exact walk_yes p m n v xs w ok (taken_fld h2) h2 h1 hv

theorem own : ownKnob Try.prog.godebug = none := by kernel_rfl
set_option maxRecDepth 100000 in
theorem lifted (os : Os) (started : os.Started) (H : Type) (enc : TypeId × Value → H) :
    ReturnsInHanded {} Try.checked os 5 .any (Rows.solveKernelsSpec.pre6 enc Try.prog Try.f5 Rows.solveKernelsRow.domain false) (Rows.solveKernelsSpec.post enc Try.prog Try.f5 false true false false) := by
  refine returnsInHanded_of_change (C := Try.checked) own started (by kernel_rfl) Try.func5
    (ChangeSpec.witness6 (enc := enc) (C := Try.checked) false ⟨#[], #[.int .u64 0, .agg #[.int .i64 0, .int .i64 0, .slice none 0 0]], []⟩ 8 (by kernel_rfl) (by kernel_rfl) (by kernel_rfl) (by kernel_rfl)) ?_
  intro W base args ds gs before hval0 hW _ _
  have hval : ∀ (j : Nat) t v, Try.f5.params[j]? = some t → args[j]? = some v → Value.okWide Try.prog W .any base t v := hval0
  have hW' := hW
  obtain ⟨p, q, hA0, hV, rfl, _, _⟩ := hW
  have hA : DataW.TrodAll enc Try.prog W 0 (fun _ => true) true Try.f5.params.toList args.toList ds p := hA0
  rw [Try.params5] at hA hval
  obtain ⟨v0, vs0, d0, ds0, p0, q0, hargs, rfl, rfl, h0, r0⟩ := trodAll_cons hA
  obtain ⟨v1, vs1, d1, ds1, p1, q1, rfl, rfl, rfl, h1, r1⟩ := trodAll_cons r0
  obtain ⟨rfl, rfl, rfl⟩ := trodAll_nil r1
  obtain rfl : args = #[v0, v1] := by cases args; simp_all
  obtain ⟨rfl, rfl⟩ := trodVars_none hV
  obtain ⟨a0, rfl, rfl, rfl, w0⟩ := open_int Try.underlying22 (hval 0 22 v0 rfl rfl) h0
  obtain ⟨mr1, mc1, mu1, xs1, rfl, wr1, wc1, i1, w1⟩ := open_Mat (hval 1 25 v1 rfl rfl) h1
  refine (walk a0 mr1 mc1 mu1 xs1 W w0 wr1 wc1 i1 w1).mono fun e W' ⟨he, hg⟩ => ⟨_, he, ?_⟩
  exact law_post (by kernel_rfl) (by kernel_rfl) rfl Try.underlying4 rfl rfl hW' hg

/-- the statement -/
theorem proved : Rows.SolveKernelsSaid :=
  OpenClaim.holds_of_wide 5 Try.f5 rfl rfl rfl rfl rfl rfl rfl ⟨rfl, rfl, rfl, rfl, rfl⟩ rfl rfl rfl rfl rfl (by kernel_rfl) Try.func5 (by kernel_rfl)
    (of_decide_eq_true (by kernel_rfl)) (by unfold Func.isWrapper; first | (rw [if_pos (by decide +kernel)]; kernel_rfl) | (rw [if_neg (by decide +kernel)]; exact ⟨rfl, rfl⟩))
    (fun os started H enc _ => lifted os started H enc)
end Go.Proofs.Ytjdbkbbhjiemdaa.solveKernels
