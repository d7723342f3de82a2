/- CupMakes: whatever the number and the matrix, the law answers true, and nothing that was there has turned. No condition. -/
import Derived.Test.YtlcempbeecdimaaCupB4
import Derived.Test.YtlcempbeecdimaaOpenMat
import Derived.Test.YtlcempbeecdimaaCupB2
namespace Go.Proofs.Ytlcempbeecdimaa.cupMakes
open Go.ChangeShapes Go.WideShapes Go.ChangeAt Go.RowKit Go.Maps

set_option maxRecDepth 100000 in
set_option maxHeartbeats 1000000 in
theorem walk_skip (p r c : Int) (v : Value) (xs : List Int) (w : World) (h0 : 0 ≤ p) (h1 : p ≤ 18446744073709551615) (hv : Ints .u64 w v xs) (hx : U64s xs) (h : smB p r c xs 150 = false) :
    Calls Try.prog 4 #[.int .u64 p, matV r c v] w (Ret (.bool true) w) := by
  have C1 := hid fun (W : World) (hW : Ext w W) => (h ▸ small07 p r c v xs 150 W h0 h1 (hv.ext hW) hx : Calls Try.prog 13 #[.int .u64 p, matV r c v, .int .i64 (150 : Nat)] W (Ret (.bool false) W))
  obtain ⟨a, cap, rfl, k1, k2, k3⟩ := hv
  clear k3 hx h
  have HA := hid (Blk.new w 25 #[.int .i64 r, .int .i64 c, .slice a xs.length cap])
  have hW0 := hid ((Ext.refl w).alloc (.cells #[.int .i64 r, .int .i64 c, .slice a xs.length cap] 25))
  unfold matV at C1
  unfold matV
  go_enter Try.func4, Try.ntmps4
  go_wp2_with fail
  refine (awake07 _).mono ?_
  rintro _ w1 ⟨rfl, x1⟩
  obtain ⟨a0, a1, a2⟩ := (HA.out.ext x1).at3
  go_wp2_with fail
  refine (C1.out _ (hW0.out.trans x1)).mono ?_
  rintro _ w2 ⟨rfl, x2⟩
  go_wp2_with fail
  go_ret
  exact ⟨rfl, hW0.out.trans (x1.trans x2)⟩

/-- a row of a list of rows, where it lies -/
theorem UsL.at_ {w : World} {b off cap r n : Nat} {U : List (List Int)} (h : UsL w (.slice (some ⟨b, off, none⟩) r cap) U) (hr : U.length = r) (hn : ∀ k, k < r → (U.getD k []).length = n) (h0 : 0 < n) (hr0 : 0 < r) :
    b < w.heap.size ∧ ∀ k, k < r → ∃ bu ou cu, n ≤ cu ∧ cu ≤ 9223372036854775807 ∧ bu < w.heap.size ∧ w.cell? ⟨b, off + k, none⟩ = some (.slice (some ⟨bu, ou, none⟩) n cu) ∧ ∀ j, j < n → w.cell? ⟨bu, ou + j, none⟩ = some (.int .u64 ((U.getD k []).getD j 0)) := by
  obtain ⟨a, c, e, h1, h2, h3⟩ := h
  injection e with e1 e2 e3
  subst e1
  obtain ⟨b', off', e, hb, hc⟩ := h3 (by omega)
  injection e with e
  injection e with e4 e5
  subst e4; subst e5
  refine ⟨hb, fun k hk => ?_⟩
  obtain ⟨u, c1, ⟨a2, cu, rfl, d1, d2, d3⟩⟩ := hc k (by omega)
  rw [hn k hk] at c1 d1 d3
  obtain ⟨bu, ou, rfl, hbu, hcu⟩ := d3 h0
  exact ⟨bu, ou, cu, d1, d2, hbu, c1, hcu⟩

/-- what the law asks of the parts -/
structure Asked (n r : Nat) (rows cols : List Int) (U : List (List Int)) (c s : Nat → Nat) : Prop where
  lr : rows.length = r
  lk : cols.length = r
  lu : U.length = r
  row : ∀ k, k < r → (U.getD k []).length = n
  col : ∀ k, k < r → cols.getD k 0 = c k ∧ c k < n
  num : ∀ k, k < r → rows.getD k 0 = s k ∧ s k < 64
  own : ∀ k, k < r → (U.getD k []).getD (c k) 0 ≠ 0
  zero : ∀ k j, k < r → j < k → (U.getD k []).getD (c j) 0 = 0 ∧ c j ≠ c k ∧ s j < s k
  low : ∀ k j, k < r → j < c k → (U.getD k []).getD j 0 = 0
theorem asked {p : Int} {m n : Nat} {xs : List Int} (ok : MatOk p m n xs) (hf : Fld p) : Asked n (takeL p m n xs).U.length (profZ p m n xs) (colsZ (takeL p m n xs)) (takeL p m n xs).U (fun k => (takeL p m n xs).cols.getD k 0) (fun k => (takeL p m n xs).rows.getD k 0) := by
  have hp := (rightB_true ok.hp).1
  have h := takeL_ok (m := m) (n := n) hp hf ok.hx
  have hm := ok.hm
  have hmap : ∀ (l : List Nat) (k : Nat), k < l.length → (l.map fun k : Nat => (k : Int)).getD k 0 = (l.getD k 0 : Nat) := fun l k hk => by
    simp [List.getD, List.getElem?_map, List.getElem?_eq_getElem hk]
  refine ⟨profZ_len ok hf, colsZ_len ok hf, rfl, fun k hk => (h.row k hk).1, fun k hk => ⟨hmap _ _ (by rw [h.lk]; exact hk), (h.row k hk).2.2.1⟩, fun k hk => ⟨hmap _ _ (by rw [h.lr]; exact hk), ?_⟩, fun k hk => (h.row k hk).2.2.2.2.2, fun k j hk hj => ⟨h.zero k j hj hk, fun e => ?_, h.inc j k hj (by rw [h.lr]; exact hk)⟩, fun k j hk hj => (h.row k hk).2.2.2.2.1 j hj⟩
  · have := h.low k (by rw [h.lr]; exact hk)
    omega
  · have := h.ech.inj (show j < _ by omega) hk e
    omega

set_option maxRecDepth 100000 in
set_option maxHeartbeats 4000000 in
theorem walk_zero (p : Int) (m n : Nat) (v : Value) (xs : List Int) (w : World) (ok : MatOk p m n xs) (hf : Fld p) (hs : smB p m n xs 150 = true) (hv : Ints .u64 w v xs) (hr0 : (takeL p m n xs).U.length = 0) :
    Calls Try.prog 4 #[.int .u64 p, matV m n v] w (Ret (.bool true) w) := by
  have hp2 := rightB_true ok.hp
  have C1 := hid fun (W : World) (hW : Ext w W) => (hs ▸ small07 p m n v xs 150 W (by omega) (by omega) (hv.ext hW) ok.u64 : Calls Try.prog 13 #[.int .u64 p, matV m n v, .int .i64 (150 : Nat)] W (Ret (.bool true) W))
  have C2 := hid fun (W : World) (hW : Ext w W) => cmTake p m n v xs W ok hf (hv.ext hW)
  have C3 := hid fun (W : World) (v1 v2 v3 v4 : Value) (h1 : Ints .i64 W v1 (profZ p m n xs)) (h2 : Ints .i64 W v2 (colsZ (takeL p m n xs))) (h3 : UsL W v3 ((takeL p m n xs).C.map (padL (takeL p m n xs).U.length))) (h4 : UsL W v4 (takeL p m n xs).U) => (make_take hp2.1 hf ok.hx ok.hl ok.hn.1 (takeL p m n xs).U.length ▸ cmMake p m n _ _ _ _ v1 v2 v3 v4 W (take_parts ok hf) h1 h2 h3 h4 : Calls Try.prog 15 #[.int .u64 p, .agg #[v1, v2, v3, v4], .int .i64 m, .int .i64 n] W (RetN m n xs W))
  have C4 := hid fun (W : World) (u : Value) (hW : Ext w W) (hu : Ints .u64 W u xs) => (show Calls Try.prog 16 #[matV m n u, matV m n v] W (Ret (.bool true) W) from by
    have h := rmSame m n m n u v xs xs W hu (hv.ext hW)
    rwa [decide_eq_true (show (m : Int) = m ∧ (n : Int) = n ∧ xs = xs from ⟨rfl, rfl, rfl⟩)] at h)
  have C5 := hid fun (W : World) (hW : Ext w W) => cmMinor_no p m n v xs W ok hf (hv.ext hW) hr0
  have HQ := hid (asked ok hf)
  have hrm : (takeL p m n xs).U.length ≤ m := (takeL_ok (m := m) (n := n) hp2.1 hf ok.hx).le
  have hrn : (takeL p m n xs).U.length ≤ n := by rw [← rank_turn hp2.1 hf ok.hx]; exact (takeL_ok (p := p) (m := n) (n := m) (xs := turnL m n xs) hp2.1 hf (turnL_rng hp2.1 ok.hx m n)).le
  generalize (fun k => (takeL p m n xs).cols.getD k 0) = c at HQ
  generalize (fun k => (takeL p m n xs).rows.getD k 0) = s at HQ
  generalize (takeL p m n xs).C.map (padL (takeL p m n xs).U.length) = CC at C2 C3
  generalize colsZ (takeL p m n xs) = PC at C2 C3 HQ
  generalize profZ p m n xs = PR at C2 C3 HQ
  generalize (takeL p m n xs).U = UU at C2 C3 HQ hrm hrn hr0
  obtain ⟨r, hr⟩ : ∃ r, UU.length = r := ⟨_, rfl⟩
  rw [hr] at HQ hrm hrn hr0
  subst hr0
  have hm := ok.hm; have hn := ok.hn
  have Hr := hid hr
  clear hr ok hf hs
  obtain ⟨a, cap, rfl, k1, k2, k3⟩ := hv
  clear k3
  have HA := hid (Blk.new w 25 #[.int .i64 (m : Int), .int .i64 (n : Int), .slice a xs.length cap])
  have hW0 := hid ((Ext.refl w).alloc (.cells #[.int .i64 (m : Int), .int .i64 (n : Int), .slice a xs.length cap] 25))
  unfold matV at C1 C2 C4 C5
  unfold RetN matV at C3
  unfold matV
  go_enter Try.func4, Try.ntmps4
  go_wp2_with fail
  refine (awake07 _).mono ?_
  rintro _ w1 ⟨rfl, xw1⟩
  obtain ⟨ha_0, ha_1, ha_2⟩ := (HA.out.ext xw1).at3
  go_wp2_with fail
  refine (C1.out _ (hW0.out.trans xw1)).mono ?_
  rintro _ w2 ⟨rfl, xw2⟩
  clear ha_0 ha_1 ha_2
  obtain ⟨ha_0, ha_1, ha_2⟩ := (HA.out.ext (xw1.trans xw2)).at3
  go_wp2_with fail
  refine (C2.out _ (hW0.out.trans (xw1.trans xw2))).mono ?_
  rintro _ w3 ⟨rv, cv, Cv, Uv, rfl, i1, i2, i3, i4, xw3⟩
  clear ha_0 ha_1 ha_2
  have I1 := hid i1; have I2 := hid i2; have I3 := hid i3; have I4 := hid i4
  obtain ⟨a1, c1, rfl, _, _, kk⟩ := i1
  clear kk
  obtain ⟨a2, c2, rfl, _, _, kk⟩ := i2
  clear kk
  obtain ⟨a3, c3, rfl, _, _, kk⟩ := i3
  clear kk
  obtain ⟨a4, c4, rfl, _, _, kk⟩ := i4
  clear kk
  rw [HQ.out.lr] at I1 ⊢
  rw [HQ.out.lk] at I2 ⊢
  rw [HQ.out.lu] at I4 ⊢
  have z5 := (Ext.refl w3).alloc (.cells #[.slice a1 0 c1, .slice a2 0 c2, .slice a3 CC.length c3, .slice a4 0 c4] 37)
  have HC := hid (Blk.new w3 37 #[.slice a1 0 c1, .slice a2 0 c2, .slice a3 CC.length c3, .slice a4 0 c4])
  obtain ⟨ha_0, ha_1, ha_2⟩ := (HA.out.ext (xw1.trans (xw2.trans (xw3.trans z5)))).at3
  obtain ⟨hc_0, hc_1, hc_2, hc_3⟩ := HC.out.at4
  go_wp2_with fail
  refine (C3.out _ _ _ _ _ (I1.out.ext z5) (I2.out.ext z5) (I3.out.ext z5) (I4.out.ext z5)).mono ?_
  rintro _ w4 ⟨u5, rfl, i5, xw4⟩
  clear ha_0 ha_1 ha_2 hc_0 hc_1 hc_2 hc_3
  have I5 := hid i5
  obtain ⟨a5, c5, rfl, _, _, kk⟩ := i5
  clear kk
  have z7 := (Ext.refl w4).alloc (.cells #[.int .i64 (m : Int), .int .i64 (n : Int), .slice a5 xs.length c5] 25)
  have HN := hid (Blk.new w4 25 #[.int .i64 (m : Int), .int .i64 (n : Int), .slice a5 xs.length c5])
  obtain ⟨ha_0, ha_1, ha_2⟩ := (HA.out.ext (xw1.trans (xw2.trans (xw3.trans (z5.trans (xw4.trans z7)))))).at3
  obtain ⟨hc_0, hc_1, hc_2, hc_3⟩ := (HC.out.ext (xw4.trans z7)).at4
  obtain ⟨hn_0, hn_1, hn_2⟩ := HN.out.at3
  go_upto_region 7 with fail
  go_cut [78] from 38 to 78 (fun s w' => s = .bool false ∧ Ext (w4.alloc (.cells #[.int .i64 (m : Int), .int .i64 (n : Int), .slice a5 xs.length c5] 25)) w')
  case first =>
    have b1 : ((0 : Int) != (0 : Int)) = false := by simp
    have b2 : decide (n < 0) = false := decide_eq_false (by omega)
    have b3 : decide (m < 0) = false := decide_eq_false (by omega)
    go_wp2_with fail
    refine (C4.out _ _ (hW0.out.trans (xw1.trans (xw2.trans (xw3.trans (z5.trans (xw4.trans z7)))))) (I5.out.ext z7)).mono ?_
    rintro _ w5 ⟨rfl, x5⟩
    clear ha_0 ha_1 ha_2 hc_0 hc_1 hc_2 hc_3 hn_0 hn_1 hn_2
    obtain ⟨ha_0, ha_1, ha_2⟩ := (HA.out.ext (xw1.trans (xw2.trans (xw3.trans (z5.trans (xw4.trans (z7.trans x5))))))).at3
    obtain ⟨hc_0, hc_1, hc_2, hc_3⟩ := (HC.out.ext (xw4.trans (z7.trans x5))).at4
    go_wp2_with fail
    all_goals
      go_wp2_with fail
      go_meet
      first
        | exact ⟨rfl, x5⟩
        | exact ⟨congrArg Value.bool (decide_eq_false (by omega)), x5⟩
  case rest =>
    clear ha_0 ha_1 ha_2 hc_0 hc_1 hc_2 hc_3 hn_0 hn_1 hn_2 C4
    obtain ⟨rfl, xc⟩ := hcut
    rename World => W6
    obtain ⟨hc_0, hc_1, hc_2, hc_3⟩ := (HC.out.ext (xw4.trans (z7.trans xc))).at4
    go_wp2_with fail
    go_loopw [9] (fun kv wr => kv = .int .i64 0 ∧ Ext W6 wr) (fun _ _ => 0)
    case atStart => exact ⟨rfl, Ext.refl _⟩
    case round =>
      clear hc_0 hc_1 hc_2 hc_3
      obtain ⟨rfl, xr⟩ := hrel
      rename World => W7
      obtain ⟨ha_0, ha_1, ha_2⟩ := (HA.out.ext (xw1.trans (xw2.trans (xw3.trans (z5.trans (xw4.trans (z7.trans (xc.trans xr)))))))).at3
      obtain ⟨hc_0, hc_1, hc_2, hc_3⟩ := (HC.out.ext (xw4.trans (z7.trans (xc.trans xr)))).at4
      go_wp2_with fail
      refine (C5.out _ (hW0.out.trans (xw1.trans (xw2.trans (xw3.trans (z5.trans (xw4.trans (z7.trans (xc.trans xr))))))))).mono ?_
      rintro _ w8 ⟨rfl, xw8⟩
      clear ha_0 ha_1 ha_2 hc_0 hc_1 hc_2 hc_3
      have z11 := (Ext.refl w8).alloc (.cells #[.int .i64 0, .int .i64 0, .slice none 0 0] 25)
      have HO := hid (Blk.new w8 25 #[.int .i64 0, .int .i64 0, .slice none 0 0])
      obtain ⟨hc_0, hc_1, hc_2, hc_3⟩ := (HC.out.ext (xw4.trans (z7.trans (xc.trans (xr.trans (xw8.trans z11)))))).at4
      go_wp2_with fail
      go_ret
      exact ⟨rfl, (hW0.out.trans (xw1.trans (xw2.trans (xw3.trans (z5.trans (xw4.trans (z7.trans (xc.trans (xr.trans (xw8.trans z11))))))))))⟩

set_option maxRecDepth 100000 in
set_option maxHeartbeats 4000000 in
theorem walk_pos (p : Int) (m n : Nat) (v : Value) (xs : List Int) (w : World) (ok : MatOk p m n xs) (hf : Fld p) (hs : smB p m n xs 150 = true) (hv : Ints .u64 w v xs) (hr0 : 0 < (takeL p m n xs).U.length) :
    Calls Try.prog 4 #[.int .u64 p, matV m n v] w (Ret (.bool true) w) := by
  have hp2 := rightB_true ok.hp
  have C1 := hid fun (W : World) (hW : Ext w W) => (hs ▸ small07 p m n v xs 150 W (by omega) (by omega) (hv.ext hW) ok.u64 : Calls Try.prog 13 #[.int .u64 p, matV m n v, .int .i64 (150 : Nat)] W (Ret (.bool true) W))
  have C2 := hid fun (W : World) (hW : Ext w W) => cmTake p m n v xs W ok hf (hv.ext hW)
  have C3 := hid fun (W : World) (v1 v2 v3 v4 : Value) (h1 : Ints .i64 W v1 (profZ p m n xs)) (h2 : Ints .i64 W v2 (colsZ (takeL p m n xs))) (h3 : UsL W v3 ((takeL p m n xs).C.map (padL (takeL p m n xs).U.length))) (h4 : UsL W v4 (takeL p m n xs).U) => (make_take hp2.1 hf ok.hx ok.hl ok.hn.1 (takeL p m n xs).U.length ▸ cmMake p m n _ _ _ _ v1 v2 v3 v4 W (take_parts ok hf) h1 h2 h3 h4 : Calls Try.prog 15 #[.int .u64 p, .agg #[v1, v2, v3, v4], .int .i64 m, .int .i64 n] W (RetN m n xs W))
  have C4 := hid fun (W : World) (u : Value) (hW : Ext w W) (hu : Ints .u64 W u xs) => (show Calls Try.prog 16 #[matV m n u, matV m n v] W (Ret (.bool true) W) from by
    have h := rmSame m n m n u v xs xs W hu (hv.ext hW)
    rwa [decide_eq_true (show (m : Int) = m ∧ (n : Int) = n ∧ xs = xs from ⟨rfl, rfl, rfl⟩)] at h)
  have C5 := hid fun (W : World) (hW : Ext w W) => cmMinor_yes p m n v xs W ok hf (hv.ext hW) hr0
  have okO : MatOk p (takeL p m n xs).U.length (takeL p m n xs).U.length (minorL p m n xs) := by
    have hle := (takeL_ok (m := m) (n := n) hp2.1 hf ok.hx).le
    have := ok.hm
    exact ⟨ok.hp, minorL_rng hp2.1 ok.hx, ⟨hr0, by omega⟩, ⟨hr0, by omega⟩, minorL_len⟩
  have hDne := minor_det (m := m) (n := n) hp2.1 hf ok.hx
  have C6 := hid fun (W : World) (u : Value) (hu : Ints .u64 W u (minorL p m n xs)) => (show Calls Try.prog 10 #[.int .u64 p, matV (takeL p m n xs).U.length (takeL p m n xs).U.length u] W (Ret (.tuple #[.int .u64 (detF (takeL p m n xs).U.length (atF (takeL p m n xs).U.length (minorL p m n xs)) % p), .int .i64 0]) W) from by
    have h := cmDet p (takeL p m n xs).U.length (takeL p m n xs).U.length u (minorL p m n xs) W (by omega) (by omega) hu okO.u64 fun _ => hf
    unfold detV detErr at h
    rwa [okO.b, decide_eq_true (rfl : ((takeL p m n xs).U.length : Int) = _), if_pos (by rfl), if_pos (by rfl), Int.toNat_natCast] at h)
  obtain ⟨D, hD⟩ : ∃ D, detF (takeL p m n xs).U.length (atF (takeL p m n xs).U.length (minorL p m n xs)) % p = D := ⟨_, rfl⟩
  rw [hD] at C6 hDne
  have hD0 : D ≠ 0 := fun h => hDne h
  clear hD hDne okO
  have HQ := hid (asked ok hf)
  have hrm : (takeL p m n xs).U.length ≤ m := (takeL_ok (m := m) (n := n) hp2.1 hf ok.hx).le
  have hrn : (takeL p m n xs).U.length ≤ n := by rw [← rank_turn hp2.1 hf ok.hx]; exact (takeL_ok (p := p) (m := n) (n := m) (xs := turnL m n xs) hp2.1 hf (turnL_rng hp2.1 ok.hx m n)).le
  generalize (fun k => (takeL p m n xs).cols.getD k 0) = c at HQ
  generalize (fun k => (takeL p m n xs).rows.getD k 0) = s at HQ
  generalize (takeL p m n xs).C.map (padL (takeL p m n xs).U.length) = CC at C2 C3
  generalize colsZ (takeL p m n xs) = PC at C2 C3 HQ
  generalize profZ p m n xs = PR at C2 C3 HQ
  generalize minorL p m n xs = OO at C5 C6
  generalize (takeL p m n xs).U = UU at C2 C3 HQ hrm hrn hr0 C5 C6
  obtain ⟨r, hr⟩ : ∃ r, UU.length = r := ⟨_, rfl⟩
  rw [hr] at HQ hrm hrn hr0 C5 C6
  have hm := ok.hm; have hn := ok.hn
  have Hr := hid hr
  clear hr ok hf hs
  obtain ⟨a, cap, rfl, k1, k2, k3⟩ := hv
  clear k3
  have HA := hid (Blk.new w 25 #[.int .i64 (m : Int), .int .i64 (n : Int), .slice a xs.length cap])
  have hW0 := hid ((Ext.refl w).alloc (.cells #[.int .i64 (m : Int), .int .i64 (n : Int), .slice a xs.length cap] 25))
  unfold matV at C1 C2 C4 C6
  unfold RetN matV at C3 C5
  unfold matV
  go_enter Try.func4, Try.ntmps4
  go_wp2_with fail
  refine (awake07 _).mono ?_
  rintro _ w1 ⟨rfl, xw1⟩
  obtain ⟨ha_0, ha_1, ha_2⟩ := (HA.out.ext xw1).at3
  go_wp2_with fail
  refine (C1.out _ (hW0.out.trans xw1)).mono ?_
  rintro _ w2 ⟨rfl, xw2⟩
  clear ha_0 ha_1 ha_2
  obtain ⟨ha_0, ha_1, ha_2⟩ := (HA.out.ext (xw1.trans xw2)).at3
  go_wp2_with fail
  refine (C2.out _ (hW0.out.trans (xw1.trans xw2))).mono ?_
  rintro _ w3 ⟨rv, cv, Cv, Uv, rfl, i1, i2, i3, i4, xw3⟩
  clear ha_0 ha_1 ha_2
  have I1 := hid i1; have I2 := hid i2; have I3 := hid i3; have I4 := hid i4
  have hUr := HQ.out.row
  obtain ⟨a1, c1, rfl, d1, e1, kk⟩ := i1
  rw [HQ.out.lr] at d1 kk I1 ⊢
  obtain ⟨b1, o1, rfl, f1, g1⟩ := kk hr0
  clear kk
  obtain ⟨a2, c2, rfl, d2, e2, kk⟩ := i2
  rw [HQ.out.lk] at d2 kk I2 ⊢
  obtain ⟨b2, o2, rfl, f2, g2⟩ := kk hr0
  clear kk
  obtain ⟨a3, c3, rfl, _, _, kk⟩ := i3
  clear kk
  obtain ⟨a4, c4, rfl, d4, e4, kk⟩ := i4
  rw [HQ.out.lu] at d4 kk I4 ⊢
  obtain ⟨b4, o4, rfl, f4, _⟩ := kk hr0
  clear kk
  have GR := hid fun (k : Nat) (hk : k < r) (W : World) (hW : Ext w3 W) => ((hW.cells _ _ f1).trans ((HQ.out.num k hk).1 ▸ g1 k hk) : W.cell? ⟨b1, o1 + k, none⟩ = some (.int .i64 (s k : Nat)))
  have GC := hid fun (k : Nat) (hk : k < r) (W : World) (hW : Ext w3 W) => ((hW.cells _ _ f2).trans ((HQ.out.col k hk).1 ▸ g2 k hk) : W.cell? ⟨b2, o2 + k, none⟩ = some (.int .i64 (c k : Nat)))
  have GU := hid fun (k : Nat) (hk : k < r) => (show ∃ bu ou cu, n ≤ cu ∧ ∀ W, Ext w3 W → W.cell? ⟨b4, o4 + k, none⟩ = some (.slice (some ⟨bu, ou, none⟩) n cu) ∧ ∀ j, j < n → W.cell? ⟨bu, ou + j, none⟩ = some (.int .u64 ((UU.getD k []).getD j 0)) from by
    obtain ⟨bu, ou, cu, h1, h2, h3, h4, h5⟩ := (UsL.at_ I4.out HQ.out.lu hUr (by omega) hr0).2 k hk
    exact ⟨bu, ou, cu, h1, fun W hW => ⟨(hW.cells _ _ f4).trans h4, fun j hj => (hW.cells _ _ h3).trans (h5 j hj)⟩⟩)
  clear g1 g2 f1 f2 f4 hUr
  have z5 := (Ext.refl w3).alloc (.cells #[.slice (some ⟨b1, o1, none⟩) r c1, .slice (some ⟨b2, o2, none⟩) r c2, .slice a3 CC.length c3, .slice (some ⟨b4, o4, none⟩) r c4] 37)
  have HC := hid (Blk.new w3 37 #[.slice (some ⟨b1, o1, none⟩) r c1, .slice (some ⟨b2, o2, none⟩) r c2, .slice a3 CC.length c3, .slice (some ⟨b4, o4, none⟩) r c4])
  obtain ⟨ha_0, ha_1, ha_2⟩ := (HA.out.ext (xw1.trans (xw2.trans (xw3.trans z5)))).at3
  obtain ⟨hc_0, hc_1, hc_2, hc_3⟩ := HC.out.at4
  go_wp2_with fail
  refine (C3.out _ _ _ _ _ (I1.out.ext z5) (I2.out.ext z5) (I3.out.ext z5) (I4.out.ext z5)).mono ?_
  rintro _ w4 ⟨u5, rfl, i5, xw4⟩
  clear ha_0 ha_1 ha_2 hc_0 hc_1 hc_2 hc_3
  have I5 := hid i5
  obtain ⟨a5, c5, rfl, _, _, kk⟩ := i5
  clear kk
  have z7 := (Ext.refl w4).alloc (.cells #[.int .i64 (m : Int), .int .i64 (n : Int), .slice a5 xs.length c5] 25)
  have HN := hid (Blk.new w4 25 #[.int .i64 (m : Int), .int .i64 (n : Int), .slice a5 xs.length c5])
  obtain ⟨ha_0, ha_1, ha_2⟩ := (HA.out.ext (xw1.trans (xw2.trans (xw3.trans (z5.trans (xw4.trans z7)))))).at3
  obtain ⟨hc_0, hc_1, hc_2, hc_3⟩ := (HC.out.ext (xw4.trans z7)).at4
  obtain ⟨hn_0, hn_1, hn_2⟩ := HN.out.at3
  go_upto_region 7 with fail
  go_cut [78] from 38 to 78 (fun s w' => s = .bool false ∧ Ext (w4.alloc (.cells #[.int .i64 (m : Int), .int .i64 (n : Int), .slice a5 xs.length c5] 25)) w')
  case first =>
    have b1 : ((r : Int) != (r : Int)) = false := by simp
    have b2 : decide (n < r) = false := decide_eq_false (by omega)
    have b3 : decide (m < r) = false := decide_eq_false (by omega)
    go_wp2_with fail
    refine (C4.out _ _ (hW0.out.trans (xw1.trans (xw2.trans (xw3.trans (z5.trans (xw4.trans z7)))))) (I5.out.ext z7)).mono ?_
    rintro _ w5 ⟨rfl, x5⟩
    clear ha_0 ha_1 ha_2 hc_0 hc_1 hc_2 hc_3 hn_0 hn_1 hn_2
    obtain ⟨ha_0, ha_1, ha_2⟩ := (HA.out.ext (xw1.trans (xw2.trans (xw3.trans (z5.trans (xw4.trans (z7.trans x5))))))).at3
    obtain ⟨hc_0, hc_1, hc_2, hc_3⟩ := (HC.out.ext (xw4.trans (z7.trans x5))).at4
    go_wp2_with fail
    all_goals
      go_wp2_with fail
      go_meet
      first
        | exact ⟨rfl, x5⟩
        | exact ⟨congrArg Value.bool (decide_eq_false (by omega)), x5⟩
  case rest =>
    clear ha_0 ha_1 ha_2 hc_0 hc_1 hc_2 hc_3 hn_0 hn_1 hn_2 C4
    obtain ⟨rfl, xc⟩ := hcut
    rename World => W6
    have bD : (D != 0) = true := by rw [bne_iff_ne]; exact hD0
    clear hD0
    obtain ⟨hc_0, hc_1, hc_2, hc_3⟩ := (HC.out.ext (xw4.trans (z7.trans xc))).at4
    go_wp2_with fail
    go_loopw [9] (fun kv wr => ∃ k : Nat, kv = .int .i64 k ∧ k ≤ r ∧ Ext W6 wr) (fun kv _ => r - (intOf kv).toNat)
    case atStart => exact ⟨0, rfl, Nat.zero_le _, Ext.refl _⟩
    case round =>
      clear hc_0 hc_1 hc_2 hc_3
      obtain ⟨k, rfl, hk, xr⟩ := hrel
      rename World => W7
      obtain ⟨ha_0, ha_1, ha_2⟩ := (HA.out.ext (xw1.trans (xw2.trans (xw3.trans (z5.trans (xw4.trans (z7.trans (xc.trans xr)))))))).at3
      obtain ⟨hc_0, hc_1, hc_2, hc_3⟩ := (HC.out.ext (xw4.trans (z7.trans (xc.trans xr)))).at4
      by_cases hlt : k < r
      · have E7 := hid (show Ext w3 W7 from (z5.trans (xw4.trans (z7.trans (xc.trans xr)))))
        have gC := GC.out k hlt W7 E7.out
        obtain ⟨bu, ou, cu, hcu, hU⟩ := GU.out k hlt
        have HU := hid hU
        obtain ⟨gU, gUj⟩ := hU W7 E7.out
        have hck := (HQ.out.col k hlt).2
        have hown := HQ.out.own k hlt
        have hzero := hid fun (j : Nat) (hj : j < k) => HQ.out.zero k j hlt hj
        have hlow := hid fun (j : Nat) (hj : j < c k) => HQ.out.low k j hlt hj
        have hcj := hid fun (j : Nat) (hj : j < k) => HQ.out.col j (show j < r by omega)
        obtain ⟨ck, eck⟩ : ∃ x, c k = x := ⟨_, rfl⟩
        rw [eck] at gC hck hown hlow
        have gy := gUj ck hck
        obtain ⟨y, ey⟩ : ∃ y, (UU.getD k []).getD ck 0 = y := ⟨_, rfl⟩
        rw [ey] at gy hown
        have by0 : (y == 0) = false := by rw [beq_eq_false_iff_ne]; exact hown
        have t1 : decide ((ck : Int) < 0) = false := decide_eq_false (by omega)
        have t2 : decide ((n : Int) ≤ (ck : Int)) = false := decide_eq_false (by omega)
        have Eck := hid eck
        clear gUj hU eck ey hown
        go_wp2_with fail
        go_quiet (fail)
        go_wp2_with fail
        clear ha_0 ha_1 ha_2 hc_0 hc_1 hc_2 hc_3 gC gU gy
        go_loopw [10] (fun jv wr => ∃ j : Nat, jv = .int .i64 j ∧ j ≤ k ∧ Ext W7 wr) (fun jv _ => k - (intOf jv).toNat)
        case atStart => exact ⟨0, rfl, Nat.zero_le _, (Ext.refl _).drewN _⟩
        case round =>
          obtain ⟨j, rfl, hj, xj⟩ := hrel
          rename World => W8
          obtain ⟨ha_0, ha_1, ha_2⟩ := (HA.out.ext (xw1.trans (xw2.trans (xw3.trans (z5.trans (xw4.trans (z7.trans (xc.trans (xr.trans xj))))))))).at3
          obtain ⟨hc_0, hc_1, hc_2, hc_3⟩ := (HC.out.ext (xw4.trans (z7.trans (xc.trans (xr.trans xj))))).at4
          have E8 := hid (show Ext w3 W8 from E7.out.trans xj)
          have gC := (Eck.out ▸ GC.out k hlt W8 E8.out : W8.cell? ⟨b2, o2 + k, none⟩ = some (.int .i64 (ck : Nat)))
          obtain ⟨gU, gUj⟩ := HU.out W8 E8.out
          by_cases hltj : j < k
          · have gCj := GC.out j (by omega) W8 E8.out
            have gRj := GR.out j (by omega) W8 E8.out
            have gRk := GR.out k hlt W8 E8.out
            obtain ⟨z1, z2, z3⟩ := hzero.out j hltj
            have hcj2 := (hcj.out j hltj).2
            rw [Eck.out] at z2
            obtain ⟨cj, ecj⟩ : ∃ x, c j = x := ⟨_, rfl⟩
            rw [ecj] at gCj z1 z2 hcj2
            have gz := gUj cj hcj2
            rw [z1] at gz
            obtain ⟨sj, esj⟩ : ∃ x, s j = x := ⟨_, rfl⟩
            obtain ⟨sk, esk⟩ : ∃ x, s k = x := ⟨_, rfl⟩
            rw [esj] at gRj z3
            rw [esk] at gRk z3
            have u1 : ((cj : Int) == (ck : Int)) = false := by rw [beq_eq_false_iff_ne]; omega
            have u2 : decide ((sk : Int) ≤ (sj : Int)) = false := decide_eq_false (by omega)
            have u3 : decide (sk ≤ sj) = false := decide_eq_false (by omega)
            have hjr : j < r := by omega
            clear gUj z1 z2 z3 ecj esj esk by0 t1 t2
            go_wp2_with fail
            go_quiet (fail)
            go_wp2_with fail
            go_roundw
            case rel => exact ⟨j + 1, by go_num, by omega, xj.drewN _⟩
            case measure => simp [intOf]; omega
          · obtain rfl : j = k := by omega
            go_wp2_with fail
            clear gC gU gUj ha_0 ha_1 ha_2 hc_0 hc_1 hc_2 hc_3
            go_loopw [11] (fun iv wr => ∃ i : Nat, iv = .int .i64 i ∧ i ≤ ck ∧ Ext W8 wr) (fun iv _ => ck - (intOf iv).toNat)
            case atStart => exact ⟨0, rfl, Nat.zero_le _, Ext.refl _⟩
            case round =>
              obtain ⟨i, rfl, hi, xi⟩ := hrel
              rename World => W9
              have E9 := hid (show Ext w3 W9 from E8.out.trans xi)
              have gC := (Eck.out ▸ GC.out j hlt W9 E9.out : W9.cell? ⟨b2, o2 + j, none⟩ = some (.int .i64 (ck : Nat)))
              obtain ⟨gU, gUj⟩ := HU.out W9 E9.out
              obtain ⟨ha_0, ha_1, ha_2⟩ := (HA.out.ext (xw1.trans (xw2.trans (xw3.trans (z5.trans (xw4.trans (z7.trans (xc.trans (xr.trans (xj.trans xi)))))))))).at3
              obtain ⟨hc_0, hc_1, hc_2, hc_3⟩ := (HC.out.ext (xw4.trans (z7.trans (xc.trans (xr.trans (xj.trans xi)))))).at4
              by_cases hlti : i < ck
              · have gz := gUj i (by omega)
                rw [hlow.out i hlti] at gz
                clear gUj
                go_wp2_with fail
                go_roundw
                case rel => exact ⟨i + 1, by go_num, by omega, xi⟩
                case measure => simp [intOf]; omega
              · obtain rfl : i = ck := by omega
                clear gUj
                go_wp2_with fail
                go_roundw
                case rel => exact ⟨j + 1, by go_num, by omega, xr.trans (xj.trans xi)⟩
                case measure => simp [intOf]; omega
      · obtain rfl : k = r := by omega
        clear ha_0 ha_1 ha_2 hc_0 hc_1 hc_2 hc_3
        obtain ⟨ha_0, ha_1, ha_2⟩ := (HA.out.ext (xw1.trans (xw2.trans (xw3.trans (z5.trans (xw4.trans (z7.trans (xc.trans xr)))))))).at3
        obtain ⟨hc_0, hc_1, hc_2, hc_3⟩ := (HC.out.ext (xw4.trans (z7.trans (xc.trans xr)))).at4
        go_wp2_with fail
        refine (C5.out _ (hW0.out.trans (xw1.trans (xw2.trans (xw3.trans (z5.trans (xw4.trans (z7.trans (xc.trans xr))))))))).mono ?_
        rintro _ w8 ⟨u8, rfl, i8, xw8⟩
        clear ha_0 ha_1 ha_2 hc_0 hc_1 hc_2 hc_3
        have I8 := hid i8
        obtain ⟨a8, c8, rfl, _, _, kk⟩ := i8
        clear kk
        have z11 := (Ext.refl w8).alloc (.cells #[.int .i64 (k : Int), .int .i64 (k : Int), .slice a8 OO.length c8] 25)
        have HO := hid (Blk.new w8 25 #[.int .i64 (k : Int), .int .i64 (k : Int), .slice a8 OO.length c8])
        have bk : ((k : Int) == 0) = false := by rw [beq_eq_false_iff_ne]; omega
        obtain ⟨hc_0, hc_1, hc_2, hc_3⟩ := (HC.out.ext (xw4.trans (z7.trans (xc.trans (xr.trans (xw8.trans z11)))))).at4
        obtain ⟨ho_0, ho_1, ho_2⟩ := HO.out.at3
        go_wp2_with fail
        refine (C6.out _ _ (I8.out.ext z11)).mono ?_
        rintro _ w9 ⟨rfl, xw9⟩
        clear hc_0 hc_1 hc_2 hc_3 ho_0 ho_1 ho_2
        obtain ⟨hc_0, hc_1, hc_2, hc_3⟩ := (HC.out.ext (xw4.trans (z7.trans (xc.trans (xr.trans (xw8.trans (z11.trans xw9))))))).at4
        obtain ⟨ho_0, ho_1, ho_2⟩ := (HO.out.ext xw9).at3
        go_wp2_with fail
        go_ret
        exact ⟨rfl, (hW0.out.trans (xw1.trans (xw2.trans (xw3.trans (z5.trans (xw4.trans (z7.trans (xc.trans (xr.trans (xw8.trans (z11.trans xw9)))))))))))⟩

/-- the law answers true -/
theorem walk (p r c : Int) (v : Value) (xs : List Int) (w : World) (hp : (Lit.int .u64 p).wf = true) (_ : (Lit.int .i64 r).wf = true) (_ : (Lit.int .i64 c).wf = true) (hv : Ints .u64 w v xs) (hx : ∀ x ∈ xs, (Lit.int .u64 x).wf = true) :
    Calls Try.prog 4 #[.int .u64 p, .agg #[.int .i64 r, .int .i64 c, v]] w (Ret (.bool true) w) := by
  have hx' : U64s xs := fun x h => u64_wf (hx x h)
  cases h : smB p r c xs 150 with
  | false => exact walk_skip p r c v xs w (u64_wf hp).1 (u64_wf hp).2 hv hx' h
  | true =>
    have h2 := h
    unfold smB at h2
    simp only [Bool.and_eq_true] at h2
    obtain ⟨m, n, rfl, rfl, ok⟩ := MatOk.of hx' h2.2.2
    rcases Nat.eq_zero_or_pos (takeL p m n xs).U.length with h0 | h0
    · exact walk_zero p m n v xs w ok (taken_fld h2.2.1) h hv h0
    · exact walk_pos p m n v xs w ok (taken_fld h2.2.1) h hv h0

theorem own : ownKnob Try.prog.godebug = none := by kernel_rfl
set_option maxRecDepth 100000 in
theorem lifted (os : Os) (started : os.Started) (H : Type) (enc : TypeId × Value → H) :
    ReturnsInHanded {} Try.checked os 4 .any (Rows.cupMakesSpec.pre6 enc Try.prog Try.f4 Rows.cupMakesRow.domain false) (Rows.cupMakesSpec.post enc Try.prog Try.f4 false true false false) := by
  refine returnsInHanded_of_change (C := Try.checked) own started (by kernel_rfl) Try.func4
    (ChangeSpec.witness6 (enc := enc) (C := Try.checked) false ⟨#[], #[.int .u64 0, .agg #[.int .i64 0, .int .i64 0, .slice none 0 0]], []⟩ 8 (by kernel_rfl) (by kernel_rfl) (by kernel_rfl) (by kernel_rfl)) ?_
  intro W base args ds gs before hval0 hW _ _
  have hval : ∀ (j : Nat) t v, Try.f4.params[j]? = some t → args[j]? = some v → Value.okWide Try.prog W .any base t v := hval0
  have hW' := hW
  obtain ⟨p, q, hA0, hV, rfl, _, _⟩ := hW
  have hA : DataW.TrodAll enc Try.prog W 0 (fun _ => true) true Try.f4.params.toList args.toList ds p := hA0
  rw [Try.params4] at hA hval
  obtain ⟨v0, vs0, d0, ds0, p0, q0, hargs, rfl, rfl, h0, r0⟩ := trodAll_cons hA
  obtain ⟨v1, vs1, d1, ds1, p1, q1, rfl, rfl, rfl, h1, r1⟩ := trodAll_cons r0
  obtain ⟨rfl, rfl, rfl⟩ := trodAll_nil r1
  obtain rfl : args = #[v0, v1] := by cases args; simp_all
  obtain ⟨rfl, rfl⟩ := trodVars_none hV
  obtain ⟨a0, rfl, rfl, rfl, w0⟩ := open_int Try.underlying22 (hval 0 22 v0 rfl rfl) h0
  obtain ⟨mr1, mc1, mu1, xs1, rfl, wr1, wc1, i1, w1⟩ := open_Mat (hval 1 25 v1 rfl rfl) h1
  refine (walk a0 mr1 mc1 mu1 xs1 W w0 wr1 wc1 i1 w1).mono fun e W' ⟨he, hg⟩ => ⟨_, he, ?_⟩
  exact law_post (by kernel_rfl) (by kernel_rfl) rfl Try.underlying4 rfl rfl hW' hg

/-- the statement -/
theorem proved : Rows.CupMakesSaid :=
  OpenClaim.holds_of_wide 4 Try.f4 rfl rfl rfl rfl rfl rfl rfl ⟨rfl, rfl, rfl, rfl, rfl⟩ rfl rfl rfl rfl rfl (by kernel_rfl) Try.func4 (by kernel_rfl)
    (of_decide_eq_true (by kernel_rfl)) (by unfold Func.isWrapper; first | (rw [if_pos (by decide +kernel)]; kernel_rfl) | (rw [if_neg (by decide +kernel)]; exact ⟨rfl, rfl⟩))
    (fun os started H enc _ => lifted os started H enc)
end Go.Proofs.Ytlcempbeecdimaa.cupMakes
