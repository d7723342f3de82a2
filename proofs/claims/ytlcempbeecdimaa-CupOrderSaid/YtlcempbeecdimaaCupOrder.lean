/- CupOrder: whatever the number, the matrix and the order, the law answers true, and nothing that was there has turned. No condition. -/
import Derived.Test.YtlcempbeecdimaaCupB4
import Derived.Test.YtlcempbeecdimaaOpenMat
import Derived.Test.YtlcempbeecdimaaCupO
import Derived.Test.YtlcempbeecdimaaCupB6
import Derived.Test.YtlcempbeecdimaaPm6
import Derived.Test.YtlcempbeecdimaaCupB7
import Derived.Test.YtlcempbeecdimaaStep
import Derived.Deep.RegionHeld3
namespace Go.Proofs.Ytlcempbeecdimaa.cupOrder
open Go.ChangeShapes Go.WideShapes Go.ChangeAt Go.RowKit Go.Maps

theorem ownsRow_slice {w : World} {base : Nat} {e : TypeId} {size n : Nat} {v : Value} {xs : List Value} (h : w.ownsRow base e size v n xs) : ∃ a c, v = .slice a n c := by
  rcases h.2 with ⟨rfl, h0⟩ | ⟨g, cap, cur, rfl, _⟩
  · exact ⟨none, 0, by rw [h0]⟩
  · exact ⟨_, _, rfl⟩
set_option maxRecDepth 100000 in
set_option maxHeartbeats 1000000 in
theorem walk_skip (p r c : Int) (v u : Value) (xs : List Int) (w : World) (h0 : 0 ≤ p) (h1 : p ≤ 18446744073709551615) (hv : Ints .u64 w v xs) (hx : U64s xs) (h : smB p r c xs 100 = false) :
    Calls Try.prog 7 #[.int .u64 p, matV r c v, u] w (Ret (.bool true) w) := by
  have C1 := hid fun (W : World) (hW : Ext w W) => (h ▸ small07 p r c v xs 100 W h0 h1 (hv.ext hW) hx : Calls Try.prog 13 #[.int .u64 p, matV r c v, .int .i64 (100 : Nat)] W (Ret (.bool false) W))
  obtain ⟨a, cap, rfl, k1, k2, k3⟩ := hv
  clear k3 hx h
  have HA := hid (Blk.new w 25 #[.int .i64 r, .int .i64 c, .slice a xs.length cap])
  have hW0 := hid ((Ext.refl w).alloc (.cells #[.int .i64 r, .int .i64 c, .slice a xs.length cap] 25))
  unfold matV at C1
  unfold matV
  go_enter Try.func7, Try.ntmps7
  go_wp2_with fail
  refine (awake07 _).mono ?_
  rintro _ w1 ⟨rfl, x1⟩
  obtain ⟨a0, a1, a2⟩ := (HA.out.ext x1).at3
  go_wp2_with fail
  refine (C1.out _ (hW0.out.trans x1)).mono ?_
  rintro _ w2 ⟨rfl, x2⟩
  go_wp2_with fail
  go_ret
  exact ⟨rfl, hW0.out.trans (x1.trans x2)⟩

/-- what a law asks of a determinant -/
theorem det_call {p : Int} {n : Nat} {xs : List Int} (ok : MatOk p n n xs) (hf : Fld p) (W : World) (v : Value) (hv : Ints .u64 W v xs) : Calls Try.prog 10 #[.int .u64 p, matV n n v] W (Ret (.tuple #[.int .u64 (detF n (atF n xs) % p), .int .i64 0]) W) := by
  have hp2 := rightB_true ok.hp
  have h := cmDet p n n v xs W (by omega) (by omega) hv ok.u64 fun _ => hf
  unfold detV detErr at h
  rwa [ok.b, decide_eq_true (rfl : (n : Int) = n), if_pos (by rfl), if_pos (by rfl), Int.toNat_natCast] at h
theorem ord_i64 {o : List Int} {n : Nat} (h : Ord n o) (hn : n ≤ 64) : I64s o := fun x hx => by have := h.mem hx; omega

set_option maxRecDepth 100000 in
set_option maxHeartbeats 4000000 in
theorem walk_yes (p : Int) (m n : Nat) (v u : Value) (xs o : List Int) (w : World) (ok : MatOk p m n xs) (hf : Fld p) (hs : smB p m n xs 100 = true) (hv : Ints .u64 w v xs) (hu : Ints .i64 w u o) :
    Calls Try.prog 7 #[.int .u64 p, matV m n v, u] w (Ret (.bool true) w) := by
  have hp2 := rightB_true ok.hp
  obtain ⟨i0, hi, hz0, hz1, hz2⟩ := info_parts info_u64p
  have C1 := hid fun (W : World) (hW : Ext w W) => (hs ▸ small07 p m n v xs 100 W (by omega) (by omega) (hv.ext hW) ok.u64 : Calls Try.prog 13 #[.int .u64 p, matV m n v, .int .i64 (100 : Nat)] W (Ret (.bool true) W))
  obtain ⟨B, hB⟩ : ∃ B, (ordB o && decide ((m : Int) = o.length)) = B := ⟨_, rfl⟩
  have hsh : shB m n xs = true := by
    have := ok.hm; have := ok.hn
    unfold shB
    rw [decide_eq_true (show (1 : Int) ≤ m ∧ (m : Int) ≤ 64 by omega), decide_eq_true (show (1 : Int) ≤ n ∧ (n : Int) ≤ 64 by omega), decide_eq_true (show (xs.length : Int) = m * n by rw [ok.hl]; push_cast; rfl)]; rfl
  have C2 := hid fun (W : World) (hW : Ext w W) => (show Calls Try.prog 24 #[u, matV m n v] W (RetGM B m n (rowsL o n xs) W) from by
    have h := qmRows u v o xs m n W (hu.ext hW) (hv.ext hW)
    rwa [hsh, Bool.true_and, hB, Int.toNat_natCast] at h)
  have C3 := hid fun (W : World) (hW : Ext w W) => cmRank p m n v xs W ok hf (hv.ext hW)
  have hord : B = true → Ord m o := fun h => by
    rw [h, Bool.and_eq_true, decide_eq_true_eq] at hB
    have := (ordB_iff.1 hB.1).2.2
    rwa [show o.length = m by omega] at this
  have okR : B = true → MatOk p m n (rowsL o n xs) := fun h => ⟨ok.hp, rowsL_rng hp2.1 ok.hx, ok.hm, ok.hn, by rw [rowsL_len, (hord h).len]⟩
  have C4 := hid fun (h : B = true) (W : World) (x : Value) (hx : Ints .u64 W x (rowsL o n xs)) => (rank_rows (n := n) hp2.1 hf ok.hx (hord h) ▸ cmRank p m n x (rowsL o n xs) W (okR h) hf hx : Calls Try.prog 19 #[.int .u64 p, matV m n x] W (Ret (.tuple #[.int .i64 (takeL p m n xs).U.length, .int .i64 0]) W))
  have Hdet := hid fun (h : B = true) (hmn : m = n) => (show ∃ S D E : Int, (S = 1 ∨ S = -1) ∧ 0 ≤ D ∧ D < p ∧ (S = 1 → E = D) ∧ (S = -1 → (0 - D) % p = E) ∧
      (∀ (W : World), Ext w W → Calls Try.prog 25 #[u] W (Ret (.tuple #[.int .i64 S, .int .i64 0]) W)) ∧
      (∀ (W : World), Ext w W → Calls Try.prog 10 #[.int .u64 p, matV m n v] W (Ret (.tuple #[.int .u64 D, .int .i64 0]) W)) ∧
      (∀ (W : World) (x : Value), Ints .u64 W x (rowsL o n xs) → Calls Try.prog 10 #[.int .u64 p, matV m n x] W (Ret (.tuple #[.int .u64 E, .int .i64 0]) W)) from by
    subst hmn
    have ho := hord h
    have hd := det_rows (n := m) (xs := xs) ho
    refine ⟨sgnL o, detF m (atF m xs) % p, detF m (atF m (rowsL o m xs)) % p, sgn_or o, (mod_range _ hp2.1).1, (mod_range _ hp2.1).2, fun hS => ?_, fun hS => ?_, fun W hW => ?_, fun W hW => det_call ok hf W v (hv.ext hW), fun W x hx => det_call (okR h) hf W x hx⟩
    · rw [hd, hS, Int.one_mul]
    · rw [hd, hS, ms_r]
      congr 1
      omega
    · have := qmSign u o W (hu.ext hW)
      rwa [ho.b ok.hm.1 ok.hm.2, if_pos rfl, if_pos rfl] at this)
  have C5 := hid fun (W : World) (hW : Ext w W) => cmProfile p m n v xs W ok hf (hv.ext hW)
  obtain ⟨M, hM⟩ : ∃ M, 2 * m = M := ⟨_, rfl⟩
  have C6 := hid fun (h : m ≤ 32) (W : World) (x : Value) (hx : Ints .u64 W x (xs ++ xs)) => (show Calls Try.prog 20 #[.int .u64 p, matV M n x] W (RetVI (profZ p m n xs) W) from by
    have okM : MatOk p M n (xs ++ xs) := ⟨ok.hp, rng_app ok.hx ok.hx, by have := ok.hm; omega, ok.hn, by rw [List.length_append, ok.hl, ← hM, Nat.mul_assoc]; omega⟩
    have h2 := cmProfile p M n x (xs ++ xs) W okM hf hx
    rwa [← hM, prof_again hp2.1 hf ok.hx ok.hl, hM] at h2)
  have HP := hid ok.hp
  generalize (takeL p m n xs).U.length = A at C3 C4
  generalize profZ p m n xs = PL at C5 C6
  generalize rowsL o n xs = lR at C2 C4 Hdet
  have hm := ok.hm; have hn := ok.hn
  have Hxl := hid ok.hl
  have hMi : 2 * (m : Int) = (M : Int) := by omega
  have hLb : xs.length ≤ 4096 := by rw [ok.hl]; exact Nat.mul_le_mul hm.2 hn.2
  have HV := hid hv
  clear ok hf hs hM hord okR hsh
  obtain ⟨a, cap, rfl, k1, k2, k3⟩ := hv
  obtain ⟨ao, capo, rfl, _, _, ko⟩ := hu
  clear ko
  obtain ⟨b, off, rfl, _, _⟩ := k3 (by rw [Hxl.out]; exact Nat.mul_pos hm.1 hn.1)
  clear k3
  have HA := hid (Blk.new w 25 #[.int .i64 (m : Int), .int .i64 (n : Int), .slice (some ⟨b, off, none⟩) xs.length cap])
  have hW0 := hid ((Ext.refl w).alloc (.cells #[.int .i64 (m : Int), .int .i64 (n : Int), .slice (some ⟨b, off, none⟩) xs.length cap] 25))
  unfold matV at C1 C2 C3 C4 C5 C6 Hdet
  unfold matV
  clear hB
  go_enter Try.func7, Try.ntmps7
  go_wp2_with fail
  refine (awake07 _).mono ?_
  rintro _ w1 ⟨rfl, xw1⟩
  obtain ⟨ha_0, ha_1, ha_2⟩ := (HA.out.ext xw1).at3
  go_wp2_with fail
  refine (C1.out _ (hW0.out.trans xw1)).mono ?_
  rintro _ w2 ⟨rfl, xw2⟩
  clear ha_0 ha_1 ha_2
  obtain ⟨ha_0, ha_1, ha_2⟩ := (HA.out.ext (xw1.trans xw2)).at3
  go_wp2_with fail
  refine (C2.out _ (hW0.out.trans (xw1.trans xw2))).mono ?_
  rintro _ w3 ⟨rx, cx, vN, lN, ee, rfl, iN, h3, h4, h5, xw3⟩
  clear ha_0 ha_1 ha_2
  have H3 := hid h3; have H4 := hid h4; have H5 := hid h5; have IN := hid iN
  clear h3 h4 h5
  obtain ⟨aN, kN, rfl, _, _, kk⟩ := iN
  clear kk
  have z5 := (Ext.refl w3).alloc (.cells #[.int .i64 rx, .int .i64 cx, .slice aN lN.length kN] 25)
  have HN := hid (Blk.new w3 25 #[.int .i64 rx, .int .i64 cx, .slice aN lN.length kN])
  obtain ⟨ha_0, ha_1, ha_2⟩ := (HA.out.ext (xw1.trans (xw2.trans (xw3.trans z5)))).at3
  go_wp2_with fail
  refine (C3.out _ (hW0.out.trans (xw1.trans (xw2.trans (xw3.trans z5))))).mono ?_
  rintro _ w4 ⟨rfl, xw4⟩
  clear ha_0 ha_1 ha_2
  obtain ⟨ha_0, ha_1, ha_2⟩ := (HA.out.ext (xw1.trans (xw2.trans (xw3.trans (z5.trans xw4))))).at3
  obtain ⟨hn_0, hn_1, hn_2⟩ := (HN.out.ext xw4).at3
  obtain ⟨t44, h44⟩ : ∃ B, (ee == 0) = B := ⟨_, rfl⟩
  have H44 := hid h44
  go_upto_if 44 with fail
  clear h44 ha_0 ha_1 ha_2 hn_0 hn_1 hn_2
  go_cut [] from 45 to 90 (fun w' => Ext w4 w')
  case first =>
    cases B with
    | false =>
      have e0 := H3.out
      simp only [Bool.false_eq_true, if_false] at e0
      have e1 := H44.out
      rw [e0] at e1
      have e2 : t44 = false := e1.symm
      subst e2
      clear e0 e1
      go_wp2_with fail
      go_meet
      exact Ext.refl _
    | true =>
      have e0 := H3.out
      have e4 := H4.out
      obtain ⟨rfl, rfl⟩ := H5.out (by trivial)
      simp only [if_true] at e0 e4
      have e1 := H44.out
      rw [e0] at e1
      have e2 : t44 = true := e1.symm
      subst e2
      subst e4
      clear e0 e1
      obtain ⟨hn_0, hn_1, hn_2⟩ := (HN.out.ext xw4).at3
      go_wp2_with fail
      refine (C4.out (by trivial) _ _ (IN.out.ext (z5.trans xw4))).mono ?_
      rintro _ w5 ⟨rfl, xw5⟩
      clear hn_0 hn_1 hn_2
      have bA : ((A : Int) != (A : Int)) = false := by simp
      obtain ⟨Q, hQ⟩ : ∃ B, ((m : Int) == (n : Int)) = B := ⟨_, rfl⟩
      have HQ := hid hQ
      cases Q with
      | false =>
        obtain ⟨ha_0, ha_1, ha_2⟩ := (HA.out.ext (xw1.trans (xw2.trans (xw3.trans (z5.trans (xw4.trans xw5)))))).at3
        go_wp2_with fail
        go_meet
        exact xw5
      | true =>
        obtain ⟨S, D, E, hS, d0, d1, e1, e2, c1, c2, c3⟩ := Hdet.out (by trivial) (by have := HQ.out; rw [beq_iff_eq] at this; omega)
        have K1 := hid c1; have K2 := hid c2; have K3 := hid c3
        have HE1 := hid e1; have HE2 := hid e2; have HS := hid hS
        clear c1 c2 c3 e1 e2 hS
        obtain ⟨ha_0, ha_1, ha_2⟩ := (HA.out.ext (xw1.trans (xw2.trans (xw3.trans (z5.trans (xw4.trans xw5)))))).at3
        go_wp2_with fail
        refine (K1.out _ (hW0.out.trans (xw1.trans (xw2.trans (xw3.trans (z5.trans (xw4.trans xw5))))))).mono ?_
        rintro _ w6 ⟨rfl, xw6⟩
        clear ha_0 ha_1 ha_2
        clear hQ
        obtain ⟨ha_0, ha_1, ha_2⟩ := (HA.out.ext (xw1.trans (xw2.trans (xw3.trans (z5.trans (xw4.trans (xw5.trans xw6))))))).at3
        go_wp2_with fail
        refine (K2.out _ (hW0.out.trans (xw1.trans (xw2.trans (xw3.trans (z5.trans (xw4.trans (xw5.trans xw6)))))))).mono ?_
        rintro _ w7 ⟨rfl, xw7⟩
        clear ha_0 ha_1 ha_2
        obtain ⟨hn_0, hn_1, hn_2⟩ := (HN.out.ext (xw4.trans (xw5.trans (xw6.trans xw7)))).at3
        go_wp2_with fail
        refine (K3.out _ _ (IN.out.ext (z5.trans (xw4.trans (xw5.trans (xw6.trans xw7)))))).mono ?_
        rintro _ w8 ⟨rfl, xw8⟩
        clear hn_0 hn_1 hn_2
        rcases HS.out with hS | hS
        · have e1 := HE1.out hS
          subst hS
          subst e1
          have bD : (E != E) = false := by simp
          go_wp2_with fail
          go_meet
          exact xw5.trans (xw6.trans (xw7.trans xw8))
        · have e1 := HE2.out hS
          have HEE := hid e1
          subst hS
          clear e1
          have bD : (E != E) = false := by simp
          go_wp2_with fail
          refine (sub_as p 0 D E _ HP.out (by omega) (by have := rightB_true HP.out; omega) d0 d1 HEE.out).mono ?_
          rintro _ w9 ⟨rfl, x9⟩
          go_wp2_with fail
          go_meet
          exact xw5.trans (xw6.trans (xw7.trans (xw8.trans x9)))
  case rest =>
    clear H44 H3 H4 H5 Hdet C1 C2 C3 C4 HN IN
    have xc := hcut
    rename World => W
    obtain ⟨ha_0, ha_1, ha_2⟩ := (HA.out.ext (xw1.trans (xw2.trans (xw3.trans (z5.trans (xw4.trans xc)))))).at3
    by_cases hm32 : 32 < m
    · go_wp2_with fail
      go_ret
      exact ⟨rfl, (hW0.out.trans (xw1.trans (xw2.trans (xw3.trans (z5.trans (xw4.trans xc))))))⟩
    · clear ha_0 ha_1 ha_2
      obtain ⟨ha_0, ha_1, ha_2⟩ := (HA.out.ext (xw1.trans (xw2.trans (xw3.trans (z5.trans (xw4.trans xc)))))).at3
      go_wp2_with fail
      refine (C5.out _ (hW0.out.trans (xw1.trans (xw2.trans (xw3.trans (z5.trans (xw4.trans xc))))))).mono ?_
      rintro _ w10 ⟨vP, rfl, iP, xw10⟩
      clear ha_0 ha_1 ha_2
      have IP := hid iP
      obtain ⟨aP, kP, rfl, _, _, kk⟩ := iP
      clear kk
      rename World => W2
      obtain ⟨ha_0, ha_1, ha_2⟩ := (HA.out.ext (xw1.trans (xw2.trans (xw3.trans (z5.trans (xw4.trans (xc.trans xw10))))))).at3
      have fs := hid (fun (V : World) (hV : Ext W2 V) => ((HA.out.ext (xw1.trans (xw2.trans (xw3.trans (z5.trans (xw4.trans (xc.trans xw10))))))).ext hV).at3)
      have hXS := hid (HV.out.ext (hW0.out.trans (xw1.trans (xw2.trans (xw3.trans (z5.trans (xw4.trans (xc.trans xw10))))))))
      have Hown0 := hid (World.ownsRow_lit (base := W2.heap.size) (e := 22) (size := 1) W2.drew #[] 0 (Nat.le_refl _) (by simp [maxLen]) rfl)
      have hxa : Ext W2 (W2.drew.alloc (.cells #[] 22)) := (Ext.refl W2).drew.alloc _
      have C6' := hid (C6.out (by omega))
      have hMw : IntKind.i64.wrap (M : Int) = (M : Int) := IntWalk.i64_in _ (by omega)
      have Hln := hid (show (xs.map (Value.int .u64)).length = xs.length * 1 by simp)
      go_wp2_with fail
      go_region_held3 (fun w' => w'.cell? ⟨w.heap.size, 0, none⟩ = some (.int .i64 (m : Int)) ∧ w'.cell? ⟨w.heap.size, 1, none⟩ = some (.int .i64 (n : Int)) ∧ w'.cell? ⟨w.heap.size, 2, none⟩ = some (.slice (some ⟨b, off, none⟩) xs.length cap)) (first | assumption | exact fs.out _ ((Ext.refl W2).drew) | exact fs.out _ hxa | exact fs.out _ (by assumption))
        ((first
          | (refine step_append_at _ rfl (.tmp 107) (.tmp 109) 23 rfl W2.heap.size 22 i0 (.int .u64 0) 1 8 Try.underlying23 hi hz0 hz1 hz2 rfl (by decide) (.slice (some ⟨W2.heap.size, 0, none⟩) 0 0) 0 [] (by simp [Act.eval]) Hown0.out ⟨b, off, none⟩ xs.length cap (xs.map (Value.int .u64)) (by simp [Act.eval]) Hln.out (ints_news (hXS.out.ext hxa)) ints_one (by simp only [maxLen]; omega) (by omega) (by simp) ?_
             intro v1 W3 hown1 hgrow1 hat1
             have hx3 : Ext W2 W3 := hxa.grown hgrow1 (fun k e => by simp [Value.ownBlock] at e; omega))
          | (refine step_append_at _ rfl (.tmp 110) (.tmp 112) 23 rfl W2.heap.size 22 i0 (.int .u64 0) 1 8 Try.underlying23 hi hz0 hz1 hz2 rfl (by decide) v1 (0 + xs.length) ([] ++ xs.map (Value.int .u64)) (by simp [Act.eval]) hown1 ⟨b, off, none⟩ xs.length cap (xs.map (Value.int .u64)) (by simp [Act.eval]) Hln.out (ints_news (hXS.out.ext hx3)) ints_one (by simp only [maxLen]; omega) (by omega) hx3.size ?_
             intro v2 W4 hown2 hgrow2 hat2
             have hown3 : W4.ownsRow W2.heap.size 22 1 v2 (xs.length + xs.length) ((xs ++ xs).map (Value.int .u64)) := by simpa using hown2
             obtain ⟨va, vc, rfl⟩ := ownsRow_slice hown3
             have hx4 : Ext W2 W4 := hx3.grown hgrow2 (fun k e => (hown1.lt k e).1)
             have hI2 : Ints .u64 W4 (.slice va (xs.length + xs.length) vc) (xs ++ xs) := own_ints hown3)
          | (go_at_call 20; refine (C6'.out _ _ hI2).mono ?_; rintro _ W5 ⟨vQ, rfl, iQ, x5⟩; have hx5 : Ext W2 W5 := hx4.trans x5)))
      all_goals
        have IQ := hid iQ
        obtain ⟨aQ, kQ, rfl, _, _, kk⟩ := iQ
        clear kk hown1 hown2 hown3 hgrow1 hgrow2 hI2 hat1 hat2
        go_wp2_with fail
        refine (r6Same_yes _ _ _ _ (IP.out.ext hx5) IQ.out).mono ?_
        rintro _ W6 ⟨rfl, x6⟩
        go_wp2_with fail
        go_ret
        exact ⟨rfl, (hW0.out.trans (xw1.trans (xw2.trans (xw3.trans (z5.trans (xw4.trans (xc.trans xw10))))))).trans (hx5.trans x6)⟩

/-- the law answers true -/
theorem walk (p r c : Int) (v : Value) (xs : List Int) (u : Value) (o : List Int) (w : World) (hp : (Lit.int .u64 p).wf = true) (_ : (Lit.int .i64 r).wf = true) (_ : (Lit.int .i64 c).wf = true) (hv : Ints .u64 w v xs) (hx : ∀ x ∈ xs, (Lit.int .u64 x).wf = true) (hu : Ints .i64 w u o) (_ : ∀ x ∈ o, (Lit.int .i64 x).wf = true) :
    Calls Try.prog 7 #[.int .u64 p, .agg #[.int .i64 r, .int .i64 c, v], u] w (Ret (.bool true) w) := by
  have hx' : U64s xs := fun x h => u64_wf (hx x h)
  cases h : smB p r c xs 100 with
  | false => exact walk_skip p r c v u xs w (u64_wf hp).1 (u64_wf hp).2 hv hx' h
  | true =>
    have h2 := h
    unfold smB at h2
    simp only [Bool.and_eq_true] at h2
    obtain ⟨m, n, rfl, rfl, ok⟩ := MatOk.of hx' h2.2.2
    exact walk_yes p m n v u xs o w ok (taken_fld h2.2.1) h hv hu

theorem own : ownKnob Try.prog.godebug = none := by kernel_rfl
set_option maxRecDepth 100000 in
theorem lifted (os : Os) (started : os.Started) (H : Type) (enc : TypeId × Value → H) :
    ReturnsInHanded {} Try.checked os 7 .any (Rows.cupOrderSpec.pre6 enc Try.prog Try.f7 Rows.cupOrderRow.domain false) (Rows.cupOrderSpec.post enc Try.prog Try.f7 false true false false) := by
  refine returnsInHanded_of_change (C := Try.checked) own started (by kernel_rfl) Try.func7
    (ChangeSpec.witness6 (enc := enc) (C := Try.checked) false ⟨#[], #[.int .u64 0, .agg #[.int .i64 0, .int .i64 0, .slice none 0 0], .slice none 0 0], []⟩ 8 (by kernel_rfl) (by kernel_rfl) (by kernel_rfl) (by kernel_rfl)) ?_
  intro W base args ds gs before hval0 hW _ _
  have hval : ∀ (j : Nat) t v, Try.f7.params[j]? = some t → args[j]? = some v → Value.okWide Try.prog W .any base t v := hval0
  have hW' := hW
  obtain ⟨p, q, hA0, hV, rfl, _, _⟩ := hW
  have hA : DataW.TrodAll enc Try.prog W 0 (fun _ => true) true Try.f7.params.toList args.toList ds p := hA0
  rw [Try.params7] at hA hval
  obtain ⟨v0, vs0, d0, ds0, p0, q0, hargs, rfl, rfl, h0, r0⟩ := trodAll_cons hA
  obtain ⟨v1, vs1, d1, ds1, p1, q1, rfl, rfl, rfl, h1, r1⟩ := trodAll_cons r0
  obtain ⟨v2, vs2, d2, ds2, p2, q2, rfl, rfl, rfl, h2, r2⟩ := trodAll_cons r1
  obtain ⟨rfl, rfl, rfl⟩ := trodAll_nil r2
  obtain rfl : args = #[v0, v1, v2] := by cases args; simp_all
  obtain ⟨rfl, rfl⟩ := trodVars_none hV
  obtain ⟨a0, rfl, rfl, rfl, w0⟩ := open_int Try.underlying22 (hval 0 22 v0 rfl rfl) h0
  obtain ⟨mr1, mc1, mu1, xs1, rfl, wr1, wc1, i1, w1⟩ := open_Mat (hval 1 25 v1 rfl rfl) h1
  obtain ⟨xs2, i2, w2⟩ := open_Ints Try.underlying34 Try.underlying3 (by kernel_rfl) (hval 2 34 v2 rfl rfl) h2
  refine (walk a0 mr1 mc1 mu1 xs1 v2 xs2 W w0 wr1 wc1 i1 w1 i2 w2).mono fun e W' ⟨he, hg⟩ => ⟨_, he, ?_⟩
  exact law_post (by kernel_rfl) (by kernel_rfl) rfl Try.underlying4 rfl rfl hW' hg

/-- the statement -/
theorem proved : Rows.CupOrderSaid :=
  OpenClaim.holds_of_wide 7 Try.f7 rfl rfl rfl rfl rfl rfl rfl ⟨rfl, rfl, rfl, rfl, rfl⟩ rfl rfl rfl rfl rfl (by kernel_rfl) Try.func7 (by kernel_rfl)
    (of_decide_eq_true (by kernel_rfl)) (by unfold Func.isWrapper; first | (rw [if_pos (by decide +kernel)]; kernel_rfl) | (rw [if_neg (by decide +kernel)]; exact ⟨rfl, rfl⟩))
    (fun os started H enc _ => lifted os started H enc)
end Go.Proofs.Ytlcempbeecdimaa.cupOrder
