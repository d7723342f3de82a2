import Derived.Test.YthomeenmcajmdaaGreatDoorBun22
import Derived.Deep.RegionLaw
namespace Go.Proofs.YthomeenmcajmdaaGreatDoor
open Go.RowKit Go.Maps
set_option maxRecDepth 100000 in
set_option maxHeartbeats 4000000 in
theorem cmTakeRow (p : Int) (n i g b cap : Nat) (w0 wK wT w : World) (st st' : ElE) (Rf : Nat → List Int) (xs : List Int) (hp : rightB p = true) (hn : 1 ≤ n) (hn2 : n ≤ 64) (hi64 : i < 64)
    (T0 : TkS w0 wK wT g p st) (ok : ElOk p n Rf i st) (hx : Ext wT w) (hrow : w.ownsRow wT.heap.size 22 1 (.slice (some ⟨b, 0, none⟩) n cap) n (xs.map (Value.int .u64))) (hxs : Rng p xs) (hs : stepE p n st i xs = some st') :
    Calls Tryz.prog 79 #[.pointer (some ⟨g, 0, none⟩), .slice (some ⟨b, 0, none⟩) n cap] w fun e w' => e = .returned (.int .i64 0) ∧ TkS w0 wK w' g p st' := by
  have hp2 := rightB_true hp
  have HP := hid hp; have Ok := hid ok
  have hxl : xs.length = n := by have := hrow.1; simpa using this
  have HE := hid (elimE_ok hp2.1 hxl hxs rfl (fun k hk => ⟨(ok.row k hk).1, (ok.row k hk).2.1, (ok.row k hk).2.2.1, (ok.row k hk).2.2.2.1⟩) ok.zero)
  obtain ⟨iu, hiu, hu0, hu1, hu2⟩ := info_parts info_u64p
  obtain ⟨ii, hii, hi0, hi1, hi2⟩ := info_parts info_i64p
  obtain ⟨ir, hir, hr0, hr1, hr2⟩ := info_parts info_rows
  obtain ⟨rv, cv, Cv, Uv, iv, cs, us, T⟩ := T0
  obtain ⟨r, er⟩ : ∃ r, st.U.length = r := ⟨_, rfl⟩
  have Er := hid er
  have e1 : (rowsZ st).length = r := by have := ok.lr; simp [rowsZ]; omega
  have e2 : (colsZ st).length = r := by have := ok.lk; simp [colsZ]; omega
  have e3 : (invsL p st).length = r := by unfold invsL; rw [tab_len, er]
  have e4 := ok.lc
  have hri : r ≤ i := by have := ok.le; omega
  have HT := hid T
  have T1 := T.rows; have T2 := T.cols; have T3 := T.cc; have T4 := T.uu; have T5 := T.inv
  rw [e1] at T1; rw [e2] at T2; rw [e4] at T3; rw [er] at T4; rw [e3] at T5
  obtain ⟨ar, cr, rfl, -, -, -, -⟩ := own_slice T1
  obtain ⟨ak, ck, rfl, -, -, -, K2⟩ := own_slice T2
  obtain ⟨ac, cc, rfl, -, -, -, -⟩ := own_slice T3
  obtain ⟨au, cu, rfl, -, -, -, K4⟩ := own_slice T4
  obtain ⟨av, cw, rfl, -, -, -, K5⟩ := own_slice T5
  have HK2 := hid K2; have HK4 := hid K4; have HK5 := hid K5
  have E1 := hid e1; have E2 := hid e2; have E3 := hid e3; have E4 := hid e4
  have c0 := (T.ext' hx).at6
  obtain ⟨b0, b1, b2, b3, b4, b5⟩ := c0
  have Hrow := hid hrow; have Hs := hid hs; have Hx := hid hx; have Hxl := hid hxl
  have hbT : wT.heap.size ≤ b := (hrow.lt b rfl).1
  have hs0 := T.ext.size
  clear T T1 T2 T3 T4 T5 K2 K4 K5 e1 e2 e3 e4 er hrow hs hx hxl hxs hp ok
  go_enter Tryz.func79, Tryz.ntmps79
  go_wp2_with fail
  go_loopw [19, 5] (fun kv tv wr => ∃ (k : Nat) (ta : Option Addr) (tc : Nat), kv = .int .i64 k ∧ tv = .slice ta k tc ∧ k ≤ r ∧ Hid (wr.ownsRow wT.heap.size 22 1 (.slice ta k tc) k ((elimE p n st.U st.cols xs k).1.map (Value.int .u64))) ∧ Hid (wr.ownsRow wT.heap.size 22 1 (.slice (some ⟨b, 0, none⟩) n cap) n ((elimE p n st.U st.cols xs k).2.map (Value.int .u64))) ∧ Hid (Ap (.slice ta k tc) (.slice (some ⟨b, 0, none⟩) n cap)) ∧ Hid (Ext wT wr)) (fun kv _ _ => r - (intOf kv).toNat)
  case atStart => exact ⟨0, none, 0, rfl, rfl, Nat.zero_le _, hid (World.ownsRow_nil _ _ _ _), Hrow, hid (.inl rfl), Hx⟩
  case round =>
    clear b0 b1 b2 b3 b4 b5
    obtain ⟨k, ta, tc, rfl, rfl, hk, htk, hrw, hap, hxr⟩ := hrel
    by_cases hlt : k < r
    · have Tr := HT.out.ext' hxr.out
      have FE := HE.out k (by rw [Er.out]; omega)
      have hEs : elimE p n st.U st.cols xs (k + 1) = ((elimE p n st.U st.cols xs k).1 ++ [mulE p (st.U.getD k []) (st.cols.getD k 0) (elimE p n st.U st.cols xs k).2], restE p n (st.U.getD k []) (st.cols.getD k 0) (elimE p n st.U st.cols xs k).2) := rfl
      have RW := Ok.out.row k (by rw [Er.out]; exact hlt)
      have UR := Tr.urow k (by rw [Er.out]; exact hlt)
      obtain ⟨gk, rfl, -, hgk, q2⟩ := HK2.out (by omega)
      have q2 := (hxr.out.cells _ _ hgk).trans (q2 k hlt)
      obtain ⟨gu, rfl, -, hgu, q4⟩ := HK4.out (by omega)
      have q4 := (hxr.out.cells _ _ hgu).trans (q4 k hlt)
      obtain ⟨gi, rfl, -, hgi, q5⟩ := HK5.out (by omega)
      have q5 := (hxr.out.cells _ _ hgi).trans (q5 k hlt)
      rw [List.getD, List.getElem?_map, List.getElem?_eq_getElem (show k < (colsZ st).length by rw [E2.out]; exact hlt)] at q2
      rw [List.getD, List.getElem?_map, List.getElem?_eq_getElem (show k < (invsL p st).length by rw [E3.out]; exact hlt)] at q5
      have ha1 : (colsZ st)[k]'(by rw [E2.out]; exact hlt) = (st.cols.getD k 0 : Int) := by
        have hkl : k < st.cols.length := by have := Ok.out.lk; have := Er.out; omega
        simp [colsZ, List.getD, hkl]
      have hz1 : (invsL p st)[k]'(by rw [E3.out]; exact hlt) = minv p ((st.U.getD k []).getD (st.cols.getD k 0) 0) := by
        have h1 := tab_get (f := fun k => minv p ((st.U.getD k []).getD (st.cols.getD k 0) 0)) (k := k) (show k < st.U.length by rw [Er.out]; exact hlt)
        rw [List.getD, List.getElem?_eq_getElem (show k < (tab st.U.length fun k => minv p ((st.U.getD k []).getD (st.cols.getD k 0) 0)).length by rw [tab_len, Er.out]; exact hlt)] at h1
        exact h1
      simp only [Option.map_some, Option.getD_some, ha1] at q2
      simp only [Option.map_some, Option.getD_some, hz1] at q5
      have hzr := minv_range p ((st.U.getD k []).getD (st.cols.getD k 0) 0) hp2.1
      clear ha1 hz1
      obtain ⟨e, ee⟩ : ∃ e, elimE p n st.U st.cols xs k = e := ⟨_, rfl⟩
      obtain ⟨u, eu⟩ : ∃ u, st.U.getD k [] = u := ⟨_, rfl⟩
      obtain ⟨a, ea⟩ : ∃ a, st.cols.getD k 0 = a := ⟨_, rfl⟩
      have HK := hid htk.out
      rw [ee] at htk hrw hEs FE
      rw [eu, ea] at hEs RW q5 hzr
      rw [eu] at UR
      rw [ea] at q2
      obtain ⟨f1, f2, f3, f4, -, -⟩ := FE
      obtain ⟨u1, u2, han, u4, -, -⟩ := RW
      obtain ⟨au, cu2, eU, -, -, -, -⟩ := own_slice UR
      rw [eU] at q4
      have IU := own_ints UR
      rw [eU] at IU
      rw [u1] at q4 IU
      obtain ⟨z, ez⟩ : ∃ z, minv p (u.getD a 0) = z := ⟨_, rfl⟩
      obtain ⟨y, ey⟩ : ∃ y, e.2.getD a 0 = y := ⟨_, rfl⟩
      rw [ez] at q5 hzr
      have ry := f4.getD hp2.1 a
      rw [ey] at ry
      have hq : mulE p u a e.2 = y * z % p := by unfold mulE; rw [ey, ez]
      obtain ⟨q, eq, q0, q1⟩ := name_mod (p := p) (y * z) hp2.1
      rw [eq] at hq
      rw [hq] at hEs
      have hres : restE p n u a e.2 = tab n fun j => (e.2.getD j 0 - q * u.getD j 0 % p) % p := by unfold restE; rw [hq]
      rw [hres] at hEs
      have q6 := (hrw.out.cellAt a (by omega))
      rw [List.getElem?_map, List.getElem?_eq_getElem (show a < e.2.length by rw [f3]; exact han)] at q6
      simp only [List.getD, List.getElem?_eq_getElem (show a < e.2.length by rw [f3]; exact han), Option.getD_some] at ey
      rw [ey] at q6
      simp only [Option.map_some] at q6
      have hne : ∀ j, (Value.slice au n cu2).ownBlock = some j → b ≠ j := fun j hj e => by
        have h1 := (Tr.urow k (by rw [Er.out]; exact hlt))
        have h2 := ((HT.out.urow k (by rw [Er.out]; exact hlt)).lt j (by rw [eU, u1]; exact hj)).2
        omega
      obtain ⟨b0, b1, b2, b3, b4, b5⟩ := Tr.at6
      have Tr' := hid Tr
      have fs := hid (fun (W : World) (hW : Ext wr W) => And.intro ((hW.cells _ _ (cell_lt b1)).trans b1) (And.intro ((hW.cells _ _ (cell_lt b4)).trans b4) (And.intro ((hW.cells _ _ (cell_lt b5)).trans b5) (And.intro ((hW.cells _ _ (cell_lt q2)).trans q2) (And.intro ((hW.cells _ _ (cell_lt q6)).trans q6) ((hW.cells _ _ (cell_lt q5)).trans q5))))))
      have Eq := hid eq; have HEs := hid hEs; have IU' := hid IU; have U2 := hid u2; have F4 := hid f4; have Hne := hid hne; have U1 := hid u1
      clear Tr UR ey ez eq hEs hres hq eU ee eu ea IU u2 f4 hne u1 u4 f1 f3
      go_wp2_with fail
      go_region_held3 (fun w' => w'.cell? ⟨g, 1, none⟩ = some (.slice (some ⟨gk, 0, none⟩) r ck) ∧ w'.cell? ⟨g, 4, none⟩ = some (.int .u64 p) ∧ w'.cell? ⟨g, 5, none⟩ = some (.slice (some ⟨gi, 0, none⟩) r cw) ∧ w'.cell? ⟨gk, k, none⟩ = some (.int .i64 (a : Int)) ∧ w'.cell? ⟨b, a, none⟩ = some (.int .u64 y) ∧ w'.cell? ⟨gi, k, none⟩ = some (.int .u64 z)) (first | assumption | exact fs.out _ ((Ext.refl wr).drew) | exact fs.out _ (((Ext.refl wr).drew).trans x5))
        ((first
          | (go_at_call 103; refine (mul_as p y z q _ HP.out ry.1 ry.2 hzr.1 hzr.2 Eq.out).mono ?_; rintro _ w5 ⟨rfl, x5⟩)))
      have e5 : Ext wr w5 := ((Ext.refl wr).drew).trans x5
      obtain ⟨d0, d1, d2, d3, d4, d5⟩ := (Tr'.out.ext' e5).at6
      have hw5 := ownsRow_ext hrw.out e5
      have ht5 := ownsRow_ext htk.out e5
      have hs5 : wT.heap.size ≤ w5.heap.size := (hxr.out.trans e5).size
      go_wp2_with (first
        | (go_at_call 104; refine (cmLessen p q n wT.heap.size b cap e.2 u (.slice au n cu2) w5 HP.out ⟨q0, q1⟩ hn hn2 hw5 F4.out (IU'.out.ext e5) U1.out U2.out Hne.out).mono ?_; rintro _ w6 ⟨rfl, h6, g6⟩
           have ht6 := ht5.kept g6 hap.out
           have x6 := (hxr.out.trans e5).grown g6 (fun k e => by injection e with e; omega)
           have hs6 := x6.size)
        | (at_builtin; refine wpList_append_own_at _ rfl _ _ 24 rfl wT.heap.size 22 iu (.int .u64 0) 1 8 Tryz.underlying24 hiu hu0 hu1 hu2 rfl (by decide) (.slice ta k tc) k _ rfl (ht6.alloc _) ⟨w6.heap.size, 0, none⟩ 1 1 [.int .u64 q] rfl rfl (cells_new _ _ _ rfl) (by simp [Value.oneCell']) (by simp only [maxLen]; omega) (by omega) (by simp; omega) ?_
           intro v7 w7 hown7 hgrow7 hnil7 hat7
           obtain ⟨a7, c7, rfl, -, -, -, -⟩ := own_slice hown7))
      have hw7 := hid (((h6.alloc (.cells #[.int .u64 q] 22)).kept hgrow7 hap.out.symm))
      have x7 := (x6.alloc (.cells #[.int .u64 q] 22)).grown hgrow7 (fun k e => ((ht6.alloc (.cells #[.int .u64 q] 22)).lt k e).1)
      have ap7 := hid ((Ap.grown hap.out.symm (h6.alloc (.cells #[.int .u64 q] 22)) hat7).symm)
      go_roundw
      case rel => exact ⟨k + 1, a7, c7, by go_num, rfl, by omega, hid (by rw [HEs.out, List.map_append]; exact hown7), hid (by rw [HEs.out]; exact hw7.out), ap7, hid x7⟩
      case measure => simp [intOf]; omega
    · obtain rfl : r = k := by omega
      have Tr := hid (HT.out.ext' hxr.out)
      have FE := HE.out r (by rw [Er.out]; omega)
      have hS := Hs.out
      unfold stepE at hS
      rw [Er.out] at hS
      obtain ⟨e, ee⟩ : ∃ e, elimE p n st.U st.cols xs r = e := ⟨_, rfl⟩
      rw [ee] at htk hrw FE hS
      obtain ⟨f1, f2, f3, f4, -, -⟩ := FE
      have CI := hid (cmIndex _ e.2 wr (own_ints hrw.out) (f4.u64 (by omega)) (by omega))
      have hsr := hxr.out.size
      have htki := fun j (hj : j < st.C.length) => Ap.old (HT.out.crow j hj) htk.out (Nat.le_refl _)
      have htku := fun j (hj : j < st.U.length) => Ap.old (HT.out.urow j hj) htk.out (Nat.le_refl _)
      have htkv := Ap.old HT.out.inv htk.out (Nat.le_refl _)
      have F3 := hid f3; have F4 := hid f4; have F1 := hid f1
      clear f1 f2 f3 f4 ee
      simp only at hS
      by_cases hL : leadE e.2 < n
      · rw [if_pos hL] at hS
        by_cases hu : unitB p (e.2.getD (leadE e.2) 0) = true
        · rw [if_pos hu] at hS
          injection hS with hS
          have hlv : leadV e.2 = (leadE e.2 : Int) := by unfold leadV; rw [if_pos (by rw [F3.out]; exact hL)]
          rw [hlv] at CI
          obtain ⟨L, eL⟩ : ∃ L, leadE e.2 = L := ⟨_, rfl⟩
          rw [eL] at CI hL hu hS
          have ry := F4.out.getD hp2.1 L
          have hLe : L < e.2.length := by rw [F3.out]; exact hL
          have q6 := hrw.out.cellAt L (by omega)
          rw [List.getElem?_map, List.getElem?_eq_getElem hLe] at q6
          have ey0 : e.2[L] = e.2.getD L 0 := by simp [List.getD, hLe]
          simp only [Option.map_some] at q6
          rw [ey0] at q6
          have hzr := minv_range p (e.2.getD L 0) hp2.1
          have hinv := hid (invsL_snoc Ok.out (st.C ++ [e.1 ++ [1]]) (st.rows ++ [i]) L e.2)
          obtain ⟨y, ey⟩ : ∃ y, e.2.getD L 0 = y := ⟨_, rfl⟩
          obtain ⟨z, ez⟩ : ∃ z, minv p y = z := ⟨_, rfl⟩
          rw [ey] at q6 ry hu hzr hinv
          rw [ez] at hzr hinv
          have Ez := hid ez
          have HS := hid hS
          have Q6 := hid q6
          clear ey ez hS eL ey0 hlv hLe q6
          obtain ⟨b0, b1, b2, b3, b4, b5⟩ := Tr.out.at6
          go_wp2_with (go_at_call 105; refine CI.out.mono ?_; rintro _ w4 ⟨rfl, x4⟩
                       have q64 := (x4.cells _ _ (cell_lt Q6.out)).trans Q6.out
                       obtain ⟨d0, d1, d2, d3, d4, d5⟩ := (Tr.out.ext' x4).at6
                       have fs := hid (fun (W : World) (hW : Ext w4 W) => And.intro ((hW.cells _ _ (cell_lt d4)).trans d4) ((hW.cells _ _ (cell_lt q64)).trans q64)))
          go_region_held3 (fun w' => w'.cell? ⟨g, 4, none⟩ = some (.int .u64 p) ∧ w'.cell? ⟨b, L, none⟩ = some (.int .u64 y)) (first | assumption | exact fs.out _ ((Ext.refl w4).drew) | exact fs.out _ (((Ext.refl w4).drew).trans x5))
            ((first
              | (go_at_call 107; refine (inv_as p y z _ HP.out ry.1 ry.2 hu Ez.out).mono ?_; rintro _ w5 ⟨rfl, x5⟩)))
          clear b0 b1 b2 b3 b4 b5 d0 d1 d2 d3 d4 d5 q64 fs
          have e5 : Ext wr w5 := (x4.drew).trans x5
          have T5 := Tr.out.ext' e5
          have y6 : Ext w5 (w5.alloc (.cells #[.int .i64 (i : Int)] 3)).drew := ((Ext.refl w5).alloc _).drew
          have T6 := hid (T5.ext' y6)
          obtain ⟨b0, b1, b2, b3, b4, b5⟩ := T5.at6
          obtain ⟨d0, d1, d2, d3, d4, d5⟩ := T6.out.at6
          have t1 := T6.out.rows
          rw [E1.out] at t1
          have R6 := hid t1
          have hs6 := T6.out.ext.size
          have rw6 := hid (ownsRow_ext (ownsRow_ext hrw.out e5) y6)
          have tk6 := hid (ownsRow_ext (ownsRow_ext htk.out e5) y6)
          clear t1 T5
          have apr := Ap.old HT.out.inv hrw.out (Nat.le_refl _)
          have aprc := fun j (hj : j < st.C.length) => Ap.old (HT.out.crow j hj) hrw.out (Nat.le_refl _)
          have Apr := hid apr; have Aprc := hid aprc; have Htki := hid htki; have Htku := hid htku; have Htkv := hid htkv; have Hap := hid hap.out.symm
          clear apr aprc htki htku htkv
          go_wp2_with fail
          go_cut [] from 82 to 98 (fun w' => ∃ rv', Tk w0 wK w' g p (rowsZ st ++ [(i : Int)]) (colsZ st) (invsL p st) st.C st.U rv' (.slice ak r ck) (.slice ac i cc) (.slice au r cu) (.slice av r cw) cs us ∧ w'.ownsRow wT.heap.size 22 1 (.slice (some ⟨b, 0, none⟩) n cap) n (e.2.map (Value.int .u64)) ∧ w'.ownsRow wT.heap.size 22 1 (.slice ta r tc) r (e.1.map (Value.int .u64)))
          case first =>
            go_region_law (first
              | (refine step_append_at _ rfl (.tmp 87) (.tmp 94) 55 rfl w0.heap.size 3 ii (.int .i64 0) 1 8 Tryz.underlying55 hii hi0 hi1 hi2 rfl (by decide) (.slice ar r cr) r ((rowsZ st).map (Value.int .i64)) (by simp [Act.eval]) R6.out ⟨w5.heap.size, 0, none⟩ 1 1 [.int .i64 (i : Int)] (by simp [Act.eval]) rfl (cells_new _ _ _ (by simp)) (by simp [Value.oneCell']) (by simp only [maxLen]; omega) (by omega) (by have := hs6; simp at this ⊢; omega) ?_
                 intro v6 w6 hown6 hgrow6 hat6
                 have B6 := T6.out.box' T6.out.rows (by decide) hgrow6
                 have o6 := B6.cell 0
                 have f6 := B6.frozen 0
                 have T7 := hid (T6.out.addR (x := (i : Int)) (by rw [E1.out]; exact hown6) hgrow6 hat6)
                 have rw7 := hid (own_put (rw6.out.kept hgrow6 (ownsRow_apart rw6.out T6.out.rows (by decide))) B6 (by decide) 0 v6)
                 have tk7 := hid (own_put (tk6.out.kept hgrow6 (ownsRow_apart tk6.out T6.out.rows (by decide))) B6 (by decide) 0 v6)
                 obtain ⟨a6, c6, rfl, -, -, -, -⟩ := own_slice hown6))
            all_goals
              go_wp2_with fail
              go_meet
              exact ⟨_, T7.out, rw7.out, tk7.out⟩
          case rest => as_aux_lemma =>
            rename World => wA
            obtain ⟨rv', T7, rw7, tk7⟩ := hcut
            have hLu := hid HT.out.lu
            clear CI Tr Hrow Hx Hxl HE Ok Hs T6 R6 rw6 tk6 HK2 HK4 HK5 hrw htk hap Ez Q6 hu b0 b1 b2 b3 b4 b5 d0 d1 d2 d3 d4 d5 HP F4 ry hzr HT hs6 e5 x4 x5 y6
            have T7 := hid T7; have rw7 := hid rw7; have tk7 := hid tk7
            have K7 := hid (by have h := T7.out.cols; rw [E2.out] at h; exact h)
            obtain ⟨b0, b1, b2, b3, b4, b5⟩ := T7.out.at6
            have hsA := T7.out.ext.size
            go_upto_region 15 with fail
            go_cut [] from 99 to 110 (fun w' => ∃ cv', Tk w0 wK w' g p (rowsZ st ++ [(i : Int)]) (colsZ st ++ [(L : Int)]) (invsL p st) st.C st.U rv' cv' (.slice ac i cc) (.slice au r cu) (.slice av r cw) cs us ∧ w'.ownsRow wT.heap.size 22 1 (.slice (some ⟨b, 0, none⟩) n cap) n (e.2.map (Value.int .u64)) ∧ w'.ownsRow wT.heap.size 22 1 (.slice ta r tc) r (e.1.map (Value.int .u64)))
            case first =>
              go_wp2_with (at_builtin; refine wpList_append_own_at _ rfl _ _ 55 rfl w0.heap.size 3 ii (.int .i64 0) 1 8 Tryz.underlying55 hii hi0 hi1 hi2 rfl (by decide) (.slice ak r ck) r _ rfl (K7.out.alloc _) ⟨wA.heap.size, 0, none⟩ 1 1 [.int .i64 (L : Int)] rfl rfl (cells_new _ _ _ rfl) (by simp [Value.oneCell']) (by simp only [maxLen]; omega) (by omega) (by simp; omega) ?_
                           intro v8 w8 hown8 hgrow8 hnil8 hat8
                           have P8 := hid (T7.out.ext' ((Ext.refl wA).alloc (.cells #[.int .i64 (L : Int)] 3)))
                           have B8 := hid (P8.out.box' P8.out.cols (by decide) hgrow8)
                           have o8 := B8.out.cell 1
                           have f8 := B8.out.frozen 1
                           have T8 := hid (P8.out.addK (x := (L : Int)) (by rw [E2.out]; exact hown8) hgrow8 hat8)
                           have rw8 := hid (own_put ((rw7.out.alloc (.cells #[.int .i64 (L : Int)] 3)).kept hgrow8 (ownsRow_apart (rw7.out.alloc _) P8.out.cols (by decide))) B8.out (by decide) 1 v8)
                           have tk8 := hid (own_put ((tk7.out.alloc (.cells #[.int .i64 (L : Int)] 3)).kept hgrow8 (ownsRow_apart (tk7.out.alloc _) P8.out.cols (by decide))) B8.out (by decide) 1 v8)
                           obtain ⟨a8, c8, rfl, -, -, -, -⟩ := own_slice hown8)
              go_meet
              exact ⟨_, T8.out, rw8.out, tk8.out⟩
            case rest => as_aux_lemma =>
              clear b0 b1 b2 b3 b4 b5 hsA
              rename World => wB
              obtain ⟨cv', T8, rw8, tk8⟩ := hcut
              clear T7 rw7 tk7 K7
              have T8 := hid T8; have rw8 := hid rw8; have tk8 := hid tk8
              have K8 := hid (by have h := T8.out.uu; rw [Er.out] at h; exact h)
              obtain ⟨b0, b1, b2, b3, b4, b5⟩ := T8.out.at6
              have hsB := T8.out.ext.size
              go_upto_region 16 with fail
              go_cut [] from 111 to 122 (fun w' => ∃ Uv', Tk w0 wK w' g p (rowsZ st ++ [(i : Int)]) (colsZ st ++ [(L : Int)]) (invsL p st) st.C (st.U ++ [e.2]) rv' cv' (.slice ac i cc) Uv' (.slice av r cw) cs (us ++ [.slice (some ⟨b, 0, none⟩) n cap]) ∧ w'.ownsRow wT.heap.size 22 1 (.slice ta r tc) r (e.1.map (Value.int .u64)))
              case first =>
                go_wp2_with (at_builtin; refine wpList_append_own_at _ rfl _ _ 56 rfl w0.heap.size 24 ir (.slice none 0 0) 1 24 Tryz.underlying56 hir hr0 hr1 hr2 rfl (by decide) (.slice au r cu) r us rfl (K8.out.alloc _) ⟨wB.heap.size, 0, none⟩ 1 1 [.slice (some ⟨b, 0, none⟩) n cap] rfl rfl (cells_new _ _ _ rfl) (by simp [Value.oneCell']) (by simp only [maxLen]; omega) (by omega) (by simp; omega) ?_
                             intro v9 w9 hown9 hgrow9 hnil9 hat9
                             have P9 := hid (T8.out.ext' ((Ext.refl wB).alloc (.cells #[.slice (some ⟨b, 0, none⟩) n cap] 24)))
                             have B9 := hid (P9.out.box' P9.out.uu (by decide) hgrow9)
                             have o9 := B9.out.cell 3
                             have f9 := B9.out.frozen 3
                             have T9 := hid (P9.out.addU (l := e.2) (by rw [Er.out]; exact hown9) hgrow9 hat9 (by rw [F3.out]; exact ownsRow_low (rw8.out.alloc _) hs0) Apr.out.symm Aprc.out)
                             have tk9 := hid (own_put ((tk8.out.alloc (.cells #[.slice (some ⟨b, 0, none⟩) n cap] 24)).kept hgrow9 (ownsRow_apart (tk8.out.alloc _) P9.out.uu (by decide))) B9.out (by decide) 3 v9)
                             obtain ⟨a9, c9, rfl, -, -, -, -⟩ := own_slice hown9)
                go_meet
                exact ⟨_, T9.out, tk9.out⟩
              case rest => as_aux_lemma =>
                clear b0 b1 b2 b3 b4 b5 hsB
                rename World => wC
                obtain ⟨Uv', T9, tk9⟩ := hcut
                clear T8 rw8 tk8 K8
                have T9 := hid T9; have tk9 := hid tk9
                have K9 := hid (by have h := T9.out.inv; rw [E3.out] at h; exact h)
                obtain ⟨b0, b1, b2, b3, b4, b5⟩ := T9.out.at6
                have hsC := T9.out.ext.size
                go_upto_region 17 with fail
                go_cut [] from 123 to 132 (fun w' => ∃ iv', Tk w0 wK w' g p (rowsZ st ++ [(i : Int)]) (colsZ st ++ [(L : Int)]) (invsL p st ++ [z]) st.C (st.U ++ [e.2]) rv' cv' (.slice ac i cc) Uv' iv' cs (us ++ [.slice (some ⟨b, 0, none⟩) n cap]) ∧ Ap iv' (.slice ta r tc) ∧ w'.ownsRow wT.heap.size 22 1 (.slice ta r tc) r (e.1.map (Value.int .u64)))
                case first =>
                  go_wp2_with (at_builtin; refine wpList_append_own_at _ rfl _ _ 24 rfl w0.heap.size 22 iu (.int .u64 0) 1 8 Tryz.underlying24 hiu hu0 hu1 hu2 rfl (by decide) (.slice av r cw) r _ rfl (K9.out.alloc _) ⟨wC.heap.size, 0, none⟩ 1 1 [.int .u64 z] rfl rfl (cells_new _ _ _ rfl) (by simp [Value.oneCell']) (by simp only [maxLen]; omega) (by omega) (by simp; omega) ?_
                               intro vA wD hownA hgrowA hnilA hatA
                               have PA := hid (T9.out.ext' ((Ext.refl wC).alloc (.cells #[.int .u64 z] 22)))
                               have BA := hid (PA.out.box' PA.out.inv (by decide) hgrowA)
                               have oA := BA.out.cell 5
                               have fA := BA.out.frozen 5
                               have TA := hid (PA.out.addI (x := z) (by rw [E3.out]; exact hownA) hgrowA hatA)
                               have tkA := hid (own_put ((tk9.out.alloc (.cells #[.int .u64 z] 22)).kept hgrowA Htkv.out.symm) BA.out (by decide) 5 vA)
                               have apA := hid ((Ap.grown Htkv.out.symm (tk9.out.alloc (.cells #[.int .u64 z] 22)) hatA).symm)
                               obtain ⟨aA, cA, rfl, -, -, -, -⟩ := own_slice hownA)
                  go_meet
                  exact ⟨_, TA.out, apA.out, tkA.out⟩
                case rest => as_aux_lemma =>
                  clear b0 b1 b2 b3 b4 b5 hsC
                  rename World => wE
                  obtain ⟨iv', TA, apA, tkA⟩ := hcut
                  clear T9 tk9 K9
                  have TA := hid TA; have tkA := hid tkA; have apA := hid apA
                  obtain ⟨b0, b1, b2, b3, b4, b5⟩ := TA.out.at6
                  have K2 := hid (by have h := TA.out.cc; rw [E4.out] at h; exact h)
                  have hsE0 : wT.heap.size ≤ wE.heap.size := by
                    have h := TA.out.urow st.U.length (by simp)
                    rw [getD_snoc, if_neg (by rw [hLu.out]; omega), if_pos (by rw [hLu.out])] at h
                    have := (h.lt b rfl).2
                    omega
                  have apU := hid (fun j (hj : j < (st.U ++ [e.2]).length) => (show Ap ((us ++ [Value.slice (some ⟨b, 0, none⟩) n cap]).getD j undef) (.slice ta r tc) by
                    have hlu := hLu.out
                    rw [List.length_append, List.length_cons, List.length_nil] at hj
                    rw [getD_snoc]
                    by_cases c : j < st.U.length
                    · rw [if_pos (by omega)]; exact Htku.out j c
                    · rw [if_neg (by omega), if_pos (by omega)]; exact Hap.out))
                  go_upto_region 18 with fail
                  go_cut [5] from 133 to 135 (fun tv w' => ∃ tv', tv = tv' ∧ Tk w0 wK w' g p (rowsZ st ++ [(i : Int)]) (colsZ st ++ [(L : Int)]) (invsL p st ++ [z]) st.C (st.U ++ [e.2]) rv' cv' (.slice ac i cc) Uv' iv' cs (us ++ [.slice (some ⟨b, 0, none⟩) n cap]) ∧ w'.ownsRow wT.heap.size 22 1 tv' (r + 1) ((e.1 ++ [1]).map (Value.int .u64)) ∧ Ap iv' tv' ∧ (∀ j, j < st.C.length → Ap (cs.getD j undef) tv') ∧ (∀ j, j < (st.U ++ [e.2]).length → Ap ((us ++ [Value.slice (some ⟨b, 0, none⟩) n cap]).getD j undef) tv'))
                  case first =>
                    go_wp2_with (at_builtin; refine wpList_append_own_at _ rfl _ _ 24 rfl wT.heap.size 22 iu (.int .u64 0) 1 8 Tryz.underlying24 hiu hu0 hu1 hu2 rfl (by decide) (.slice ta r tc) r _ rfl (tkA.out.alloc _) ⟨wE.heap.size, 0, none⟩ 1 1 [.int .u64 1] rfl rfl (cells_new _ _ _ rfl) (by simp [Value.oneCell']) (by simp only [maxLen]; omega) (by omega) (by simp; omega) ?_
                                 intro vF wF hownF hgrowF hnilF hatF
                                 have PF := hid (TA.out.ext' ((Ext.refl wE).alloc (.cells #[.int .u64 1] 22)))
                                 have TF := hid (PF.out.keep (tkA.out.alloc (.cells #[.int .u64 1] 22)) hs0 hgrowF apA.out Htki.out apU.out)
                                 have ap1 := hid (Ap.grown apA.out PF.out.inv hatF)
                                 have ap2 := hid (fun j hj => Ap.grown (Htki.out j hj) (PF.out.crow j hj) hatF)
                                 have ap3 := hid (fun j hj => Ap.grown (apU.out j hj) (PF.out.urow j hj) hatF)
                                 have HoF := hid hownF)
                    go_meet
                    exact ⟨_, rfl, TF.out, by rw [List.map_append]; exact HoF.out, ap1.out, ap2.out, ap3.out⟩
                  case rest => as_aux_lemma =>
                    clear b0 b1 b2 b3 b4 b5 hsE0
                    rename World => wF
                    obtain ⟨tv', rfl, TF, tkF, ap1, ap2, ap3⟩ := hcut
                    clear TA tkA K2 apU apA
                    have TF := hid TF; have ap1 := hid ap1; have ap2 := hid ap2; have ap3 := hid ap3; have TkF := hid tkF
                    obtain ⟨a7, c7, rfl, -, -, -, -⟩ := own_slice tkF
                    obtain ⟨b0, b1, b2, b3, b4, b5⟩ := TF.out.at6
                    have KF := hid (by have h := TF.out.cc; rw [E4.out] at h; exact h)
                    have hsF := TF.out.ext.size
                    clear tkF
                    go_wp2_with (at_builtin; refine wpList_append_own_at _ rfl _ _ 56 rfl w0.heap.size 24 ir (.slice none 0 0) 1 24 Tryz.underlying56 hir hr0 hr1 hr2 rfl (by decide) (.slice ac i cc) i cs rfl (KF.out.alloc _) ⟨wF.heap.size, 0, none⟩ 1 1 [.slice a7 (r + 1) c7] rfl rfl (cells_new _ _ _ rfl) (by simp [Value.oneCell']) (by simp only [maxLen]; omega) (by omega) (by simp; omega) ?_
                                 intro v9 w9 hown9 hgrow9 hnil9 hat9
                                 have P9 := hid (TF.out.ext' ((Ext.refl wF).alloc (.cells #[.slice a7 (r + 1) c7] 24)))
                                 have B9 := hid (P9.out.box' P9.out.cc (by decide) hgrow9)
                                 have o9 := B9.out.cell 2
                                 have f9 := B9.out.frozen 2
                                 have T9 := hid (P9.out.addC (l := e.1 ++ [1]) (by rw [E4.out]; exact hown9) hgrow9 hat9 (by rw [List.length_append, F1.out]; exact ownsRow_low (TkF.out.alloc _) hs0) ap1.out.symm ap2.out fun j hj => (ap3.out j hj).symm)
                                 obtain ⟨a9, c9, rfl, -, -, -, -⟩ := own_slice hown9)
                    go_ret
                    refine ⟨rfl, ?_⟩
                    rw [← HS.out]
                    exact ⟨rv', cv', .slice a9 (i + 1) c9, Uv', iv', cs ++ [.slice a7 (r + 1) c7], us ++ [.slice (some ⟨b, 0, none⟩) n cap], by rw [rowsZ_snoc, colsZ_snoc, hinv.out]; exact T9.out⟩
        · rw [if_neg hu] at hS
          cases hS
      · rw [if_neg hL] at hS
        injection hS with hS
        have hlv : leadV e.2 = -1 := by unfold leadV; rw [if_neg (by rw [F3.out]; exact hL)]
        rw [hlv] at CI
        have HS := hid hS; have Htki := hid htki; have Htku := hid htku; have Htkv := hid htkv
        clear hS hlv htki htku htkv HE Ok Hrow Hs Hx Hxl HK2 HK4 HK5
        go_wp2_with (first
          | (go_at_call 105; refine CI.out.mono ?_; rintro _ w4 ⟨rfl, x4⟩
             have T4 := hid (Tr.out.ext' x4)
             obtain ⟨d0, d1, d2, d3, d4, d5⟩ := T4.out.at6
             have K4 := hid (by have h := T4.out.cc; rw [E4.out] at h; exact h)
             have tk4 := hid (ownsRow_ext htk.out x4)
             have hs4 := T4.out.ext.size)
          | (at_builtin; refine wpList_append_own_at _ rfl _ _ 56 rfl w0.heap.size 24 ir (.slice none 0 0) 1 24 Tryz.underlying56 hir hr0 hr1 hr2 rfl (by decide) (.slice ac i cc) i cs rfl (K4.out.alloc _) ⟨w4.heap.size, 0, none⟩ 1 1 [.slice ta r tc] rfl rfl (cells_new _ _ _ rfl) (by simp [Value.oneCell']) (by simp only [maxLen]; omega) (by omega) (by simp; omega) ?_
             intro v9 w9 hown9 hgrow9 hnil9 hat9
             have P9 := hid (T4.out.ext' ((Ext.refl w4).alloc (.cells #[.slice ta r tc] 24)))
             have B9 := hid (P9.out.box' P9.out.cc (by decide) hgrow9)
             have o9 := B9.out.cell 2
             have f9 := B9.out.frozen 2
             have T9 := hid (P9.out.addC (l := e.1) (by rw [E4.out]; exact hown9) hgrow9 hat9 (by rw [F1.out]; exact ownsRow_low (tk4.out.alloc _) hs0) Htkv.out.symm Htki.out fun j hj => (Htku.out j hj).symm)
             obtain ⟨a9, c9, rfl, -, -, -, -⟩ := own_slice hown9))
        go_ret
        refine ⟨rfl, ?_⟩
        rw [← HS.out]
        exact ⟨_, _, _, _, _, _, _, T9.out⟩
end Go.Proofs.YthomeenmcajmdaaGreatDoor
