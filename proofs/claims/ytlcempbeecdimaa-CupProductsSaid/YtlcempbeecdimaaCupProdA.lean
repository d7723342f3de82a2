/- CupProducts, what comes ahead: inputs that the law lets go; matrices that aren't square. -/
import Derived.Test.YtlcempbeecdimaaCupB4
import Derived.Test.YtlcempbeecdimaaOpenMat
import Derived.Test.YtlcempbeecdimaaCupO
import Derived.Test.YtlcempbeecdimaaCupB5
import Derived.Test.YtlcempbeecdimaaStep
import Derived.Test.YtlcempbeecdimaaCupB7
import Derived.Deep.RegionHeld3
namespace Go.Proofs.Ytlcempbeecdimaa.cupProducts
open Go.ChangeShapes Go.WideShapes Go.ChangeAt Go.RowKit Go.Maps

theorem ownsRow_slice {w : World} {base : Nat} {e : TypeId} {size n : Nat} {v : Value} {xs : List Value} (h : w.ownsRow base e size v n xs) : ∃ a c, v = .slice a n c := by
  rcases h.2 with ⟨rfl, h0⟩ | ⟨g, cap, cur, rfl, _⟩
  · exact ⟨none, 0, by rw [h0]⟩
  · exact ⟨_, _, rfl⟩
/-- what a law asks of a determinant -/
theorem det_call {p : Int} {n : Nat} {xs : List Int} (ok : MatOk p n n xs) (hf : Fld p) (W : World) (v : Value) (hv : Ints .u64 W v xs) : Calls Try.prog 10 #[.int .u64 p, matV n n v] W (Ret (.tuple #[.int .u64 (detF n (atF n xs) % p), .int .i64 0]) W) := by
  have hp2 := rightB_true ok.hp
  have h := cmDet p n n v xs W (by omega) (by omega) hv ok.u64 fun _ => hf
  unfold detV detErr at h
  rwa [ok.b, decide_eq_true (rfl : (n : Int) = n), if_pos (by rfl), if_pos (by rfl), Int.toNat_natCast] at h
/-- a matrix under way in two blocks: its box, and its cells -/
structure UndC (w0 w : World) (h g Q cap : Nat) (r c : Int) (l : List Int) : Prop where
  box : Blk w h 25 #[.int .i64 r, .int .i64 c, .slice (some ⟨g, 0, none⟩) Q cap]
  row : WRow w g 0 l
  len : l.length = Q
  ext : Ext w0 w
  hg : w0.heap.size ≤ g
  hh : w0.heap.size ≤ h
  ne : g ≠ h
theorem UndC.ext' {w0 w w' : World} {h g Q cap : Nat} {r c : Int} {l : List Int} (b : UndC w0 w h g Q cap r c l) (y : Ext w w') : UndC w0 w' h g Q cap r c l :=
  ⟨b.box.ext y, b.row.ext y, b.len, b.ext.trans y, b.hg, b.hh, b.ne⟩
theorem UndC.put {w0 w : World} {h g Q cap : Nat} {r c : Int} {l : List Int} (b : UndC w0 w h g Q cap r c l) {i : Nat} (hi : i < Q) (x : Int) : UndC w0 (w.setCell ⟨g, i, none⟩ (.int .u64 x)) h g Q cap r c (l.set i x) := by
  have hs := b.row.set_ (i := i) (by rw [b.len]; exact hi) x
  rw [Nat.zero_add] at hs
  exact ⟨b.box.grown (setCell_grown _ _ _) (fun e => b.ne (by injection e)), hs, by rw [List.length_set]; exact b.len, b.ext.setCell (p := ⟨g, i, none⟩) b.hg _, b.hg, b.hh, b.ne⟩
theorem UndC.at_ {w0 w : World} {h g Q cap : Nat} {r c : Int} {l : List Int} (b : UndC w0 w h g Q cap r c l) {i : Nat} (hi : i < Q) : w.cell? ⟨g, i, none⟩ = some (.int .u64 (l.getD i 0)) ∧ w.frozen? ⟨g, i, none⟩ = false := by
  have := b.row.2 i (by rw [b.len]; exact hi)
  rw [Nat.zero_add] at this
  exact this
theorem UndC.born {W w3 : World} {h g Q cap : Nat} {r c : Int} {l : List Int} {x y z : Value} (hB : Blk w3 h 25 #[x, y, z]) (row : WRow w3 g 0 l) (hl : l.length = Q) (hx : Ext W w3) (hg : W.heap.size ≤ g) (hh : W.heap.size ≤ h) (ne : g ≠ h) :
    UndC W (((w3.setCell ⟨h, 0, none⟩ (.int .i64 r)).setCell ⟨h, 1, none⟩ (.int .i64 c)).setCell ⟨h, 2, none⟩ (.slice (some ⟨g, 0, none⟩) Q cap)) h g Q cap r c l :=
  ⟨(fin0 hB hx hh _ _ _).1, ((row.set_other ne).set_other ne).set_other ne, hl, (fin0 hB hx hh _ _ _).2, hg, hh, ne⟩
theorem UndC.born' {W w3 : World} {g Q cap : Nat} {r c : Int} {l : List Int} (row : WRow w3 g 0 l) (hl : l.length = Q) (hx : Ext W w3) (hg : W.heap.size ≤ g) :
    UndC W (w3.alloc (.cells #[.int .i64 r, .int .i64 c, .slice (some ⟨g, 0, none⟩) Q cap] 25)) w3.heap.size g Q cap r c l :=
  ⟨Blk.new _ _ _, row.ext ((Ext.refl _).alloc _), hl, hx.alloc _, hg, hx.size, Nat.ne_of_lt row.1⟩
/-- a step of a region that draws its order, where no other operation may come up -/
theorem held_step {P : Program} {ops : Array Oper} {Q : Exit → Act → World → Prop} {md : Region.Mode} {S : World → Prop} {fuel : Nat} {listed : Array Bool} {a : Act} {w : World} (i : Nat) {o : Oper} (hr : Region.ready md ops listed = [i]) (ho : ops[i]? = some o)
    (h : ∀ K' : Act → World → Prop, Shut (∀ a w, S w → (S w → wpAnyH P md ops Q S fuel (listed.setIfInBounds i true) a w) → K' a w) → if Region.wanted o (yielded ops a.tmps) = true then Oper.wp P o a w K' Q else K' (a.put o.dst undef) w) :
    wpAnyH P md ops Q S (fuel + 1) listed a w := wpAnyH_ready hr (by simp) (AllReadyH.cons ho h AllReadyH.nil)
theorem Rng.set' {p : Int} {l : List Int} (h : Rng p l) (i : Nat) {x : Int} (h0 : 0 ≤ x) (h1 : x < p) : Rng p (l.set i x) := fun y hy => by
  rcases List.mem_or_eq_of_mem_set hy with h2 | h2
  · exact h y h2
  · rw [h2]; exact ⟨h0, h1⟩

set_option maxRecDepth 100000 in
set_option maxHeartbeats 2000000 in
theorem walk_skip (p r c r' c' x : Int) (v u : Value) (xs ys : List Int) (row : Int) (w : World) (h0 : 0 ≤ p) (h1 : p ≤ 18446744073709551615) (hv : Ints .u64 w v xs) (hx : U64s xs) (hu : Ints .u64 w u ys) (hy : U64s ys)
    (h : (smB p r c xs 100 && (smB p r' c' ys 100 && (decide (c = r') && decide (x < p)))) = false) :
    Calls Try.prog 6 #[.int .u64 p, matV r c v, matV r' c' u, .int .u8 row, .int .u64 x] w (Ret (.bool true) w) := by
  have C1 := hid fun (W : World) (hW : Ext w W) => small07 p r c v xs 100 W h0 h1 (hv.ext hW) hx
  have C2 := hid fun (W : World) (hW : Ext w W) => small07 p r' c' u ys 100 W h0 h1 (hu.ext hW) hy
  obtain ⟨A1, e1⟩ : ∃ B, smB p r c xs 100 = B := ⟨_, rfl⟩
  obtain ⟨B1, e2⟩ : ∃ B, smB p r' c' ys 100 = B := ⟨_, rfl⟩
  obtain ⟨Q1, e3⟩ : ∃ B, decide (c = r') = B := ⟨_, rfl⟩
  obtain ⟨X1, e4⟩ : ∃ B, decide (x < p) = B := ⟨_, rfl⟩
  rw [e1] at C1; rw [e2] at C2
  rw [e1, e2, e3, e4] at h
  have t3 : (c != r') = !Q1 := by rw [← e3]; rfl
  have t4 : decide (p ≤ x) = !X1 := by rw [← e4]; by_cases e : x < p <;> simp [e] <;> omega
  obtain ⟨a, cap, rfl, k1, k2, k3⟩ := hv
  obtain ⟨a', cap', rfl, k1', k2', k3'⟩ := hu
  clear k3 k3' hx hy e1 e2 e3 e4
  have hb2 := hid (boxes2 w 25 25 #[.int .i64 r, .int .i64 c, .slice a xs.length cap] #[.int .i64 r', .int .i64 c', .slice a' ys.length cap'])
  have HA := hid hb2.out.1; have HB := hid hb2.out.2.1; have hW0 := hid hb2.out.2.2
  unfold matV at C1 C2
  unfold matV
  have T3 := hid t3; have T4 := hid t4; have H := hid h
  clear t3 t4 h hb2
  cases A1 with
  | false =>
    as_aux_lemma =>
      go_enter Try.func6, Try.ntmps6
      go_wp2_with fail
      refine (awake07 _).mono ?_
      rintro _ w1 ⟨rfl, xw1⟩
      obtain ⟨ha_0, ha_1, ha_2⟩ := (HA.out.ext xw1).at3
      go_wp2_with fail
      refine (C1.out _ (hW0.out.trans xw1)).mono ?_
      rintro _ w2 ⟨rfl, xw2⟩
      clear ha_0 ha_1 ha_2
      go_wp2_with fail
      go_ret
      exact ⟨rfl, (hW0.out.trans (xw1.trans xw2))⟩
  | true =>
    cases B1 with
    | false =>
      as_aux_lemma =>
        go_enter Try.func6, Try.ntmps6
        go_wp2_with fail
        refine (awake07 _).mono ?_
        rintro _ w1 ⟨rfl, xw1⟩
        obtain ⟨ha_0, ha_1, ha_2⟩ := (HA.out.ext xw1).at3
        go_wp2_with fail
        refine (C1.out _ (hW0.out.trans xw1)).mono ?_
        rintro _ w2 ⟨rfl, xw2⟩
        clear ha_0 ha_1 ha_2
        obtain ⟨hb_0, hb_1, hb_2⟩ := (HB.out.ext (xw1.trans xw2)).at3
        go_wp2_with fail
        refine (C2.out _ (hW0.out.trans (xw1.trans xw2))).mono ?_
        rintro _ w3 ⟨rfl, xw3⟩
        clear hb_0 hb_1 hb_2
        go_wp2_with fail
        go_ret
        exact ⟨rfl, (hW0.out.trans (xw1.trans (xw2.trans xw3)))⟩
    | true =>
      have t3 := T3.out
      have t4 := T4.out
      have h := H.out
      cases Q1 with
      | false =>
        as_aux_lemma =>
          go_enter Try.func6, Try.ntmps6
          go_wp2_with fail
          refine (awake07 _).mono ?_
          rintro _ w1 ⟨rfl, xw1⟩
          obtain ⟨ha_0, ha_1, ha_2⟩ := (HA.out.ext xw1).at3
          go_wp2_with fail
          refine (C1.out _ (hW0.out.trans xw1)).mono ?_
          rintro _ w2 ⟨rfl, xw2⟩
          clear ha_0 ha_1 ha_2
          obtain ⟨hb_0, hb_1, hb_2⟩ := (HB.out.ext (xw1.trans xw2)).at3
          go_wp2_with fail
          refine (C2.out _ (hW0.out.trans (xw1.trans xw2))).mono ?_
          rintro _ w3 ⟨rfl, xw3⟩
          clear hb_0 hb_1 hb_2
          obtain ⟨ha_0, ha_1, ha_2⟩ := (HA.out.ext (xw1.trans (xw2.trans xw3))).at3
          obtain ⟨hb_0, hb_1, hb_2⟩ := (HB.out.ext (xw1.trans (xw2.trans xw3))).at3
          go_wp2_with fail
          go_ret
          exact ⟨rfl, (hW0.out.trans (xw1.trans (xw2.trans xw3)))⟩
      | true =>
        cases X1 with
        | false =>
          as_aux_lemma =>
            go_enter Try.func6, Try.ntmps6
            go_wp2_with fail
            refine (awake07 _).mono ?_
            rintro _ w1 ⟨rfl, xw1⟩
            obtain ⟨ha_0, ha_1, ha_2⟩ := (HA.out.ext xw1).at3
            go_wp2_with fail
            refine (C1.out _ (hW0.out.trans xw1)).mono ?_
            rintro _ w2 ⟨rfl, xw2⟩
            clear ha_0 ha_1 ha_2
            obtain ⟨hb_0, hb_1, hb_2⟩ := (HB.out.ext (xw1.trans xw2)).at3
            go_wp2_with fail
            refine (C2.out _ (hW0.out.trans (xw1.trans xw2))).mono ?_
            rintro _ w3 ⟨rfl, xw3⟩
            clear hb_0 hb_1 hb_2
            obtain ⟨ha_0, ha_1, ha_2⟩ := (HA.out.ext (xw1.trans (xw2.trans xw3))).at3
            obtain ⟨hb_0, hb_1, hb_2⟩ := (HB.out.ext (xw1.trans (xw2.trans xw3))).at3
            go_wp2_with fail
            go_ret
            exact ⟨rfl, (hW0.out.trans (xw1.trans (xw2.trans xw3)))⟩
        | true => exact absurd h (by decide)

set_option maxRecDepth 100000 in
set_option maxHeartbeats 4000000 in
theorem walk_rect (p : Int) (m k q : Nat) (v u : Value) (xs ys : List Int) (row x : Int) (w : World) (ok : MatOk p m k xs) (oky : MatOk p k q ys) (hf : Fld p) (hs : smB p m k xs 100 = true) (hs' : smB p k q ys 100 = true) (hxp : x < p) (hv : Ints .u64 w v xs) (hu : Ints .u64 w u ys) (hrect : ¬ (m = k ∧ k = q)) :
    Calls Try.prog 6 #[.int .u64 p, matV m k v, matV k q u, .int .u8 row, .int .u64 x] w (Ret (.bool true) w) := by
  have hp2 := rightB_true ok.hp
  have C1 := hid fun (W : World) (hW : Ext w W) => (hs ▸ small07 p m k v xs 100 W (by omega) (by omega) (hv.ext hW) ok.u64 : Calls Try.prog 13 #[.int .u64 p, matV m k v, .int .i64 (100 : Nat)] W (Ret (.bool true) W))
  have C2 := hid fun (W : World) (hW : Ext w W) => (hs' ▸ small07 p k q u ys 100 W (by omega) (by omega) (hu.ext hW) oky.u64 : Calls Try.prog 13 #[.int .u64 p, matV k q u, .int .i64 (100 : Nat)] W (Ret (.bool true) W))
  have C3 := hid fun (W : World) (hW : Ext w W) => mxMul_yes p m k q v u xs ys W ok oky (hv.ext hW) (hu.ext hW)
  have C4 := hid fun (W : World) (hW : Ext w W) => cmRank p m k v xs W ok hf (hv.ext hW)
  have C5 := hid fun (W : World) (hW : Ext w W) => cmRank p k q u ys W oky hf (hu.ext hW)
  have okM : MatOk p m q (mulL p m k q xs ys) := ⟨ok.hp, mulL_rng hp2.1 m k q xs ys, ok.hm, oky.hn, mulL_len m k q xs ys⟩
  have C6 := hid fun (W : World) (z : Value) (hz : Ints .u64 W z (mulL p m k q xs ys)) => cmRank p m q z (mulL p m k q xs ys) W okM hf hz
  obtain ⟨r1, r2, r3⟩ := rank_mul (m := m) (k := k) (q := q) hp2.1 hf ok.hx oky.hx
  have l1 := (takeL_ok (m := m) (n := k) hp2.1 hf ok.hx).le
  have l2 := (takeL_ok (m := k) (n := q) hp2.1 hf oky.hx).le
  have l3 := (takeL_ok (m := m) (n := q) hp2.1 hf okM.hx).le
  generalize (takeL p m q (mulL p m k q xs ys)).U.length = RM at C6 r1 r2 r3 l3
  generalize hRA : (takeL p m k xs).U.length = RA at C4 r1 r3 l1
  generalize hRB : (takeL p k q ys).U.length = RB at C5 r2 r3 l2
  have hm := ok.hm; have hk := ok.hn; have hq := oky.hn
  have g1 : decide (RA < RM) = false := decide_eq_false (by omega)
  have g2 : decide (RB < RM) = false := decide_eq_false (by omega)
  have g3 : decide (RM + k < RA + RB) = false := decide_eq_false (by omega)
  have g1' : decide ((RA : Int) < (RM : Int)) = false := decide_eq_false (by omega)
  have g2' : decide ((RB : Int) < (RM : Int)) = false := decide_eq_false (by omega)
  have g3' : decide ((RM : Int) + (k : Int) < (RA : Int) + (RB : Int)) = false := decide_eq_false (by omega)
  have gk : ((k : Int) != (k : Int)) = false := by simp
  have gx : decide (p ≤ x) = false := decide_eq_false (by omega)
  have HP := hid ok.hp; have HV := hid hv; have HU := hid hu; have Hxl := hid ok.hl; have HXR := hid ok.hx
  have hLb : xs.length ≤ 4096 := by rw [ok.hl]; exact Nat.mul_le_mul hm.2 hk.2
  generalize mulL p m k q xs ys = MS at C3 C6
  clear okM hs hs' hRA hRB ok oky hf
  obtain ⟨a, cap, rfl, k1, k2, k3⟩ := hv
  obtain ⟨a', cap', rfl, k1', k2', k3'⟩ := hu
  clear k3'
  clear k3
  have hb2 := hid (boxes2 w 25 25 #[.int .i64 (m : Int), .int .i64 (k : Int), .slice a xs.length cap] #[.int .i64 (k : Int), .int .i64 (q : Int), .slice a' ys.length cap'])
  have HA := hid hb2.out.1; have HB := hid hb2.out.2.1; have hW0 := hid hb2.out.2.2
  clear hb2
  unfold matV at C1 C2 C4 C5 C6
  unfold RetN matV at C3
  unfold matV
  go_enter Try.func6, Try.ntmps6
  go_wp2_with fail
  refine (awake07 _).mono ?_
  rintro _ w1 ⟨rfl, xw1⟩
  obtain ⟨ha_0, ha_1, ha_2⟩ := (HA.out.ext xw1).at3
  go_wp2_with fail
  refine (C1.out _ (hW0.out.trans xw1)).mono ?_
  rintro _ w2 ⟨rfl, xw2⟩
  clear ha_0 ha_1 ha_2
  obtain ⟨hb_0, hb_1, hb_2⟩ := (HB.out.ext (xw1.trans xw2)).at3
  go_wp2_with fail
  refine (C2.out _ (hW0.out.trans (xw1.trans xw2))).mono ?_
  rintro _ w3 ⟨rfl, xw3⟩
  clear hb_0 hb_1 hb_2
  obtain ⟨ha_0, ha_1, ha_2⟩ := (HA.out.ext (xw1.trans (xw2.trans xw3))).at3
  obtain ⟨hb_0, hb_1, hb_2⟩ := (HB.out.ext (xw1.trans (xw2.trans xw3))).at3
  go_wp2_with fail
  refine (C3.out _ (hW0.out.trans (xw1.trans (xw2.trans xw3)))).mono ?_
  rintro _ w4 ⟨vM, rfl, iM, xw4⟩
  clear ha_0 ha_1 ha_2 hb_0 hb_1 hb_2
  have IM := hid iM
  obtain ⟨aM, kM, rfl, _, _, kk⟩ := iM
  clear kk
  have z6 := (Ext.refl w4).alloc (.cells #[.int .i64 (m : Int), .int .i64 (q : Int), .slice aM MS.length kM] 25)
  have HM := hid (Blk.new w4 25 #[.int .i64 (m : Int), .int .i64 (q : Int), .slice aM MS.length kM])
  obtain ⟨ha_0, ha_1, ha_2⟩ := (HA.out.ext (xw1.trans (xw2.trans (xw3.trans (xw4.trans z6))))).at3
  go_wp2_with fail
  refine (C4.out _ (hW0.out.trans (xw1.trans (xw2.trans (xw3.trans (xw4.trans z6)))))).mono ?_
  rintro _ w5 ⟨rfl, xw5⟩
  clear ha_0 ha_1 ha_2
  obtain ⟨hb_0, hb_1, hb_2⟩ := (HB.out.ext (xw1.trans (xw2.trans (xw3.trans (xw4.trans (z6.trans xw5)))))).at3
  go_wp2_with fail
  refine (C5.out _ (hW0.out.trans (xw1.trans (xw2.trans (xw3.trans (xw4.trans (z6.trans xw5))))))).mono ?_
  rintro _ w6 ⟨rfl, xw6⟩
  clear hb_0 hb_1 hb_2
  obtain ⟨hm_0, hm_1, hm_2⟩ := (HM.out.ext (xw5.trans xw6)).at3
  go_wp2_with fail
  refine (C6.out _ _ (IM.out.ext (z6.trans (xw5.trans xw6)))).mono ?_
  rintro _ w7 ⟨rfl, xw7⟩
  clear hm_0 hm_1 hm_2
  obtain ⟨ha_0, ha_1, ha_2⟩ := (HA.out.ext (xw1.trans (xw2.trans (xw3.trans (xw4.trans (z6.trans (xw5.trans (xw6.trans xw7)))))))).at3
  obtain ⟨hb_0, hb_1, hb_2⟩ := (HB.out.ext (xw1.trans (xw2.trans (xw3.trans (xw4.trans (z6.trans (xw5.trans (xw6.trans xw7)))))))).at3
  by_cases e1 : m = k
  · have e2 : ¬ k = q := fun e => hrect ⟨e1, e⟩
    have b1 : ((m : Int) != (k : Int)) = false := by rw [bne_eq_false_iff_eq]; omega
    have b2 : ((k : Int) != (q : Int)) = true := by rw [bne_iff_ne]; omega
    clear e1 e2 hrect
    go_wp2_with fail
    go_ret
    exact ⟨rfl, (hW0.out.trans (xw1.trans (xw2.trans (xw3.trans (xw4.trans (z6.trans (xw5.trans (xw6.trans xw7))))))))⟩
  · have b1 : ((m : Int) != (k : Int)) = true := by rw [bne_iff_ne]; omega
    clear e1 hrect
    go_wp2_with fail
    go_ret
    exact ⟨rfl, (hW0.out.trans (xw1.trans (xw2.trans (xw3.trans (xw4.trans (z6.trans (xw5.trans (xw6.trans xw7))))))))⟩
end Go.Proofs.Ytlcempbeecdimaa.cupProducts
