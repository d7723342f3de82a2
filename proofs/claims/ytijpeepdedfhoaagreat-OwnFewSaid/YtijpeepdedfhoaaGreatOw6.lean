/- Package own: Dies, Passes, Answer. -/
import Derived.Test.YtijpeepdedfhoaaGreatOw5
import Derived.Test.YtijpeepdedfhoaaGreatKr3
import Derived.Test.YtijpeepdedfhoaaGreatBun27
import Derived.Test.YtijpeepdedfhoaaGreatBun06
import Derived.Test.YtijpeepdedfhoaaGreatBun04
import Derived.Test.YtijpeepdedfhoaaGreatBun28
namespace Go.Proofs.YtijpeepdedfhoaaGreat
open Go.RowKit Go.Maps

theorem owNot0 (y : Int) (w : World) : Calls Tryz.prog 45 #[.int .u64 y] w fun e w' => e = .returned (.bool (y != 0)) ∧ w = w' := by
  go_enter Tryz.func45, Tryz.ntmps45
  go_wp2_with fail
  go_ret
  exact ⟨rfl, rfl⟩
theorem owZero_no {l : List Int} {j : Nat} (hj : j < l.length) (h : l.getD j 0 ≠ 0) : zeroB l = false := by
  cases e : zeroB l with
  | false => rfl
  | true => exact absurd (zeroB_iff.1 e j hj) h
set_option maxRecDepth 100000 in
set_option maxHeartbeats 1000000 in
theorem owIndex (v : Value) (xs : List Int) (w : World) (hv : Ints .u64 w v xs) :
    Calls Tryz.prog 84 #[v, .func (.func 45) #[] #[]] w fun e w' => ∃ i : Int, e = .returned (.int .i64 i) ∧ decide (0 ≤ i) = !zeroB xs ∧ Ext w w' := by
  have C1 := hid fun y W => owNot0 y W
  obtain ⟨Z, hZ⟩ : ∃ Z, zeroB xs = Z := ⟨_, rfl⟩
  rw [hZ]
  have HZ := hid hZ
  obtain ⟨a, cap, rfl, k1, k2, k3⟩ := hv
  have K3 := hid k3
  obtain ⟨n, en⟩ : ∃ n, xs.length = n := ⟨_, rfl⟩
  have En := hid en
  rw [en] at k1 K3 ⊢
  clear k3 hZ en
  go_enter Tryz.func84, Tryz.ntmps84
  go_wp2_with fail
  go_loopw [8] (fun iv wr => ∃ (j : Nat), iv = .int .i64 j ∧ j ≤ n ∧ Hid (∀ t, t < j → xs.getD t 0 = 0) ∧ Ext w wr) (fun iv _ => n - (intOf iv).toNat)
  case atStart => exact ⟨0, rfl, Nat.zero_le _, hid (fun t ht => absurd ht (Nat.not_lt_zero _)), Ext.refl _⟩
  case round =>
    obtain ⟨j, rfl, hj, hz, hw⟩ := hrel
    by_cases hlt : j < n
    · obtain ⟨b, off, rfl, hb, hc⟩ := K3.out (by omega)
      have g1 := (hw.cells _ _ hb).trans (hc j hlt)
      obtain ⟨y, ey⟩ : ∃ y, xs.getD j 0 = y := ⟨_, rfl⟩
      rw [ey] at g1
      have Ey := hid ey
      clear ey hc
      by_cases c : y = 0
      · have e0 : ((0 : Int) != 0) = false := by decide
        have C2 := hid (C1.out 0)
        rw [e0] at C2
        subst c
        go_wp2_with (go_at_call 45; refine (C2.out _).mono ?_; rintro _ _ ⟨rfl, rfl⟩)
        go_roundw
        case rel =>
          refine ⟨j + 1, by go_num, by omega, hid (fun t ht => ?_), hw⟩
          by_cases e : t = j
          · rw [e, Ey.out]
          · exact hz.out t (by omega)
        case measure => simp [intOf]; omega
      · have e0 : (y != 0) = true := by simp [c]
        have C2 := hid (C1.out y)
        rw [e0] at C2
        have hN := hid (show Z = false by
          rw [← HZ.out]
          exact owZero_no (by rw [En.out]; exact hlt) (by rw [Ey.out]; exact c))
        go_wp2_with (go_at_call 45; refine (C2.out _).mono ?_; rintro _ _ ⟨rfl, rfl⟩)
        go_ret
        exact ⟨_, rfl, by rw [hN.out]; simp, hw⟩
    · obtain rfl : n = j := by omega
      have hN := hid (show Z = true by
        rw [← HZ.out]
        exact zeroB_iff.2 fun t ht => hz.out t (by rw [← En.out]; exact ht))
      go_wp2_with fail
      go_ret
      exact ⟨_, rfl, by rw [hN.out]; rfl, hw⟩
set_option maxHeartbeats 1000000 in
theorem owContains (v : Value) (xs : List Int) (w : World) (hv : Ints .u64 w v xs) :
    Calls Tryz.prog 44 #[v, .func (.func 45) #[] #[]] w (Ret (.bool (!zeroB xs)) w) := by
  have C := hid (owIndex v xs w hv)
  obtain ⟨Z, hZ⟩ : ∃ Z, (!zeroB xs) = Z := ⟨_, rfl⟩
  rw [hZ] at C ⊢
  clear hZ
  obtain ⟨a, cap, rfl, -, -, -⟩ := hv
  go_enter Tryz.func44, Tryz.ntmps44
  go_wp2_with (go_at_call 84; refine C.out.mono ?_; rintro _ w1 ⟨i, rfl, hi, x1⟩)
  go_ret
  exact ⟨rfl, x1⟩

/-- does F of the matrix, done to x, make 0? -/
def diesB (p : Int) (n : Nat) (xs F x : List Int) : Bool := decide (pdoL p n xs F x = List.replicate n 0)
theorem dies_zero {p : Int} {n : Nat} {xs F x : List Int} : zeroB (pdoL p n xs F x) = diesB p n xs F x := by
  have hl : (pdoL p n xs F x).length = n := pdoL_len _ _
  unfold diesB
  rw [Bool.eq_iff_iff, decide_eq_true_eq, zeroB_iff, hl]
  constructor
  · intro h
    refine list_ext (by rw [hl, List.length_replicate]) fun j hj => ?_
    rw [hl] at hj
    rw [h j hj, replicate_get]
  · intro h j hj
    rw [h, replicate_get]
set_option maxRecDepth 100000 in
set_option maxHeartbeats 1000000 in
theorem owDies (p : Int) (n : Nat) (F H S T U V xs x : List Int) (mv fv hv sv tv uv vv xv : Value) (w : World) (ok : MatOk p n n xs) (hm : Ints .u64 w mv xs) (o : OwnR w fv hv sv tv uv vv F H S T U V) (hu : OwnU F H S T U V) (oo : OwnOk p n F H S T U V) (hx : Ints .u64 w xv x) (hxu : U64s x) :
    Calls Tryz.prog 14 #[.int .u64 p, matV n n mv, .agg #[fv, hv, sv, tv, uv, vv], xv] w (Ret (.tuple #[.bool (vecB p n x && diesB p n xs F x), .int .i64 (if vecB p n x then 0 else 1)]) w) := by
  have hp := ok.hp
  have hp2 := rightB_true hp
  have CA := hid fun (W : World) (hW : Ext w W) => owShaped p n n F H S T U V mv fv hv sv tv uv vv W (by omega) (by omega) (by obtain ⟨a, c, rfl, -, -, -⟩ := hm; exact ⟨_, _, _, rfl⟩) (o.ext hW) hu
  rw [(ownB_iff hu).2 ⟨n, rfl, oo⟩, decide_eq_true rfl] at CA
  have CC := hid fun (W : World) (z : Value) (hz : Ints .u64 W z (pdoL p n xs F x)) => owContains z _ W hz
  rw [dies_zero] at CC
  obtain ⟨Z, hZ⟩ : ∃ Z, diesB p n xs F x = Z := ⟨_, rfl⟩
  rw [hZ] at CC ⊢
  clear hZ
  have hb := hid (show Blk ((w.alloc (.cells #[.int .i64 (n : Int), .int .i64 (n : Int), mv] 25)).alloc (.cells #[fv, hv, sv, tv, uv, vv] 30)) (w.heap.size + 1) 30 #[fv, hv, sv, tv, uv, vv] from Blk.at_ (by rw [alloc_size]))
  have hA := hid (show Blk ((w.alloc (.cells #[.int .i64 (n : Int), .int .i64 (n : Int), mv] 25)).alloc (.cells #[fv, hv, sv, tv, uv, vv] 30)) w.heap.size 25 #[.int .i64 (n : Int), .int .i64 (n : Int), mv] from (Blk.new _ _ _).ext ((Ext.refl _).alloc _))
  have hX := hid (show Ext w ((w.alloc (.cells #[.int .i64 (n : Int), .int .i64 (n : Int), mv] 25)).alloc (.cells #[fv, hv, sv, tv, uv, vv] 30)) from ((Ext.refl w).alloc _).alloc _)
  cases hB : vecB p n x with
  | true =>
    obtain ⟨-, q1, q2⟩ := (vecB_iff hxu).1 hB
    have C1 := hid fun (W : World) (hW : Ext w W) => krDo p n fv mv xv F xs x W ok (o.f.ext hW) oo.pF (by have := oo.lF; have := oo.hn; omega) (hm.ext hW) (hx.ext hW) q1 q2
    rw [if_pos rfl, Bool.true_and]
    clear q1 q2 hB oo hu hxu ok
    obtain ⟨a1, c1, rfl, -, -, -⟩ := o.f
    obtain ⟨a2, c2, rfl, -, -, -⟩ := o.h
    obtain ⟨a3, c3, rfl, -, -, -⟩ := o.s
    obtain ⟨a4, c4, rfl, -, -, -⟩ := o.t
    obtain ⟨a5, c5, rfl, -, -, -⟩ := o.u
    obtain ⟨a6, c6, rfl, -, -, -⟩ := o.v
    obtain ⟨a7, c7, rfl, -, -, -⟩ := hm
    obtain ⟨a8, c8, rfl, -, -, -⟩ := hx
    clear o
    unfold matV at C1 CA
    unfold matV
    obtain ⟨b0, b1, b2, b3, b4, b5⟩ := hb.out.at6
    obtain ⟨m0, m1, m2⟩ := hA.out.at3
    go_enter Tryz.func14, Tryz.ntmps14
    go_wp2_with fail
    refine (C1.out _ hX.out).mono ?_
    rintro _ w1 ⟨z, rfl, hz, x1⟩
    have HZ := hid hz
    obtain ⟨a9, c9, rfl, -, -, -⟩ := hz
    clear b0 b1 b2 b3 b4 b5 m0 m1 m2
    obtain ⟨b0, b1, b2, b3, b4, b5⟩ := (hb.out.ext x1).at6
    obtain ⟨m0, m1, m2⟩ := (hA.out.ext x1).at3
    have y1 := hid (hX.out.trans x1)
    go_wp2_with fail
    refine (CA.out _ y1.out).mono ?_
    rintro _ w2 ⟨rfl, x2⟩
    clear b0 b1 b2 b3 b4 b5 m0 m1 m2
    go_wp2_with fail
    refine (CC.out _ _ (HZ.out.ext x2)).mono ?_
    rintro _ w3 ⟨rfl, x3⟩
    go_wp2_with fail
    go_ret2
    exact ⟨by simp, (y1.out.trans x2).trans x3⟩
  | false =>
    have C1 := hid fun (W : World) (hW : Ext w W) => krDo_no p n n fv mv xv F xs x W (by omega) (by omega) (o.f.ext hW) hu.f (hm.ext hW) ok.u64 (hx.ext hW) hxu (by unfold besideB; rw [hB]; simp)
    rw [if_neg (by simp), Bool.false_and]
    clear hB oo hu hxu ok
    obtain ⟨a1, c1, rfl, -, -, -⟩ := o.f
    obtain ⟨a2, c2, rfl, -, -, -⟩ := o.h
    obtain ⟨a3, c3, rfl, -, -, -⟩ := o.s
    obtain ⟨a4, c4, rfl, -, -, -⟩ := o.t
    obtain ⟨a5, c5, rfl, -, -, -⟩ := o.u
    obtain ⟨a6, c6, rfl, -, -, -⟩ := o.v
    obtain ⟨a7, c7, rfl, -, -, -⟩ := hm
    obtain ⟨a8, c8, rfl, -, -, -⟩ := hx
    clear o
    unfold matV at C1
    unfold matV
    obtain ⟨b0, b1, b2, b3, b4, b5⟩ := hb.out.at6
    obtain ⟨m0, m1, m2⟩ := hA.out.at3
    go_enter Tryz.func14, Tryz.ntmps14
    go_wp2_with fail
    refine (C1.out _ hX.out).mono ?_
    rintro _ w1 ⟨rfl, x1⟩
    clear b0 b1 b2 b3 b4 b5 m0 m1 m2
    go_wp2_with fail
    go_ret2
    exact ⟨rfl, hX.out.trans x1⟩

set_option maxRecDepth 100000 in
set_option maxHeartbeats 1000000 in
theorem owAnswer (p z : Int) (n : Nat) (xs v : List Int) (mv vv : Value) (w : World) (code : Int) (l : List Int) (ok : MatOk p n n xs) (hm : Ints .u64 w mv xs) (hv : Ints .u64 w vv v) (hz0 : 0 ≤ z) (hz1 : z < p) (h : ∀ W u', Ints .u64 W u' (shL p n z xs) → Ints .u64 W vv v → Calls Tryz.prog 50 #[.int .u64 p, matV n n u', vv] W (RetE code l W)) :
    Calls Tryz.prog 16 #[.int .u64 p, matV n n mv, vv, .int .u64 z] w (RetE code l w) := by
  have hp := ok.hp
  have hp2 := rightB_true hp
  have C1 := hid fun (W : World) (hW : Ext w W) => mxRight p n n mv xs W (by omega) (by omega) (hm.ext hW) ok.u64
  rw [ok.b] at C1
  have C2 := hid fun (W : World) (u : Value) (hu : Ints .u64 W u [z]) => has_yes p u [z] W hu (fun x hx => by simp at hx; subst hx; omega) (hasB_one hp hz1)
  have C3 := hid fun (W : World) (hW : Ext w W) => owLess p z n mv xs W ok hz0 hz1 (hm.ext hW)
  have C4 := hid fun (W : World) (u' : Value) (hW : Ext w W) (hu : Ints .u64 W u' (shL p n z xs)) => h W u' hu (hv.ext hW)
  obtain ⟨a7, c7, rfl, -, -, -⟩ := hm
  obtain ⟨a8, c8, rfl, -, -, -⟩ := hv
  unfold RetM at C3
  unfold matV at C1 C3 C4
  unfold matV
  have hA := hid (Blk.new w 25 #[.int .i64 (n : Int), .int .i64 (n : Int), .slice a7 xs.length c7])
  have hX := hid (show Ext w (w.alloc (.cells #[.int .i64 (n : Int), .int .i64 (n : Int), .slice a7 xs.length c7] 25)) from (Ext.refl w).alloc _)
  have nn : ((n : Int) != (n : Int)) = false := by simp
  obtain ⟨m0, m1, m2⟩ := hA.out.at3
  clear h ok
  go_enter Tryz.func16, Tryz.ntmps16
  go_wp2_with fail
  refine (C1.out _ hX.out).mono ?_
  rintro _ w1 ⟨rfl, x1⟩
  clear m0 m1 m2
  have y1 := hid (hX.out.trans x1)
  go_wp2_with fail
  refine (C2.out _ _ (Ints.at1 rfl)).mono ?_
  rintro _ _ ⟨rfl, rfl⟩
  obtain ⟨m0, m1, m2⟩ := (hA.out.ext (x1.alloc (.cells #[.int .u64 z] 22))).at3
  go_wp2_with fail
  refine (C3.out _ (y1.out.alloc _)).mono ?_
  rintro _ w2 ⟨u', rfl, hu', x2⟩
  have HU := hid hu'
  obtain ⟨a9, c9, rfl, -, -, -⟩ := hu'
  clear m0 m1 m2
  go_wp2_with fail
  refine (C4.out _ _ ((y1.out.alloc _).trans x2) HU.out).mono ?_
  rintro _ w3 ⟨z3, rfl, i3, x3⟩
  have I3 := hid i3
  obtain ⟨a3, c3, rfl, -, -, -⟩ := i3
  go_wp2_with fail
  go_ret2
  exact ⟨_, rfl, I3.out, ((y1.out.alloc _).trans x2).trans x3⟩
theorem owAnswer_yes (p z : Int) (n : Nat) (xs v x : List Int) (mv vv : Value) (w : World) (ok : MatOk p n n xs) (hf : Fld p) (hm : Ints .u64 w mv xs) (hv : Ints .u64 w vv v) (hl : v.length = n) (hr : Rng p v) (hz0 : 0 ≤ z) (hz1 : z < p) (h : IsX p n n (shL p n z xs) v x) :
    Calls Tryz.prog 16 #[.int .u64 p, matV n n mv, vv, .int .u64 z] w (RetE 0 x w) :=
  owAnswer p z n xs v mv vv w 0 x ok hm hv hz0 hz1 fun W u' h1 h2 => svSolve_yes p n n u' vv (shL p n z xs) v x W (shL_ok ok z) hf h1 h2 hl hr h
theorem owAnswer_no (p z : Int) (n : Nat) (xs v : List Int) (mv vv : Value) (w : World) (ok : MatOk p n n xs) (hf : Fld p) (hm : Ints .u64 w mv xs) (hv : Ints .u64 w vv v) (hl : v.length = n) (hr : Rng p v) (hz0 : 0 ≤ z) (hz1 : z < p) (h : ¬ ∃ x, IsX p n n (shL p n z xs) v x) :
    Calls Tryz.prog 16 #[.int .u64 p, matV n n mv, vv, .int .u64 z] w (RetE 6 [] w) :=
  owAnswer p z n xs v mv vv w 6 [] ok hm hv hz0 hz1 fun W u' h1 h2 => svSolve_no p n n u' vv (shL p n z xs) v W (shL_ok ok z) hf h1 h2 hl hr h

/-- does an answer pass? -/
def passB (p : Int) (n : Nat) (xs F H U V : List Int) (z : Int) (y : List Int) : Bool := decide (leftZ p z y (timesL p n n xs y) = V) && decide (dotZ U y % p * hor p z F.reverse % p = hor p z H.reverse)
theorem left_sh {p : Int} {n : Nat} {xs y : List Int} {z : Int} (hl : y.length = n) : leftZ p z y (timesL p n n xs y) = timesL p n n (shL p n z xs) y := by
  unfold leftZ
  rw [hl]
  refine (tab_of (timesL_len _ _ _ _) fun i hi => ?_).symm
  rw [shL_times z y hi, times_at hi]
  unfold offF
  rw [Int.sub_emod]
  rfl
set_option maxRecDepth 100000 in
set_option maxHeartbeats 1000000 in
theorem owPasses (p z : Int) (n : Nat) (F H S T U V xs y : List Int) (mv fv hv sv tv uv vv yv : Value) (w : World) (ok : MatOk p n n xs) (hm : Ints .u64 w mv xs) (o : OwnR w fv hv sv tv uv vv F H S T U V) (hu : OwnU F H S T U V) (oo : OwnOk p n F H S T U V) (hz0 : 0 ≤ z) (hz1 : z < p) (hy : Ints .u64 w yv y) (hyl : y.length = n) (hyr : Rng p y) :
    Calls Tryz.prog 17 #[.int .u64 p, matV n n mv, .agg #[fv, hv, sv, tv, uv, vv], .int .u64 z, yv] w (Ret (.tuple #[.bool (passB p n xs F H U V z y), .int .i64 0]) w) := by
  have hp := ok.hp
  have hp2 := rightB_true hp
  have hn := ok.hn
  have CA := hid fun (W : World) (hW : Ext w W) => owShaped p n n F H S T U V mv fv hv sv tv uv vv W (by omega) (by omega) (by obtain ⟨a, c, rfl, -, -, -⟩ := hm; exact ⟨_, _, _, rfl⟩) (o.ext hW) hu
  rw [(ownB_iff hu).2 ⟨n, rfl, oo⟩, decide_eq_true rfl] at CA
  have C1 := hid fun (W : World) (hW : Ext w W) => mxTimes_yes p n n mv yv xs y W ok (hm.ext hW) (hy.ext hW) hyr hyl
  have C2 := hid fun (W : World) (u : Value) (hu : Ints .u64 W u [z]) => has_yes p u [z] W hu (fun x hx => by simp at hx; subst hx; omega) (hasB_one hp hz1)
  have C3 := hid fun (W : World) (u : Value) (hW : Ext w W) (hu : Ints .u64 W u (timesL p n n xs y)) => owLeft p z yv u y (timesL p n n xs y) W hp hz0 hz1 (hy.ext hW) hu hyr (timesL_rng hp2.1 _ _ _ _) (by rw [timesL_len, hyl]) (by omega)
  have C4 := hid fun (W : World) (u : Value) (hW : Ext w W) (hu : Ints .u64 W u (leftZ p z y (timesL p n n xs y))) => equal_any u vv _ V W hu (o.v.ext hW)
  have C5 := hid fun (W : World) (hW : Ext w W) => owTells p z n F H S T U V y fv hv sv tv uv vv yv W (o.ext hW) oo hz0 hz1 (hy.ext hW) hyr hyl
  unfold passB
  obtain ⟨B1, e1⟩ : ∃ B, decide (leftZ p z y (timesL p n n xs y) = V) = B := ⟨_, rfl⟩
  obtain ⟨B2, e2⟩ : ∃ B, decide (dotZ U y % p * hor p z F.reverse % p = hor p z H.reverse) = B := ⟨_, rfl⟩
  rw [e1] at C4
  rw [e2] at C5
  rw [e1, e2]
  clear e1 e2 oo hu ok hyr hyl
  obtain ⟨a1, c1, rfl, -, -, -⟩ := o.f
  obtain ⟨a2, c2, rfl, -, -, -⟩ := o.h
  obtain ⟨a3, c3, rfl, -, -, -⟩ := o.s
  obtain ⟨a4, c4, rfl, -, -, -⟩ := o.t
  obtain ⟨a5, c5, rfl, -, -, -⟩ := o.u
  obtain ⟨a6, c6, rfl, -, -, -⟩ := o.v
  obtain ⟨a7, c7, rfl, -, -, -⟩ := hm
  obtain ⟨a8, c8, rfl, -, -, -⟩ := hy
  clear o
  unfold matV at C1 CA
  unfold matV
  have hb := hid (show Blk ((w.alloc (.cells #[.int .i64 (n : Int), .int .i64 (n : Int), .slice a7 xs.length c7] 25)).alloc (.cells #[.slice a1 F.length c1, .slice a2 H.length c2, .slice a3 S.length c3, .slice a4 T.length c4, .slice a5 U.length c5, .slice a6 V.length c6] 30)) (w.heap.size + 1) 30 #[.slice a1 F.length c1, .slice a2 H.length c2, .slice a3 S.length c3, .slice a4 T.length c4, .slice a5 U.length c5, .slice a6 V.length c6] from Blk.at_ (by rw [alloc_size]))
  have hA := hid (show Blk ((w.alloc (.cells #[.int .i64 (n : Int), .int .i64 (n : Int), .slice a7 xs.length c7] 25)).alloc (.cells #[.slice a1 F.length c1, .slice a2 H.length c2, .slice a3 S.length c3, .slice a4 T.length c4, .slice a5 U.length c5, .slice a6 V.length c6] 30)) w.heap.size 25 #[.int .i64 (n : Int), .int .i64 (n : Int), .slice a7 xs.length c7] from (Blk.new _ _ _).ext ((Ext.refl _).alloc _))
  have hX := hid (show Ext w ((w.alloc (.cells #[.int .i64 (n : Int), .int .i64 (n : Int), .slice a7 xs.length c7] 25)).alloc (.cells #[.slice a1 F.length c1, .slice a2 H.length c2, .slice a3 S.length c3, .slice a4 T.length c4, .slice a5 U.length c5, .slice a6 V.length c6] 30)) from ((Ext.refl w).alloc _).alloc _)
  obtain ⟨b0, b1, b2, b3, b4, b5⟩ := hb.out.at6
  obtain ⟨m0, m1, m2⟩ := hA.out.at3
  go_enter Tryz.func17, Tryz.ntmps17
  go_wp2_with fail
  refine (C1.out _ hX.out).mono ?_
  rintro _ w1 ⟨z1, rfl, i1, x1⟩
  have I1 := hid i1
  obtain ⟨a9, c9, rfl, -, -, -⟩ := i1
  clear b0 b1 b2 b3 b4 b5 m0 m1 m2
  have y1 := hid (hX.out.trans x1)
  go_wp2_with fail
  refine (C2.out _ _ (Ints.at1 rfl)).mono ?_
  rintro _ _ ⟨rfl, rfl⟩
  obtain ⟨b0, b1, b2, b3, b4, b5⟩ := (hb.out.ext (x1.alloc (.cells #[.int .u64 z] 22))).at6
  obtain ⟨m0, m1, m2⟩ := (hA.out.ext (x1.alloc (.cells #[.int .u64 z] 22))).at3
  have y2 := hid (y1.out.alloc (.cells #[.int .u64 z] 22))
  go_wp2_with fail
  refine (CA.out _ y2.out).mono ?_
  rintro _ w2 ⟨rfl, x2⟩
  clear b0 b1 b2 b3 b4 b5 m0 m1 m2
  have y3 := hid (y2.out.trans x2)
  have hb3 := hid (hb.out.ext ((x1.alloc (.cells #[.int .u64 z] 22)).trans x2))
  have I3 := hid (I1.out.ext (((Ext.refl w1).alloc (.cells #[.int .u64 z] 22)).trans x2))
  obtain ⟨b0, b1, b2, b3, b4, b5⟩ := hb3.out.at6
  go_wp2_with fail
  have fs := hid (fun (W : World) (hW : Ext w2 W) => (hb3.out.ext hW).at6)
  have hb0 := hid ((⟨b0, b1, b2, b3, b4, b5⟩ : _ ∧ _ ∧ _ ∧ _ ∧ _ ∧ _))
  cases B1
  · clear fs hb0 b0 b1 b2 b3 b4 b5
    refine wp_region_held_drew (S := fun W' => Ext w2 W') (by kernel_rfl) ((Ext.refl w2).drew) (fun hHeld => ?_)
    refine wpAnyH_take (i := 0) (v := .int .u64 p) rfl (by kernel_rfl) (by kernel_rfl) (by kernel_rfl) (fun _ _ _ h => h) (Or.inl ⟨by rfl, ?_⟩) hHeld ?_
    · intro W' hSw
      go_simp
    refine wpAnyH_take (i := 1) (v := .int .u64 z) rfl (by kernel_rfl) (by kernel_rfl) (by kernel_rfl) (fun _ _ _ h => h) (Or.inl ⟨by rfl, ?_⟩) hHeld ?_
    · intro W' hSw
      go_simp
    refine wpAnyH_take (i := 2) (v := .slice a8 y.length c8) rfl (by kernel_rfl) (by kernel_rfl) (by kernel_rfl) (fun _ _ _ h => h) (Or.inl ⟨by rfl, ?_⟩) hHeld ?_
    · intro W' hSw
      go_simp
    refine wpAnyH_take (i := 3) (v := .slice a9 (timesL p n n xs y).length c9) rfl (by kernel_rfl) (by kernel_rfl) (by kernel_rfl) (fun _ _ _ h => h) (Or.inl ⟨by rfl, ?_⟩) hHeld ?_
    · intro W' hSw
      go_simp
    refine wpAnyH_take (i := 5) (v := .pointer (some ⟨w.heap.size + 1, 5, none⟩)) rfl (by kernel_rfl) (by kernel_rfl) (by kernel_rfl) (fun _ _ _ h => h) (Or.inl ⟨by rfl, ?_⟩) hHeld ?_
    · intro W' hSw
      go_simp
    refine wpAnyH_take (i := 6) (v := .slice a6 V.length c6) rfl (by kernel_rfl) (by kernel_rfl) (by kernel_rfl) (fun _ _ _ h => h) (Or.inl ⟨by rfl, ?_⟩) hHeld ?_
    · intro W' hSw
      have b5 := (hb3.out.ext hSw).cell 5
      go_simp
    refine held_step 4 (by kernel_rfl) rfl (fun K hK => ?_)
    go_simp
    go_wp2_with fail
    refine (C3.out _ _ (y3.out.trans hHeld) (I3.out.ext hHeld)).mono ?_
    rintro _ w4 ⟨z4, rfl, i4, x4⟩
    have I4 := hid i4
    obtain ⟨a10, c10, rfl, -, -, -⟩ := i4
    have x4' : Ext w2 w4 := hHeld.trans x4
    go_wp2_with fail
    refine hK.out _ _ x4' (fun hHeld => ?_)
    clear hK K
    refine held_step 7 (by kernel_rfl) rfl (fun K hK => ?_)
    go_simp
    go_wp2_with fail
    refine (C4.out _ _ (y3.out.trans x4') I4.out).mono ?_
    rintro _ w5 ⟨rfl, x5⟩
    have x5' : Ext w2 w5 := x4'.trans x5
    go_wp2_with fail
    refine hK.out _ _ x5' (fun hHeld => ?_)
    clear hK K
    refine wpAnyH_take (i := 8) (v := .bool false) rfl (by kernel_rfl) (by kernel_rfl) (by kernel_rfl) (fun _ _ _ h => h) (Or.inl ⟨by rfl, ?_⟩) hHeld ?_
    · intro W' hSw
      go_simp
    refine wpAnyH_take (i := 9) (v := undef) rfl (by kernel_rfl) (by kernel_rfl) (by kernel_rfl) (fun _ _ _ h => h) (Or.inr ⟨by rfl, rfl⟩) hHeld ?_
    refine wpAnyH_take (i := 10) (v := undef) rfl (by kernel_rfl) (by kernel_rfl) (by kernel_rfl) (fun _ _ _ h => h) (Or.inr ⟨by rfl, rfl⟩) hHeld ?_
    refine wpAnyH_take (i := 11) (v := undef) rfl (by kernel_rfl) (by kernel_rfl) (by kernel_rfl) (fun _ _ _ h => h) (Or.inr ⟨by rfl, rfl⟩) hHeld ?_
    refine wpAnyH_take (i := 12) (v := undef) rfl (by kernel_rfl) (by kernel_rfl) (by kernel_rfl) (fun _ _ _ h => h) (Or.inr ⟨by rfl, rfl⟩) hHeld ?_
    refine held_step 13 (by kernel_rfl) rfl (fun K hK => ?_)
    rw [if_neg (by exact fun h => Bool.noConfusion (show false = true from h))]
    refine hK.out _ _ hHeld (fun hHeld => ?_)
    clear hK K
    refine wpAnyH_take (i := 14) (v := .bool false) rfl (by kernel_rfl) (by kernel_rfl) (by kernel_rfl) (fun _ _ _ h => h) (Or.inl ⟨by rfl, ?_⟩) hHeld ?_
    · intro W' hSw
      go_simp
    refine held_step 15 (by kernel_rfl) rfl (fun K hK => ?_)
    go_simp
    refine hK.out _ _ hHeld (fun hHeld => ?_)
    clear hK K
    refine held_step 16 (by kernel_rfl) rfl (fun K hK => ?_)
    go_simp
    refine hK.out _ _ hHeld (fun hHeld => ?_)
    clear hK K
    refine wpAnyH_done (by kernel_rfl) ?_ _
    go_wp2_with fail
    go_ret2
    exact ⟨rfl, y3.out.trans x5'⟩
  · go_region_held3 (fun w' => w'.cell? ⟨w.heap.size + 1, 0, none⟩ = some (.slice a1 F.length c1) ∧ w'.cell? ⟨w.heap.size + 1, 1, none⟩ = some (.slice a2 H.length c2) ∧ w'.cell? ⟨w.heap.size + 1, 2, none⟩ = some (.slice a3 S.length c3) ∧ w'.cell? ⟨w.heap.size + 1, 3, none⟩ = some (.slice a4 T.length c4) ∧ w'.cell? ⟨w.heap.size + 1, 4, none⟩ = some (.slice a5 U.length c5) ∧ w'.cell? ⟨w.heap.size + 1, 5, none⟩ = some (.slice a6 V.length c6)) (first | assumption | exact fs.out _ (Ext.refl w2) | exact fs.out _ ((Ext.refl w2).drew) | exact fs.out _ (by assumption))
      ((first
      | (go_at_call 53; refine (C3.out _ _ (y3.out.trans (by repeat (first | exact Ext.refl _ | assumption | refine Ext.drew ?_ | refine Ext.drewN ?_ _ | refine Ext.alloc ?_ _ | refine Ext.trans ?_ (by assumption)))) (I3.out.ext (by repeat (first | exact Ext.refl _ | assumption | refine Ext.drew ?_ | refine Ext.drewN ?_ _ | refine Ext.alloc ?_ _ | refine Ext.trans ?_ (by assumption))))).mono ?_; rintro _ w4 ⟨z4, rfl, i4, x4⟩
         have I4 := hid i4
         obtain ⟨a10, c10, rfl, -, -, -⟩ := i4
         have x4' : Ext w2 w4 := Ext.trans (by repeat (first | exact Ext.refl _ | assumption | refine Ext.drew ?_ | refine Ext.drewN ?_ _ | refine Ext.alloc ?_ _ | refine Ext.trans ?_ (by assumption))) x4)
      | (go_at_call 35; refine (C4.out _ _ (y3.out.trans (x4'.trans (by repeat (first | exact Ext.refl _ | assumption | refine Ext.drew ?_ | refine Ext.drewN ?_ _ | refine Ext.alloc ?_ _ | refine Ext.trans ?_ (by assumption))))) (I4.out.ext (by repeat (first | exact Ext.refl _ | assumption | refine Ext.drew ?_ | refine Ext.drewN ?_ _ | refine Ext.alloc ?_ _ | refine Ext.trans ?_ (by assumption))))).mono ?_; rintro _ w5 ⟨rfl, x5⟩
         have x5' : Ext w2 w5 := x4'.trans (Ext.trans (by repeat (first | exact Ext.refl _ | assumption | refine Ext.drew ?_ | refine Ext.drewN ?_ _ | refine Ext.alloc ?_ _ | refine Ext.trans ?_ (by assumption))) x5))
      | (go_at_call 54; refine (C5.out _ (y3.out.trans (x5'.trans (by repeat (first | exact Ext.refl _ | assumption | refine Ext.drew ?_ | refine Ext.drewN ?_ _ | refine Ext.alloc ?_ _ | refine Ext.trans ?_ (by assumption)))))).mono ?_; rintro _ w6 ⟨rfl, x6⟩
         have x6' : Ext w2 w6 := x5'.trans (Ext.trans (by repeat (first | exact Ext.refl _ | assumption | refine Ext.drew ?_ | refine Ext.drewN ?_ _ | refine Ext.alloc ?_ _ | refine Ext.trans ?_ (by assumption))) x6))))
    go_wp2_with fail
    go_ret2
    exact ⟨by simp, y3.out.trans (by assumption)⟩
end Go.Proofs.YtijpeepdedfhoaaGreat
