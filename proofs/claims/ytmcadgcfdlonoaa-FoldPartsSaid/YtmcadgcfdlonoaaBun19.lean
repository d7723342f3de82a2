/- What the texts FoC, FoldL, One12, Awake12 show, in one text. -/
import Derived.Test.YtmcadgcfdlonoaaBun15
import Derived.Test.YtmcadgcfdlonoaaBun18
import Derived.Test.YtmcadgcfdlonoaaBun05
import Derived.Test.YtmcadgcfdlonoaaBun11
import Derived.Test.YtmcadgcfdlonoaaBun09
import Derived.Deep.RegionHeld3
/- Package fold: Silent; with it all that the laws ask of the package. -/
namespace Go.Proofs.Ytmcadgcfdlonoaa
open Go.RowKit Go.Maps

/-- how many find nothing -/
noncomputable def silentN (p m k n : Nat) (xs ys zs : List Int) : Nat := p ^ (n - (takeL (p : Int) m n (wrongL p m k n xs ys zs)).U.length)
set_option maxRecDepth 100000 in
set_option maxHeartbeats 1000000 in
theorem foSilent_yes (p m k n : Nat) (va vb vc : Value) (xs ys zs : List Int) (w : World) (hf : Fld (p : Int)) (ok : MatOk p m k xs) (oky : MatOk p k n ys) (okz : MatOk p m n zs) (ha : Ints .u64 w va xs) (hb : Ints .u64 w vb ys) (hc : Ints .u64 w vc zs)
    (hs : silentN p m k n xs ys zs < 9223372036854775808) :
    Calls Try.prog 11 #[.int .u64 p, matV m k va, matV k n vb, matV m n vc] w (Ret (.tuple #[.int .u64 (silentN p m k n xs ys zs : Int), .int .i64 0]) w) := by
  have hp2 := rightB_true ok.hp
  have C1 := hid fun (W : World) (hW : Ext w W) => foWrong_yes p m k n va vb vc xs ys zs W ok oky okz (ha.ext hW) (hb.ext hW) (hc.ext hW)
  have okw : MatOk p m n (wrongL p m k n xs ys zs) := okz.wrong
  have hle := (takeL_ok (m := m) (n := n) hp2.1 hf okw.hx).rank_le
  unfold silentN at hs ⊢
  obtain ⟨W0, eW⟩ : ∃ W0, wrongL p m k n xs ys zs = W0 := ⟨_, rfl⟩
  rw [eW] at C1 okw hle hs ⊢
  have C2 := hid fun (W : World) (z : Value) (hz : Ints .u64 W z W0) => cmRank p m n z W0 W okw hf hz
  obtain ⟨r, er⟩ : ∃ r, (takeL (p : Int) m n W0).U.length = r := ⟨_, rfl⟩
  rw [er] at C2 hle hs ⊢
  have hn := oky.hn
  have C3 := hid fun (W : World) => foPower_yes p (n - r) W (by omega) (by omega) (by omega) hs
  obtain ⟨d, ed⟩ : ∃ d, n - r = d := ⟨_, rfl⟩
  rw [ed] at C3 hs ⊢
  obtain ⟨P, eP⟩ : ∃ P, p ^ d = P := ⟨_, rfl⟩
  rw [eP] at C3 ⊢
  have id : (n : Int) - (r : Int) = (d : Int) := by omega
  clear eW er eP hs ed
  obtain ⟨a1, k1, rfl, -, -, -⟩ := ha
  obtain ⟨a2, k2, rfl, -, -, -⟩ := hb
  obtain ⟨a3, k3, rfl, -, -, -⟩ := hc
  have hB := hid (boxes_3 w 25 #[.int .i64 (m : Int), .int .i64 (k : Int), .slice a1 xs.length k1] #[.int .i64 (k : Int), .int .i64 (n : Int), .slice a2 ys.length k2] #[.int .i64 (m : Int), .int .i64 (n : Int), .slice a3 zs.length k3])
  obtain ⟨p0, p1, p2⟩ := hB.out.1.at3
  obtain ⟨u0, u1, u2⟩ := hB.out.2.1.at3
  obtain ⟨s0, s1, s2⟩ := hB.out.2.2.1.at3
  unfold RetN at C1
  unfold matV at *
  clear ok oky okz okw
  go_enter Try.func11, Try.ntmps11
  go_wp2_with (first
    | (go_at_call 12; refine (C1.out _ hB.out.2.2.2).mono ?_; rintro _ w1 ⟨z, rfl, hz, x1⟩; have HI := hid hz; obtain ⟨b1, c1, rfl, -, -, -⟩ := hz
       have y1 := (Ext.refl w1).alloc (.cells #[.int .i64 (m : Int), .int .i64 (n : Int), .slice b1 W0.length c1] 25); clear p0 p1 p2 u0 u1 u2 s0 s1 s2)
    | (go_at_call 25; refine (C2.out _ _ (HI.out.ext y1)).mono ?_; rintro _ w2 ⟨rfl, x2⟩
       obtain ⟨u0, u1, u2⟩ := (hB.out.2.1.ext (x1.trans (y1.trans x2))).at3)
    | (go_at_call 26; refine (C3.out _).mono ?_; rintro _ w3 ⟨rfl, x3⟩))
  go_ret2
  exact ⟨rfl, hB.out.2.2.2.trans (x1.trans (y1.trans (x2.trans x3)))⟩
end Go.Proofs.Ytmcadgcfdlonoaa
/- What layer 12's laws go through. -/
namespace Go.Proofs.Ytmcadgcfdlonoaa
open Go.RowKit Go.Maps

/-- matrices that meet -/
theorem meet_ok {p ra ca rb cb rc cc : Int} {xs ys zs : List Int} (hx : U64s xs) (hy : U64s ys) (hz : U64s zs) (h : meetB p ra ca rb cb rc cc xs ys zs = true) :
    ∃ m k n : Nat, ra = m ∧ ca = k ∧ rb = k ∧ cb = n ∧ rc = m ∧ cc = n ∧ MatOk p m k xs ∧ MatOk p k n ys ∧ MatOk p m n zs := by
  unfold meetB at h
  simp only [Bool.and_eq_true, decide_eq_true_eq] at h
  obtain ⟨h1, h2, h3, e1, e2, e3⟩ := h
  obtain ⟨m, k, rfl, rfl, ok⟩ := MatOk.of hx h1
  obtain ⟨k', n, rfl, rfl, oky⟩ := MatOk.of hy h2
  obtain ⟨m', n', rfl, rfl, okz⟩ := MatOk.of hz h3
  obtain rfl : k = k' := by omega
  obtain rfl : m' = m := by omega
  obtain rfl : n' = n := by omega
  exact ⟨m', k, n', rfl, rfl, rfl, rfl, rfl, rfl, ok, oky, okz⟩
/-- how many of the first N pass -/
def cntTo (p n : Nat) (P : List Int → Bool) (N : Nat) : Nat := sumN N fun M => if P (digV p M n) then 1 else 0
theorem cntTo_le (p n : Nat) (P : List Int → Bool) : ∀ N, cntTo p n P N ≤ N
  | 0 => Nat.le_refl _
  | N + 1 => by
    have := cntTo_le p n P N
    show cntTo p n P N + (if P (digV p N n) then 1 else 0) ≤ _
    split <;> omega
theorem cntTo_yes {p n N : Nat} {P : List Int → Bool} (h : P (digV p N n) = true) : cntTo p n P (N + 1) = cntTo p n P N + 1 := by
  show cntTo p n P N + (if P (digV p N n) then 1 else 0) = _
  rw [if_pos h]
theorem cntTo_no {p n N : Nat} {P : List Int → Bool} (h : P (digV p N n) = false) : cntTo p n P (N + 1) = cntTo p n P N := by
  show cntTo p n P N + (if P (digV p N n) then 1 else 0) = _
  rw [if_neg (by rw [h]; simp)]; rfl
theorem cntTo_all {p : Nat} (hp : 0 < p) (n : Nat) (P : List Int → Bool) : cntTo p n P (p ^ n) = cntV p n P := cntV_dig hp n P
end Go.Proofs.Ytmcadgcfdlonoaa
/- Layer 12's laws' own 1 by 1 matrices. -/
namespace Go.Proofs.Ytmcadgcfdlonoaa
open Go.RowKit Go.Maps

set_option maxHeartbeats 1000000 in
theorem l12one (x : Int) (w : World) : Calls Try.prog 16 #[.int .u64 x] w (RetM 1 1 [x] w) := by
  go_enter Try.func16, Try.ntmps16
  go_wp2_with fail
  have hbk := (Blk.new w 25 #[.int .i64 1, .int .i64 1, .slice (some ⟨w.heap.size + 1, 0, none⟩) 1 1]).ext ((Ext.refl _).alloc (.cells #[.int .u64 x] 22))
  have hI := Ints.new1 (k := .u64) (w := w.alloc (.cells #[.int .i64 1, .int .i64 1, .slice (some ⟨w.heap.size + 1, 0, none⟩) 1 1] 25)) (t := 22) (a := x)
  rw [alloc_size] at hI
  refine bodyPost_ret (results_cell_row rfl _ _ w.heap.size 25 #[.int .i64 1, .int .i64 1, .slice (some ⟨w.heap.size + 1, 0, none⟩) 1 1] (0, 0) _ rfl hbk Try.underlying25 rfl (by kernel_rfl)) rfl ?_
  exact ⟨_, rfl, hI, ((Ext.refl w).alloc _).alloc _⟩
end Go.Proofs.Ytmcadgcfdlonoaa
/- The first look of layer 12's laws: it answers true. -/
namespace Go.Proofs.Ytmcadgcfdlonoaa
open Go.RowKit Go.Maps

theorem ok12 (x : Int) (h : 0 ≤ x ∧ x < 7) : MatOk 7 1 1 [x] :=
  ⟨by decide, fun y hy => (show y = x by simpa using hy) ▸ h, by decide, by decide, rfl⟩
theorem isAl12 {w w' : World} {o : Obj} (_ : Ext (w.alloc o) w') : True := trivial
theorem isP7 : IsP 7 := ⟨by decide, fun d h2 hd => by
  have : d ≤ 2 := by
    apply Classical.byContradiction
    intro h
    have := Int.mul_le_mul (show 3 ≤ d by omega) (show 3 ≤ d by omega) (by omega) (by omega)
    omega
  obtain rfl : d = 2 := by omega
  decide⟩
theorem sil12 : silentN 7 1 1 1 [2] [3] [5] = 1 := by
  have h := silent_count (p := 7) (m := 1) (k := 1) (n := 1) (xs := [2]) (ys := [3]) (zs := [5]) (by decide) (fld_is isP7)
  rw [show cntV 7 1 (looksB (7 : Nat) 1 1 1 [2] [3] [5]) = 1 by decide +kernel] at h
  exact h.symm
theorem lk6 : looksB 7 1 1 1 [2] [3] [6] [5] = true := by decide +kernel
theorem lk5 : looksB 7 1 1 1 [2] [3] [5] [5] = false := by decide +kernel
theorem lf6 : leftB 7 1 1 1 [2] [3] [6] [1] = true := by decide +kernel
theorem lt5 : (!looksB 7 1 1 1 [2] [3] [5] [1]) = true := by decide +kernel
theorem wr5 : wrongL 7 1 1 1 [2] [3] [5] = [1] := by decide +kernel
set_option maxRecDepth 100000 in
set_option maxHeartbeats 8000000 in
theorem awake12 (w : World) : Calls Try.prog 5 #[] w (Ret (.bool true) w) := by
  have C6 := hid fun (W : World) (va vb vc v : Value) (h0 : Ints .u64 W va [2]) (h1 : Ints .u64 W vb [3]) (h2 : Ints .u64 W vc [6]) (h3 : Ints .u64 W v [5]) => (show Calls Try.prog 9 #[.int .u64 7, .agg #[.int .i64 1, .int .i64 1, va], .agg #[.int .i64 1, .int .i64 1, vb], .agg #[.int .i64 1, .int .i64 1, vc], v] W (Ret (.tuple #[.bool true, .int .i64 0]) W) from lk6 ▸ foLooks_yes 7 1 1 1 va vb vc v [2] [3] [6] [5] W (ok12 2 (by decide)) (ok12 3 (by decide)) (ok12 6 (by decide)) h0 h1 h2 h3 (by unfold Rng; decide) rfl)
  have C5 := hid fun (W : World) (va vb vc v : Value) (h0 : Ints .u64 W va [2]) (h1 : Ints .u64 W vb [3]) (h2 : Ints .u64 W vc [5]) (h3 : Ints .u64 W v [5]) => (show Calls Try.prog 9 #[.int .u64 7, .agg #[.int .i64 1, .int .i64 1, va], .agg #[.int .i64 1, .int .i64 1, vb], .agg #[.int .i64 1, .int .i64 1, vc], v] W (Ret (.tuple #[.bool false, .int .i64 0]) W) from lk5 ▸ foLooks_yes 7 1 1 1 va vb vc v [2] [3] [5] [5] W (ok12 2 (by decide)) (ok12 3 (by decide)) (ok12 5 (by decide)) h0 h1 h2 h3 (by unfold Rng; decide) rfl)
  have CF := hid fun (W : World) (va vb vc v : Value) (h0 : Ints .u64 W va [2]) (h1 : Ints .u64 W vb [3]) (h2 : Ints .u64 W vc [6]) (h3 : Ints .u64 W v [1]) => (show Calls Try.prog 15 #[.int .u64 7, v, .agg #[.int .i64 1, .int .i64 1, va], .agg #[.int .i64 1, .int .i64 1, vb], .agg #[.int .i64 1, .int .i64 1, vc]] W (Ret (.tuple #[.bool true, .int .i64 0]) W) from lf6 ▸ foLeft_yes 7 1 1 1 va vb vc v [2] [3] [6] [1] W (ok12 2 (by decide)) (ok12 3 (by decide)) (ok12 6 (by decide)) h0 h1 h2 h3 (by unfold Rng; decide) rfl)
  have CW := hid fun (W : World) (va vb vc : Value) (h0 : Ints .u64 W va [2]) (h1 : Ints .u64 W vb [3]) (h2 : Ints .u64 W vc [5]) => (show Calls Try.prog 12 #[.int .u64 7, .agg #[.int .i64 1, .int .i64 1, va], .agg #[.int .i64 1, .int .i64 1, vb], .agg #[.int .i64 1, .int .i64 1, vc]] W (RetN 1 1 [1] W) from wr5 ▸ foWrong_yes 7 1 1 1 va vb vc [2] [3] [5] W (ok12 2 (by decide)) (ok12 3 (by decide)) (ok12 5 (by decide)) h0 h1 h2)
  have CQ := hid fun (W : World) (va vb vc : Value) (h0 : Ints .u64 W va [2]) (h1 : Ints .u64 W vb [3]) (h2 : Ints .u64 W vc [5]) => (show Calls Try.prog 11 #[.int .u64 7, .agg #[.int .i64 1, .int .i64 1, va], .agg #[.int .i64 1, .int .i64 1, vb], .agg #[.int .i64 1, .int .i64 1, vc]] W (Ret (.tuple #[.int .u64 1, .int .i64 0]) W) from by have h := foSilent_yes 7 1 1 1 va vb vc [2] [3] [5] W (fld_is isP7) (ok12 2 (by decide)) (ok12 3 (by decide)) (ok12 5 (by decide)) h0 h1 h2 (by rw [sil12]; decide); rw [sil12] at h; exact h)
  have CT := hid fun (W : World) (va vb vc v : Value) (h0 : Ints .u64 W va [2]) (h1 : Ints .u64 W vb [3]) (h2 : Ints .u64 W vc [5]) (h3 : Ints .u64 W v [1]) => (show Calls Try.prog 18 #[.int .u64 7, .agg #[.int .i64 1, .int .i64 1, va], .agg #[.int .i64 1, .int .i64 1, vb], .agg #[.int .i64 1, .int .i64 1, vc], v] W (Ret (.bool true) W) from lt5 ▸ foTells_yes 7 1 1 1 va vb vc v [2] [3] [5] [1] W (ok12 2 (by decide)) (ok12 3 (by decide)) (ok12 5 (by decide)) h0 h1 h2 h3 (by unfold Rng; decide) rfl)
  have CC := hid fun (W : World) (va vb : Value) (h0 : Ints .u64 W va [2]) (h1 : Ints .u64 W vb [3]) => (show Calls Try.prog 19 #[.agg #[.int .i64 1, .int .i64 1, va], .agg #[.int .i64 1, .int .i64 1, vb]] W (Ret (.int .i64 3) W) from foCost_yes 7 1 1 1 va vb [2] [3] W (ok12 2 (by decide)) (ok12 3 (by decide)) h0 h1)
  have CS := hid fun (W : World) (va vb : Value) (h0 : Ints .u64 W va [1]) (h1 : Ints .u64 W vb [1]) => (show Calls Try.prog 17 #[.agg #[.int .i64 1, .int .i64 1, va], .agg #[.int .i64 1, .int .i64 1, vb]] W (Ret (.bool true) W) from (show decide ((1 : Int) = 1 ∧ (1 : Int) = 1 ∧ ([1] : List Int) = [1]) = true by decide) ▸ rmSame 1 1 1 1 va vb [1] [1] W h0 h1)
  have C1 := hid fun (W : World) (x : Int) => l12one x W
  unfold RetM matV at C1
  unfold RetN matV at CW
  go_enter Try.func5, Try.ntmps5
  go_wp2_with fail
  refine (C1.out _ 2).mono ?_
  rintro _ w1 ⟨u1, rfl, i1, xw1⟩
  have I1 := hid i1
  obtain ⟨a1, c1, rfl, -, -, -⟩ := i1
  go_wp2_with fail
  refine (C1.out _ 3).mono ?_
  rintro _ w2 ⟨u2, rfl, i2, xw2⟩
  have I2 := hid i2
  obtain ⟨a2, c2, rfl, -, -, -⟩ := i2
  go_wp2_with fail
  refine (C1.out _ 6).mono ?_
  rintro _ w3 ⟨u3, rfl, i3, xw3⟩
  have I3 := hid i3
  obtain ⟨a3, c3, rfl, -, -, -⟩ := i3
  have I4 := hid (Ints.new1 (k := .u64) (w := w3) (t := 22) (a := 5))
  have z4 := (Ext.refl w3).alloc (.cells #[.int .u64 5] 22)
  go_wp2_with fail
  refine (C6.out _ _ _ _ _ (I1.out.ext (xw2.trans (xw3.trans z4))) (I2.out.ext (xw3.trans z4)) (I3.out.ext z4) I4.out).mono ?_
  rintro _ w5 ⟨rfl, xw5⟩
  go_wp2_with fail
  refine (C1.out _ 2).mono ?_
  rintro _ w6 ⟨u6, rfl, i6, xw6⟩
  have I6 := hid i6
  obtain ⟨a6, c6, rfl, -, -, -⟩ := i6
  go_wp2_with fail
  refine (C1.out _ 3).mono ?_
  rintro _ w7 ⟨u7, rfl, i7, xw7⟩
  have I7 := hid i7
  obtain ⟨a7, c7, rfl, -, -, -⟩ := i7
  go_wp2_with fail
  refine (C1.out _ 5).mono ?_
  rintro _ w8 ⟨u8, rfl, i8, xw8⟩
  have I8 := hid i8
  obtain ⟨a8, c8, rfl, -, -, -⟩ := i8
  have I9 := hid (Ints.new1 (k := .u64) (w := w8) (t := 22) (a := 5))
  have z9 := (Ext.refl w8).alloc (.cells #[.int .u64 5] 22)
  go_wp2_with fail
  refine (C5.out _ _ _ _ _ (I6.out.ext (xw7.trans (xw8.trans z9))) (I7.out.ext (xw8.trans z9)) (I8.out.ext z9) I9.out).mono ?_
  rintro _ w10 ⟨rfl, xw10⟩
  have I11 := hid (Ints.new1 (k := .u64) (w := w10) (t := 22) (a := 1))
  have z11 := (Ext.refl w10).alloc (.cells #[.int .u64 1] 22)
  go_wp2_with fail
  refine (C1.out _ 2).mono ?_
  rintro _ w12 ⟨u12, rfl, i12, xw12⟩
  have I12 := hid i12
  obtain ⟨a12, c12, rfl, -, -, -⟩ := i12
  go_wp2_with fail
  refine (C1.out _ 3).mono ?_
  rintro _ w13 ⟨u13, rfl, i13, xw13⟩
  have I13 := hid i13
  obtain ⟨a13, c13, rfl, -, -, -⟩ := i13
  go_wp2_with fail
  refine (C1.out _ 6).mono ?_
  rintro _ w14 ⟨u14, rfl, i14, xw14⟩
  have I14 := hid i14
  obtain ⟨a14, c14, rfl, -, -, -⟩ := i14
  go_wp2_with fail
  refine (CF.out _ _ _ _ _ (I12.out.ext (xw13.trans xw14)) (I13.out.ext xw14) I14.out (I11.out.ext (xw12.trans (xw13.trans xw14)))).mono ?_
  rintro _ w15 ⟨rfl, xw15⟩
  go_wp2_with fail
  refine (C1.out _ 2).mono ?_
  rintro _ w16 ⟨u16, rfl, i16, xw16⟩
  have I16 := hid i16
  obtain ⟨a16, c16, rfl, -, -, -⟩ := i16
  go_wp2_with fail
  refine (C1.out _ 3).mono ?_
  rintro _ w17 ⟨u17, rfl, i17, xw17⟩
  have I17 := hid i17
  obtain ⟨a17, c17, rfl, -, -, -⟩ := i17
  go_wp2_with fail
  refine (C1.out _ 5).mono ?_
  rintro _ w18 ⟨u18, rfl, i18, xw18⟩
  have I18 := hid i18
  obtain ⟨a18, c18, rfl, -, -, -⟩ := i18
  go_wp2_with fail
  refine (CW.out _ _ _ _ (I16.out.ext (xw17.trans xw18)) (I17.out.ext xw18) I18.out).mono ?_
  rintro _ w19 ⟨u19, rfl, i19, xw19⟩
  have I19 := hid i19
  obtain ⟨a19, c19, rfl, -, -, -⟩ := i19
  have z20 := (Ext.refl w19).alloc (.cells #[.int .i64 1, .int .i64 1, .slice a19 1 c19] 25)
  have HW := hid (Blk.new w19 25 #[.int .i64 1, .int .i64 1, .slice a19 1 c19])
  go_wp2_with fail
  refine (C1.out _ 2).mono ?_
  rintro _ w20 ⟨u20, rfl, i20, xw20⟩
  have I20 := hid i20
  obtain ⟨a20, c20, rfl, -, -, -⟩ := i20
  go_wp2_with fail
  refine (C1.out _ 3).mono ?_
  rintro _ w21 ⟨u21, rfl, i21, xw21⟩
  have I21 := hid i21
  obtain ⟨a21, c21, rfl, -, -, -⟩ := i21
  go_wp2_with fail
  refine (C1.out _ 5).mono ?_
  rintro _ w22 ⟨u22, rfl, i22, xw22⟩
  have I22 := hid i22
  obtain ⟨a22, c22, rfl, -, -, -⟩ := i22
  go_wp2_with fail
  refine (CQ.out _ _ _ _ (I20.out.ext (xw21.trans xw22)) (I21.out.ext xw22) I22.out).mono ?_
  rintro _ w23 ⟨rfl, xw23⟩
  have IW := hid (show Ints .u64 w23 _ _ from (I19.out.ext (z20.trans (xw20.trans (xw21.trans (xw22.trans xw23))))))
  have fs := hid fun (W : World) (hW : Ext w23 W) => ((HW.out.ext (xw20.trans (xw21.trans (xw22.trans xw23)))).ext hW).at3
  have yS := hid (xw1.trans (xw2.trans (xw3.trans (z4.trans (xw5.trans (xw6.trans (xw7.trans (xw8.trans (z9.trans (xw10.trans (z11.trans (xw12.trans (xw13.trans (xw14.trans (xw15.trans (xw16.trans (xw17.trans (xw18.trans (xw19.trans (z20.trans (xw20.trans (xw21.trans (xw22.trans xw23)))))))))))))))))))))))
  clear C5 C6 CF CW CQ HW I1 I2 I3 I4 I6 I7 I8 I9 I11 I12 I13 I14 I16 I17 I18 I19 I20 I21 I22 xw1 xw2 xw3 z4 xw5 xw6 xw7 xw8 z9 xw10 z11 xw12 xw13 xw14 xw15 xw16 xw17 xw18 xw19 z20 xw20 xw21 xw22 xw23
  go_wp2_with fail
  go_region_held3 (fun w' => w'.cell? ⟨w19.heap.size, 0, none⟩ = some (.int .i64 1) ∧ w'.cell? ⟨w19.heap.size, 1, none⟩ = some (.int .i64 1) ∧ w'.cell? ⟨w19.heap.size, 2, none⟩ = some (.slice a19 1 c19)) (first | assumption | exact fs.out _ ((Ext.refl w23).drew) | exact fs.out _ (by assumption) | exact fs.out _ (Ext.alloc (by assumption) _))
    ((first
      | (go_at_call 16; have t_ := y7; clear t_; refine (C1.out _ 3).mono ?_; rintro _ p8 ⟨q8, rfl, j8, k8⟩; have J8 := hid j8; obtain ⟨b8, d8, rfl, -, -, -⟩ := j8; have y8 : Ext w23 p8 := y7.trans k8)
      | (go_at_call 16; have t_ := y6; clear t_; refine (C1.out _ 2).mono ?_; rintro _ p7 ⟨q7, rfl, j7, k7⟩; have J7 := hid j7; obtain ⟨b7, d7, rfl, -, -, -⟩ := j7; have y7 : Ext w23 p7 := y6.trans k7)
      | (go_at_call 16; have t_ := y4; clear t_; refine (C1.out _ 5).mono ?_; rintro _ p5 ⟨q5, rfl, j5, k5⟩; have J5 := hid j5; obtain ⟨b5, d5, rfl, -, -, -⟩ := j5; have y5 : Ext w23 p5 := by first | (with_reducible exact y4.trans k5) | exact (y4.alloc _).trans k5)
      | (go_at_call 16; have t_ := y3; clear t_; refine (C1.out _ 3).mono ?_; rintro _ p4 ⟨q4, rfl, j4, k4⟩; have J4 := hid j4; obtain ⟨b4, d4, rfl, -, -, -⟩ := j4; have y4 : Ext w23 p4 := by first | (with_reducible exact y3.trans k4) | exact (y3.alloc _).trans k4)
      | (go_at_call 16; have t_ := y2; clear t_; refine (C1.out _ 2).mono ?_; rintro _ p3 ⟨q3, rfl, j3, k3⟩; have J3 := hid j3; obtain ⟨b3, d3, rfl, -, -, -⟩ := j3; have y3 : Ext w23 p3 := by first | (with_reducible exact y2.trans k3) | exact (y2.alloc _).trans k3)
      | (go_at_call 16; refine (C1.out _ 1).mono ?_; rintro _ p1 ⟨q1, rfl, j1, k1⟩; have J1 := hid j1; obtain ⟨b1, d1, rfl, -, -, -⟩ := j1; have y1 : Ext w23 p1 := Ext.trans ((Ext.refl w23).drew) k1)
      | (go_at_call 17; refine (CS.out _ _ _ (IW.out.ext y1) J1.out).mono ?_; rintro _ p2 ⟨rfl, k2⟩; have y2 := y1.trans k2)
      | (go_at_call 18; first
          | ((with_reducible have t_ := isAl12 (w := p4) k5); clear t_; refine (CT.out _ _ _ _ _ (J3.out.ext ((k4.alloc _).trans k5)) (J4.out.ext (((Ext.refl _).alloc _).trans k5)) J5.out (Ints.new1.ext k5)).mono ?_; rintro _ p6 ⟨rfl, k6⟩; have y6 : Ext w23 p6 := y5.trans k6)
          | ((with_reducible have t_ := isAl12 (w := p3) k4); clear t_; refine (CT.out _ _ _ _ _ (J3.out.ext ((((Ext.refl _).alloc _).trans k4).trans k5)) (J4.out.ext k5) J5.out (Ints.new1.ext (k4.trans k5))).mono ?_; rintro _ p6 ⟨rfl, k6⟩; have y6 : Ext w23 p6 := y5.trans k6)
          | ((with_reducible have t_ := isAl12 (w := p2) k3); clear t_; refine (CT.out _ _ _ _ _ (J3.out.ext (k4.trans k5)) (J4.out.ext k5) J5.out (Ints.new1.ext (k3.trans (k4.trans k5)))).mono ?_; rintro _ p6 ⟨rfl, k6⟩; have y6 : Ext w23 p6 := y5.trans k6)
          | (refine (CT.out _ _ _ _ _ ((J3.out.ext (k4.trans k5)).alloc _) ((J4.out.ext k5).alloc _) (J5.out.alloc _) Ints.new1).mono ?_; rintro _ p6 ⟨rfl, k6⟩; have y6 : Ext w23 p6 := (y5.alloc _).trans k6))
      | (go_at_call 19; refine (CC.out _ _ _ (J7.out.ext k8) J8.out).mono ?_; rintro _ p9 ⟨rfl, k9⟩; have y9 := y8.trans k9)))
  all_goals
    go_wp2_with fail
    go_ret
    exact ⟨ret_bool (by simp), yS.out.trans y9⟩
end Go.Proofs.Ytmcadgcfdlonoaa
