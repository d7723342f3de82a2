/- TapeLeft: whatever the modulus, the tape and the cut, the law answers true, and nothing that was there has turned. No condition. -/
import Derived.Test.YtcganfmlfoebpaaTpL
import Derived.Test.YtcganfmlfoebpaaAwake10
import Derived.Test.YtcganfmlfoebpaaOpenTp
namespace Go.Proofs.Ytcganfmlfoebpaa.tapeLeft
open Go.ChangeShapes Go.WideShapes Go.ChangeAt Go.RowKit Go.Maps

set_option maxRecDepth 100000 in
set_option maxHeartbeats 2000000 in
theorem walk (p k : Int) (v : Value) (xs : List Int) (c : Int) (w : World) (wp : (Lit.int .u64 p).wf = true) (wk : (Lit.int .i64 k).wf = true) (hv : Ints .u64 w v xs) (hx : ∀ x ∈ xs, (Lit.int .u64 x).wf = true) (wc : (Lit.int .u8 c).wf = true) :
    Calls Try.prog 5 #[.int .u64 p, .agg #[v, .int .i64 k], .int .u8 c] w (Ret (.bool true) w) := by
  have hp := u64_wf wp
  have hkw := i64_wf wk
  have hcw := u8_wf wc
  have hX : U64s xs := fun x h => u64_wf (hx x h)
  obtain ⟨i0, hi, hz0, hz1, hz2⟩ := info_parts info_u64p
  clear wp wk wc hx
  have CT := hid fun (W : World) (hW : Ext w W) => tpRightE (k := k) (B := tapeB k xs) rfl (hv.ext hW)
  have CR := hid fun (W : World) => right_any p W hp.1 hp.2
  have HV := hid hv
  obtain ⟨a, cap, rfl, -, -, -⟩ := hv
  have HT := hid (Blk.new w 25 #[.slice a xs.length cap, .int .i64 k])
  by_cases g1 : 60 < xs.length
  · go_enter Try.func5, Try.ntmps5
    go_wp2_with fail
    refine (awake10 _).mono ?_
    rintro _ w1 ⟨rfl, x1⟩
    obtain ⟨b0, b1⟩ := (HT.out.ext x1).at2
    go_wp2_with fail
    go_ret
    exact ⟨rfl, Ext.trans (by repeat (first | exact Ext.refl _ | assumption | refine Ext.drew ?_ | refine Ext.drewN ?_ _ | refine Ext.alloc ?_ _ | refine Ext.trans ?_ (by assumption))) x1⟩
  cases hT : tapeB k xs with
  | false =>
    rw [hT] at CT
    go_enter Try.func5, Try.ntmps5
    go_wp2_with fail
    refine (awake10 _).mono ?_
    rintro _ w1 ⟨rfl, x1⟩
    obtain ⟨b0, b1⟩ := (HT.out.ext x1).at2
    go_wp2_with fail
    refine (CT.out _ (Ext.trans (by repeat (first | exact Ext.refl _ | assumption | refine Ext.drew ?_ | refine Ext.drewN ?_ _ | refine Ext.alloc ?_ _ | refine Ext.trans ?_ (by assumption))) x1)).mono ?_
    rintro _ w2 ⟨rfl, x2⟩
    go_wp2_with fail
    go_ret
    exact ⟨rfl, (Ext.trans (by repeat (first | exact Ext.refl _ | assumption | refine Ext.drew ?_ | refine Ext.drewN ?_ _ | refine Ext.alloc ?_ _ | refine Ext.trans ?_ (by assumption))) x1).trans x2⟩
  | true =>
  rw [hT] at CT
  obtain ⟨-, K, rfl, hK⟩ := tapeB_mk hT
  cases hR : rightB p with
  | false =>
    rw [hR] at CR
    go_enter Try.func5, Try.ntmps5
    go_wp2_with fail
    refine (awake10 _).mono ?_
    rintro _ w1 ⟨rfl, x1⟩
    obtain ⟨b0, b1⟩ := (HT.out.ext x1).at2
    go_wp2_with fail
    refine (CT.out _ (Ext.trans (by repeat (first | exact Ext.refl _ | assumption | refine Ext.drew ?_ | refine Ext.drewN ?_ _ | refine Ext.alloc ?_ _ | refine Ext.trans ?_ (by assumption))) x1)).mono ?_
    rintro _ w2 ⟨rfl, x2⟩
    go_wp2_with fail
    refine (CR.out _).mono ?_
    rintro _ _ ⟨rfl, rfl⟩
    go_wp2_with fail
    go_ret
    exact ⟨rfl, (Ext.trans (by repeat (first | exact Ext.refl _ | assumption | refine Ext.drew ?_ | refine Ext.drewN ?_ _ | refine Ext.alloc ?_ _ | refine Ext.trans ?_ (by assumption))) x1).trans x2⟩
  | true =>
  rw [hR] at CR
  obtain ⟨G, hG⟩ : ∃ G, (xs.drop K).filter (cntB p) = G := ⟨_, rfl⟩
  obtain ⟨N, hN⟩ : ∃ N, G.length = N := ⟨_, rfl⟩
  have hNl : N ≤ 60 := by
    have h1 := List.length_filter_le (cntB p) (xs.drop K)
    rw [hG, hN, List.length_drop] at h1
    omega
  obtain ⟨kk, ek⟩ : ∃ kk : Nat, c % ((N : Int) + 1) = kk := ⟨(c % ((N : Int) + 1)).toNat, by have := Int.emod_nonneg c (show (N : Int) + 1 ≠ 0 by omega); omega⟩
  have hkN : kk ≤ N := by have := Int.emod_lt_of_pos c (show 0 < (N : Int) + 1 by omega); omega
  obtain ⟨U, V, -, hV, hU, F1, F2, F3, F4, F5⟩ := part_facts hR (by omega) hK (kk := kk) (by rw [hG, hN]; exact hkN)
  rw [hG] at F4
  rw [hG, hN] at F1 F2 F5
  obtain ⟨M, hM⟩ : ∃ M, N - kk = M := ⟨_, rfl⟩
  have hMi : (N : Int) - (kk : Int) = (M : Int) := by omega
  have hctm : c.tmod ((N : Int) + 1) = (kk : Int) := by rw [Int.tmod_eq_emod_of_nonneg hcw.1]; exact ek
  rw [hM] at F5
  obtain ⟨S, hS⟩ : ∃ S, ((G.map fun x => x % p).filter fun y => decide (y ≠ 0)).length = S := ⟨_, rfl⟩
  obtain ⟨O, J, hO, F6, F7⟩ := other_facts hR (by omega) hK (S := S) (by rw [hG]; exact hS.symm)
  have hSle : S ≤ N := by
    have h1 := List.length_filter_le (fun y => decide (y ≠ 0)) (G.map fun x => x % p)
    rw [hS, List.length_map, hN] at h1; exact h1
  obtain ⟨L, hL⟩ : ∃ L, (G.map fun x => x % p) = L := ⟨_, rfl⟩
  have hLl : L.length = N := by rw [← hL, List.length_map, hN]
  have hAB : (G.take kk).map (fun x => x % p) ++ (G.drop kk).map (fun x => x % p) = L := by rw [← List.map_append, List.take_append_drop, hL]
  have hAl : ((G.take kk).map (fun x => x % p)).length = kk := by rw [List.length_map, List.length_take]; omega
  have hBl : ((G.drop kk).map (fun x => x % p)).length = M := by rw [List.length_map, List.length_drop]; omega
  have hLu := hL ▸ nums_u64 hR G
  have hLh := hL ▸ nums_has hR G
  rw [hL] at F1 hS
  obtain ⟨A, eA⟩ : ∃ A, (G.take kk).map (fun x => x % p) = A := ⟨_, rfl⟩
  obtain ⟨B, eB⟩ : ∃ B, (G.drop kk).map (fun x => x % p) = B := ⟨_, rfl⟩
  rw [eA] at hAB hAl F4
  rw [eB] at hAB hBl F5
  have F0 : leftN p K xs = N := by rw [left_yes (xs := xs) (by omega) hK, hG, hN]
  have D0 := hid fun (W : World) (u : Value) (hu : Ints .u64 W u xs) => tpLeftE hp.1 hp.2 hX F0 hu
  have D1 := hid fun (W : World) (u : Value) (hu : Ints .u64 W u xs) => tpManyE hp.1 hp.2 (by omega) hkw hX (by omega) F1.1 F1.2.1 F1.2.2 hu
  have D2 := hid fun (W : World) (u : Value) (hu : Ints .u64 W u xs) => tpManyE hp.1 hp.2 (by omega) hkw hX (by omega) F2.1 F2.2.1 F2.2.2 hu
  have D3 := hid fun (W : World) (u : Value) (hu : Ints .u64 W u xs) => tpLeftE hp.1 hp.2 hX F3 hu
  have D4 := hid fun (W : World) (u : Value) (hu : Ints .u64 W u xs) => tpManyE hp.1 hp.2 (by omega) hkw hX (by omega) F4.1 F4.2.1 F4.2.2 hu
  have D5 := hid fun (W : World) (u : Value) (hu : Ints .u64 W u xs) => tpManyE hp.1 hp.2 (by omega) (by omega) hX (by omega) F5.1 F5.2.1 F5.2.2 hu
  have D6 := hid fun (W : World) (u : Value) (hu : Ints .u64 W u xs) => tpOtherE hp.1 hp.2 (by omega) hkw hX (by omega) F6.1 F6.2.1 F6.2.2 hu
  have D7 := hid fun (W : World) (u : Value) (hu : Ints .u64 W u xs) => tpOtherE hp.1 hp.2 (by omega) hkw hX (by omega) F7.1 F7.2.1 F7.2.2 hu
  have CH := hid fun (W : World) (u : Value) (hu : Ints .u64 W u L) => has_any p u L W hp.1 hp.2 hu hLu
  rw [hLh] at CH
  have CS := hid fun (W : World) (u u' : Value) (hu : Ints .u64 W u L) (hu' : Ints .u64 W u' L) => same_any u u' L L W hu hu'
  rw [decide_eq_true rfl] at CS
  unfold RetTp at D1 D2 D4 D5 D6 D7
  have HLL := hid hLl; have HAL := hid hAl; have HBL := hid hBl; have HAB := hid hAB; have HS := hid hS; have HO := hid hO
  clear F0 F1 F2 F3 F4 F5 F6 F7 hG hN hM hL hLl hAB hAl hBl hLu hLh eA eB hS hO hT hR ek
  have HNK := hid hkN
  go_enter Try.func5, Try.ntmps5
  have z1 := (Ext.refl w).alloc (.cells #[.slice a xs.length cap, .int .i64 (K : Int)] 25)
  go_wp2_with fail
  refine (awake10 _).mono ?_
  rintro _ w1 ⟨rfl, xw1⟩
  obtain ⟨ht_0, ht_1⟩ := (HT.out.ext xw1).at2
  go_wp2_with fail
  refine (CT.out _ (z1.trans xw1)).mono ?_
  rintro _ w2 ⟨rfl, xw2⟩
  clear ht_0 ht_1
  go_wp2_with fail
  refine (CR.out _).mono ?_
  rintro _ _ ⟨rfl, rfl⟩
  obtain ⟨ht_0, ht_1⟩ := (HT.out.ext (xw1.trans xw2)).at2
  go_wp2_with fail
  refine (D0.out _ _ (HV.out.ext (z1.trans (xw1.trans xw2)))).mono ?_
  rintro _ w3 ⟨rfl, xw3⟩
  clear ht_0 ht_1
  obtain ⟨ht_0, ht_1⟩ := (HT.out.ext (xw1.trans (xw2.trans xw3))).at2
  go_wp2_with fail
  refine (D1.out _ _ (HV.out.ext (z1.trans (xw1.trans (xw2.trans xw3))))).mono ?_
  rintro _ q4 ⟨v4, u4, rfl, j4, i4, xq4⟩
  clear ht_0 ht_1
  have I4 := hid i4
  have J4 := hid j4
  obtain ⟨b4, d4, rfl, -, -, -⟩ := j4
  obtain ⟨a4, c4, rfl, -, -, -⟩ := i4
  rw [HLL.out]
  have z6 := (Ext.refl q4).alloc (.cells #[.slice a4 xs.length c4, .int .i64 (U : Int)] 25)
  have H4 := hid (Blk.new q4 25 #[.slice a4 xs.length c4, .int .i64 (U : Int)])
  obtain ⟨ht_0, ht_1⟩ := (HT.out.ext (xw1.trans (xw2.trans (xw3.trans (xq4.trans z6))))).at2
  go_wp2_with fail
  refine (D2.out _ _ (HV.out.ext (z1.trans (xw1.trans (xw2.trans (xw3.trans (xq4.trans z6))))))).mono ?_
  rintro _ q5 ⟨v5, u5, rfl, j5, i5, xq5⟩
  clear ht_0 ht_1
  have I5 := hid i5
  have J5 := hid j5
  obtain ⟨b5, d5, rfl, -, -, -⟩ := j5
  obtain ⟨a5, c5, rfl, -, -, -⟩ := i5
  have z8 := (Ext.refl q5).alloc (.cells #[.slice a5 xs.length c5, .int .i64 (xs.length : Int)] 25)
  have H5 := hid (Blk.new q5 25 #[.slice a5 xs.length c5, .int .i64 (xs.length : Int)])
  have J4n := hid (HLL.out ▸ J4.out : Ints .u64 q4 (.slice b4 N d4) L)
  go_wp2_with fail
  refine (CH.out _ _ (J4n.out.ext (z6.trans (xq5.trans z8)))).mono ?_
  rintro _ _ ⟨rfl, rfl⟩
  obtain ⟨h4_0, h4_1⟩ := (H4.out.ext (xq5.trans z8)).at2
  go_wp2_with fail
  refine (D3.out _ _ (I4.out.ext (z6.trans (xq5.trans z8)))).mono ?_
  rintro _ w6 ⟨rfl, xw6⟩
  clear h4_0 h4_1
  obtain ⟨ht_0, ht_1⟩ := (HT.out.ext (xw1.trans (xw2.trans (xw3.trans (xq4.trans (z6.trans (xq5.trans (z8.trans xw6)))))))).at2
  go_wp2_with fail
  refine (D4.out _ _ (HV.out.ext (z1.trans (xw1.trans (xw2.trans (xw3.trans (xq4.trans (z6.trans (xq5.trans (z8.trans xw6)))))))))).mono ?_
  rintro _ q7 ⟨v7, u7, rfl, j7, i7, xq7⟩
  clear ht_0 ht_1
  have I7 := hid i7
  have J7 := hid j7
  obtain ⟨b7, d7, rfl, -, -, -⟩ := j7
  obtain ⟨a7, c7, rfl, -, -, -⟩ := i7
  rw [HAL.out]
  have z11 := (Ext.refl q7).alloc (.cells #[.slice a7 xs.length c7, .int .i64 (V : Int)] 25)
  have H7 := hid (Blk.new q7 25 #[.slice a7 xs.length c7, .int .i64 (V : Int)])
  obtain ⟨h7_0, h7_1⟩ := H7.out.at2
  go_wp2_with fail
  refine (D5.out _ _ (I7.out.ext z11)).mono ?_
  rintro _ q8 ⟨v8, u8, rfl, j8, i8, xq8⟩
  clear h7_0 h7_1
  have I8 := hid i8
  have J8 := hid j8
  obtain ⟨b8, d8, rfl, -, -, -⟩ := j8
  obtain ⟨a8, c8, rfl, -, -, -⟩ := i8
  rw [HBL.out]
  have z13 := (Ext.refl q8).alloc (.cells #[.slice a8 xs.length c8, .int .i64 (U : Int)] 25)
  have H8 := hid (Blk.new q8 25 #[.slice a8 xs.length c8, .int .i64 (U : Int)])
  have J7n := hid (HAL.out ▸ J7.out : Ints .u64 q7 (.slice b7 kk d7) A)
  have J8n := hid (HBL.out ▸ J8.out : Ints .u64 q8 (.slice b8 M d8) B)
  go_upto_region 13 with fail
  obtain ⟨h4_0, h4_1⟩ := (H4.out.ext (xq5.trans (z8.trans (xw6.trans (xq7.trans (z11.trans (xq8.trans z13))))))).at2
  obtain ⟨h8_0, h8_1⟩ := H8.out.at2
  have XW := hid ((z1.trans (xw1.trans (xw2.trans (xw3.trans (xq4.trans (z6.trans (xq5.trans (z8.trans (xw6.trans (xq7.trans (z11.trans (xq8.trans z13)))))))))))))
  obtain ⟨W, eW⟩ : ∃ W, (q8.alloc (.cells #[.slice a8 xs.length c8, .int .i64 (U : Int)] 25)) = W := ⟨_, rfl⟩
  have HA := hid (J7n.out.ext (z11.trans (xq8.trans z13)))
  have HB := hid (J8n.out.ext z13)
  have H4L := hid (J4n.out.ext (z6.trans (xq5.trans (z8.trans (xw6.trans (xq7.trans (z11.trans (xq8.trans z13))))))))
  have HTW := hid (HT.out.ext (xw1.trans (xw2.trans (xw3.trans (xq4.trans (z6.trans (xq5.trans (z8.trans (xw6.trans (xq7.trans (z11.trans (xq8.trans z13))))))))))))
  have HVW := hid (HV.out.ext (z1.trans (xw1.trans (xw2.trans (xw3.trans (xq4.trans (z6.trans (xq5.trans (z8.trans (xw6.trans (xq7.trans (z11.trans (xq8.trans z13)))))))))))))
  rw [eW] at HA HB H4L XW HTW HVW
  rw [eW]
  rw [eW] at h4_0 h4_1 h8_0 h8_1
  clear eW
  have hE := hid (World.ownsRow_lit (base := W.heap.size) (e := 22) (size := 1) W #[] 0 (Nat.le_refl _) (by simp [maxLen]) rfl)
  have hA60 : A.length ≤ 60 := by have := HAL.out; omega
  have hB60 : B.length ≤ 60 := by have := HBL.out; omega
  go_wp2_with (first
    | (at_builtin; (refine wpList_append_ints_w (by first | rfl | (simp [Region.wanted, yielded]; done)) _ _ 23 rfl W.heap.size 22 i0 (.int .u64 0) 8 Try.underlying23 hi hz0 hz1 hz2 rfl _ 0 _ rfl hE.out _ A rfl (HA.out.alloc _) (by simp only [maxLen]; omega) (by omega) (by simp) ?_)
       intro va wa howna hgrowa
       have xa : Ext W wa := ((Ext.refl W).alloc _).grown hgrowa (fun k e => by cases e; exact Nat.le_refl _)
       rw [Nat.zero_add, List.nil_append] at howna
       have Ha := hid howna
       obtain ⟨aa, ca, rfl, -, -, -, -⟩ := WRow.of_owns howna
       clear howna hgrowa)
    | (at_builtin; (refine wpList_append_ints_w (by first | rfl | (simp [Region.wanted, yielded]; done)) _ _ 23 rfl W.heap.size 22 i0 (.int .u64 0) 8 Try.underlying23 hi hz0 hz1 hz2 rfl _ A.length _ rfl Ha.out _ B rfl (HB.out.ext xa) (by simp only [maxLen]; omega) (by omega) xa.size ?_)
       intro vb wb hownb hgrowb
       have xb : Ext W wb := xa.grown hgrowb (fun k e => (Ha.out.lt k e).1)
       rw [← List.map_append, HAB.out] at hownb
       have Hb := hid (own_ints hownb)
       obtain ⟨ab, cb, rfl, -, -, -, -⟩ := WRow.of_owns hownb
       clear hownb hgrowb)
    | (go_at_call 15; refine (CS.out _ _ _ Hb.out (H4L.out.ext xb)).mono ?_; rintro _ wc ⟨rfl, xc⟩)
    | fail)
  have xWc := hid (xb.trans xc)
  have HTc := hid (HTW.out.ext xWc.out)
  have HLc := hid (H4L.out.ext xWc.out)
  have HVc := hid (HVW.out.ext xWc.out)
  clear h4_0 h4_1 h8_0 h8_1
  have hft := hid (fun j (h : j < L.length) => filter_take (fun y => decide (y ≠ 0)) L j h)
  have hL0 := HLc.out
  obtain ⟨a9, c9, e9, hL1, hL2, hL3⟩ := hL0
  rw [HLL.out] at e9 hL1 hL3
  injection e9 with e91 e92 e93
  subst e91
  subst e93
  have HL3 := hid hL3
  clear hL3 e92
  go_loopw [21, 22] (fun sv iv wr => ∃ (j s : Nat), iv = .int .i64 j ∧ j ≤ N ∧ sv = .int .i64 s ∧ s ≤ j ∧ Hid (s = ((L.take j).filter fun y => decide (y ≠ 0)).length) ∧ Ext wc wr) (fun _ iv _ => N - (intOf iv).toNat)
  case atStart => exact ⟨0, 0, rfl, Nat.zero_le _, rfl, Nat.le_refl _, hid (by simp), Ext.refl _⟩
  case round =>
    obtain ⟨j, s, rfl, hj, rfl, hsj, hsc, hw⟩ := hrel
    rename World => wr
    by_cases hlt : j < N
    · obtain ⟨b, off, e9, hb, hcell⟩ := HL3.out (by omega)
      have c1 := (hw.cells _ _ hb).trans (hcell j hlt)
      have hf := hft.out j (by rw [HLL.out]; exact hlt)
      obtain ⟨y, ey⟩ : ∃ y, L.getD j 0 = y := ⟨_, rfl⟩
      rw [ey] at c1 hf
      subst e9
      clear ey hcell
      by_cases hy : y = 0
      · have e0 : (y != 0) = false := by simp [hy]
        have hs2 := hid (show s = ((L.take (j + 1)).filter fun y => decide (y ≠ 0)).length by rw [hf, ← hsc.out, hy]; simp)
        clear hf hy
        go_wp2_with fail
        go_roundw
        case rel => exact ⟨j + 1, s, by go_num, by omega, rfl, by omega, hs2, hw⟩
        case measure => simp [intOf]; omega
      · have e0 : (y != 0) = true := by simpa using hy
        have hs2 := hid (show s + 1 = ((L.take (j + 1)).filter fun y => decide (y ≠ 0)).length by rw [hf, ← hsc.out]; simp [hy])
        clear hf hy
        go_wp2_with fail
        go_roundw
        case rel => exact ⟨j + 1, s + 1, by go_num, by omega, by go_num, by omega, hs2, hw⟩
        case measure => simp [intOf]; omega
    · obtain rfl : j = N := by omega
      obtain rfl : s = S := by rw [hsc.out, ← HS.out, ← HLL.out, List.take_length]
      have HT9 := hid (HTc.out.ext hw)
      have HV9 := hid (HVc.out.ext hw)
      have XW9 := hid (XW.out.trans (xWc.out.trans hw))
      clear hft HLc HTc HVc hL1 hL2 HL3 hsc
      obtain ⟨ht9_0, ht9_1⟩ := HT9.out.at2
      go_wp2_with fail
      refine (D6.out _ _ HV9.out).mono ?_
      rintro _ q10 ⟨v10, u10, rfl, j10, i10, xq10⟩
      clear ht9_0 ht9_1
      obtain ⟨b10, d10, rfl, -, -, -⟩ := j10
      obtain ⟨a10, c10, rfl, -, -, -⟩ := i10
      rw [HO.out]
      have z2 := (Ext.refl q10).alloc (.cells #[.slice a10 xs.length c10, .int .i64 (J : Int)] 25)
      obtain ⟨ht9_0, ht9_1⟩ := (HT9.out.ext (xq10.trans z2)).at2
      go_wp2_with fail
      refine (D7.out _ _ (HV9.out.ext (xq10.trans z2))).mono ?_
      rintro _ q11 ⟨v11, u11, rfl, j11, i11, xq11⟩
      clear ht9_0 ht9_1
      obtain ⟨b11, d11, rfl, -, -, -⟩ := j11
      obtain ⟨a11, c11, rfl, -, -, -⟩ := i11
      have z4 := (Ext.refl q11).alloc (.cells #[.slice a11 xs.length c11, .int .i64 (xs.length : Int)] 25)
      go_wp2_with fail
      go_ret
      exact ⟨ret_bool (by simp), XW9.out.trans (xq10.trans (z2.trans (xq11.trans z4)))⟩
theorem own : ownKnob Try.prog.godebug = none := by kernel_rfl
set_option maxRecDepth 100000 in
theorem lifted (os : Os) (started : os.Started) (H : Type) (enc : TypeId × Value → H) :
    ReturnsInHanded {} Try.checked os 5 .any (Rows.tapeLeftSpec.pre6 enc Try.prog Try.f5 Rows.tapeLeftRow.domain false) (Rows.tapeLeftSpec.post enc Try.prog Try.f5 false true false false) := by
  refine returnsInHanded_of_change (C := Try.checked) own started (by kernel_rfl) Try.func5
    (ChangeSpec.witness6 (enc := enc) (C := Try.checked) false ⟨#[], #[.int .u64 0, .agg #[.slice none 0 0, .int .i64 0], .int .u8 0], []⟩ 8 (by kernel_rfl) (by kernel_rfl) (by kernel_rfl) (by kernel_rfl)) ?_
  intro W base args ds gs before hval0 hW _ _
  have hval : ∀ (j : Nat) t v, Try.f5.params[j]? = some t → args[j]? = some v → Value.okWide Try.prog W .any base t v := hval0
  have hW' := hW
  obtain ⟨p, q, hA0, hV, rfl, _, _⟩ := hW
  have hA : DataW.TrodAll enc Try.prog W 0 (fun _ => true) true Try.f5.params.toList args.toList ds p := hA0
  rw [Try.params5] at hA hval
  obtain ⟨v0, vs0, d0, ds0, p0, q0, hargs, rfl, rfl, h0, r0⟩ := trodAll_cons hA
  obtain ⟨v1, vs1, d1, ds1, p1, q1, rfl, rfl, rfl, h1, r1⟩ := trodAll_cons r0
  obtain ⟨v2, vs2, d2, ds2, p2, q2, rfl, rfl, rfl, h2, r2⟩ := trodAll_cons r1
  obtain ⟨rfl, rfl, rfl⟩ := trodAll_nil r2
  obtain rfl : args = #[v0, v1, v2] := by cases args; simp_all
  obtain ⟨rfl, rfl⟩ := trodVars_none hV
  obtain ⟨a0, rfl, rfl, rfl, w0⟩ := open_int Try.underlying22 (hval 0 22 v0 rfl rfl) h0
  obtain ⟨tu1, xs1, tk1, rfl, i1, w1, wk1⟩ := open_Tape (hval 1 25 v1 rfl rfl) h1
  obtain ⟨a2, rfl, rfl, rfl, w2⟩ := open_int Try.underlying5 (hval 2 5 v2 rfl rfl) h2
  refine (walk a0 tk1 tu1 xs1 a2 W w0 wk1 i1 w1 w2).mono fun e W' ⟨he, hg⟩ => ⟨_, he, ?_⟩
  exact law_post (by kernel_rfl) (by kernel_rfl) rfl Try.underlying4 rfl rfl hW' hg

/-- the statement -/
theorem proved : Rows.TapeLeftSaid :=
  OpenClaim.holds_of_wide 5 Try.f5 rfl rfl rfl rfl rfl rfl rfl ⟨rfl, rfl, rfl, rfl, rfl⟩ rfl rfl rfl rfl rfl (by kernel_rfl) Try.func5 (by kernel_rfl)
    (of_decide_eq_true (by kernel_rfl)) (by unfold Func.isWrapper; first | (rw [if_pos (by decide +kernel)]; kernel_rfl) | (rw [if_neg (by decide +kernel)]; exact ⟨rfl, rfl⟩))
    (fun os started H enc _ => lifted os started H enc)
end Go.Proofs.Ytcganfmlfoebpaa.tapeLeft
