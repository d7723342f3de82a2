/- What the texts CmC, CupA, Awake07, Small07 show, in one text. -/
import Derived.Test.YtlcempbeecdimaaCm6
import Derived.Test.YtlcempbeecdimaaCm7
import Derived.Test.YtlcempbeecdimaaCm8
import Derived.Test.YtlcempbeecdimaaUsL
import Derived.Test.YtlcempbeecdimaaCupB7
import Derived.Test.YtlcempbeecdimaaMat1
import Derived.Test.YtlcempbeecdimaaCupB8
/- What the functions of package cup answer: Cm1 to Cm8 show it of the program. -/
namespace Go.Proofs.Ytlcempbeecdimaa
end Go.Proofs.Ytlcempbeecdimaa
/- The matrix of layer 7's first look, taken apart by hand (in plain Lean; nothing of a program). -/
namespace Go.Proofs.Ytlcempbeecdimaa

def xs7 : List Int := [0, 2, 3, 4]
theorem fld7 : Fld 7 := fun a h0 h1 => by
  have : a = 1 ∨ a = 2 ∨ a = 3 ∨ a = 4 ∨ a = 5 ∨ a = 6 := by omega
  rcases this with rfl | rfl | rfl | rfl | rfl | rfl <;> decide
theorem ok7 : MatOk 7 2 2 xs7 := ⟨by decide, by unfold Rng xs7; decide, by decide, by decide, rfl⟩
theorem det7 : detF 2 (atF 2 xs7) % 7 = 1 := by decide
theorem rank7 : (takeL 7 2 2 xs7).U.length = 2 := by
  have h := det_rank (n := 2) (xs := xs7) (p := 7) (by decide) fld7 ok7.hx
  rw [det7] at h
  exact Classical.byContradiction fun hn => absurd (h.2 hn) (by decide)
theorem rows7 : (takeL 7 2 2 xs7).rows = [0, 1] := by
  have h := takeL_ok (p := 7) (m := 2) (n := 2) (xs := xs7) (by decide) fld7 ok7.hx
  have hl : (takeL 7 2 2 xs7).rows.length = 2 := by rw [h.lr, rank7]
  have hi := inc_id hl h.inc h.low
  match e : (takeL 7 2 2 xs7).rows, hl with
  | [a, b], _ =>
    have h0 := hi 0 (by decide)
    have h1 := hi 1 (by decide)
    rw [e] at h0 h1
    have h0 : a = 0 := h0
    have h1 : b = 1 := h1
    rw [h0, h1]
theorem prof7 : profZ 7 2 2 xs7 = [0, 1] := by unfold profZ; rw [rows7]; rfl
theorem cols7 : ∃ c, colsZ (takeL 7 2 2 xs7) = [1, c] := by
  have h := takeL_ok (p := 7) (m := 2) (n := 2) (xs := xs7) (by decide) fld7 ok7.hx
  have hl : (takeL 7 2 2 xs7).cols.length = 2 := by rw [h.lk, rank7]
  have h0 : (takeL 7 2 2 xs7).cols.getD 0 0 = 1 := by
    have hr := h.row 0 (by rw [rank7]; decide)
    have ho := h.one 0 (by rw [rows7]; decide)
    rw [rows7] at ho
    have hm := h.made 0 (by decide) 0 (by decide)
    have e0 : ([0, 1] : List Nat).getD 0 0 = 0 := rfl
    rw [e0] at ho
    rw [ho.1, show sm (0 + 1) (fun t => ((takeL 7 2 2 xs7).C.getD 0 []).getD t 0 * ((takeL 7 2 2 xs7).U.getD t []).getD 0 0) = ((takeL 7 2 2 xs7).C.getD 0 []).getD 0 0 * ((takeL 7 2 2 xs7).U.getD 0 []).getD 0 0 by simp [sm], ho.2, Int.one_mul] at hm
    have e1 : (rowOf 2 xs7 0).getD 0 0 = 0 := by decide
    rw [e1] at hm
    have hg := hr.2.1.getD (by decide) 0
    rw [mod_small hg.1 hg.2] at hm
    have hne := hr.2.2.2.2.2
    have hlt := hr.2.2.1
    rcases Nat.lt_or_ge ((takeL 7 2 2 xs7).cols.getD 0 0) 1 with hc | hc
    · have : (takeL 7 2 2 xs7).cols.getD 0 0 = 0 := by omega
      rw [this] at hne
      exact absurd hm.symm hne
    · omega
  match e : (takeL 7 2 2 xs7).cols, hl with
  | [a, b], _ =>
    rw [e] at h0
    have h0 : a = 1 := h0
    exact ⟨(b : Int), by unfold colsZ; rw [e, h0]; rfl⟩
theorem minor7 : minorL 7 2 2 xs7 = xs7 := by
  have h := takeL_ok (p := 7) (m := 2) (n := 2) (xs := xs7) (by decide) fld7 ok7.hx
  have hl : (risL 2 (takeL 7 2 2 xs7).cols).length = 2 := by rw [risL_len h.cols_nodup fun c hc => h.cols_lt hc, h.lk, rank7]
  have e : risL 2 (takeL 7 2 2 xs7).cols = List.range 2 := List.filter_sublist.eq_of_length (by rw [List.length_range]; exact hl)
  unfold minorL
  rw [rank7, rows7, e]
  decide
theorem make7 (r : Nat) : makeL 7 ((takeL 7 2 2 xs7).C.map (padL r)) (takeL 7 2 2 xs7).U 2 2 = xs7 := make_take (by decide) fld7 ok7.hx rfl (by decide) r
end Go.Proofs.Ytlcempbeecdimaa
/- The first look of layer 7's laws: it answers true. -/
namespace Go.Proofs.Ytlcempbeecdimaa
open Go.RowKit Go.Maps

set_option maxRecDepth 100000 in
set_option maxHeartbeats 2000000 in
theorem awake07 (w : World) : Calls Try.prog 8 #[] w (Ret (.bool true) w) := by
  obtain ⟨c, hc⟩ := cols7
  have C1 := hid fun (W : World) (v : Value) (hv : Ints .u64 W v xs7) => (show Calls Try.prog 14 #[.int .u64 7, .agg #[.int .i64 2, .int .i64 2, v]] W (RetCup [0, 1] [1, c] ((takeL 7 2 2 xs7).C.map (padL (takeL 7 2 2 xs7).U.length)) (takeL 7 2 2 xs7).U W) from by
    have h := cmTake 7 2 2 v xs7 W ok7 fld7 hv
    rwa [prof7, hc] at h)
  have C2 := hid fun (W : World) (v : Value) (hv : Ints .u64 W v xs7) => (show Calls Try.prog 10 #[.int .u64 7, .agg #[.int .i64 2, .int .i64 2, v]] W (Ret (.tuple #[.int .u64 1, .int .i64 0]) W) from by
    have h := cmDet 7 2 2 v xs7 W (by decide) (by decide) hv ok7.u64 fun _ => fld7
    have e : (matB 7 2 2 xs7 && decide ((2 : Int) = 2)) = true := by
      have := ok7.b
      rw [show matB 7 2 2 xs7 = true from this]; rfl
    unfold detV detErr at h
    rw [if_pos e, if_pos e] at h
    rwa [show detF (2 : Int).toNat (atF (2 : Int).toNat xs7) % 7 = 1 from det7] at h)
  have C3 := hid fun (W : World) (v1 v2 v3 v4 : Value) (h1 : Ints .i64 W v1 [0, 1]) (h2 : Ints .i64 W v2 [1, c]) (h3 : UsL W v3 ((takeL 7 2 2 xs7).C.map (padL (takeL 7 2 2 xs7).U.length))) (h4 : UsL W v4 (takeL 7 2 2 xs7).U) => (show Calls Try.prog 15 #[.int .u64 7, .agg #[v1, v2, v3, v4], .int .i64 2, .int .i64 2] W (RetN 2 2 xs7 W) from by
    have h := cmMake 7 2 2 _ _ _ _ v1 v2 v3 v4 W (take_parts ok7 fld7) h1 h2 h3 h4
    rwa [make7] at h)
  have C4 := hid fun (W : World) (v : Value) (hv : Ints .u64 W v xs7) => (show Calls Try.prog 19 #[.int .u64 7, .agg #[.int .i64 2, .int .i64 2, v]] W (Ret (.tuple #[.int .i64 2, .int .i64 0]) W) from by
    have h := cmRank 7 2 2 v xs7 W ok7 fld7 hv
    rwa [rank7] at h)
  have C5 := hid fun (W : World) (v : Value) (hv : Ints .u64 W v xs7) => (show Calls Try.prog 20 #[.int .u64 7, .agg #[.int .i64 2, .int .i64 2, v]] W (RetVI [0, 1] W) from by
    have h := cmProfile 7 2 2 v xs7 W ok7 fld7 hv
    rwa [prof7] at h)
  have C6 := hid fun (W : World) (v : Value) (hv : Ints .u64 W v xs7) => (show Calls Try.prog 17 #[.int .u64 7, .agg #[.int .i64 2, .int .i64 2, v]] W (RetN 2 2 xs7 W) from by
    have h := cmMinor_yes 7 2 2 v xs7 W ok7 fld7 hv (by rw [rank7]; decide)
    rwa [minor7, rank7] at h)
  have C7 := hid fun (W : World) (v u : Value) (hv : Ints .u64 W v xs7) (hu : Ints .u64 W u xs7) => (show Calls Try.prog 16 #[.agg #[.int .i64 2, .int .i64 2, v], .agg #[.int .i64 2, .int .i64 2, u]] W (Ret (.bool true) W) from by
    have h := rmSame 2 2 2 2 v u xs7 xs7 W hv hu
    rwa [decide_eq_true (show (2 : Int) = 2 ∧ (2 : Int) = 2 ∧ xs7 = xs7 from ⟨rfl, rfl, rfl⟩)] at h)
  have IM := hid ((Ints.lit (k := .u64) (w := w) (t := 22) xs7 (by decide) rfl).alloc (.cells #[.int .i64 2, .int .i64 2, .slice (some ⟨w.heap.size, 0, none⟩) 4 4] 25))
  have HA := hid (Blk.at_ (w := w.alloc (.cells #[.int .u64 0, .int .u64 2, .int .u64 3, .int .u64 4] 22)) (t := 25) (cs := #[.int .i64 2, .int .i64 2, .slice (some ⟨w.heap.size, 0, none⟩) 4 4]) (g := w.heap.size + 1) (by rw [alloc_size]))
  have hW0 := hid ((((Ext.refl w).alloc (.cells #[.int .u64 0, .int .u64 2, .int .u64 3, .int .u64 4] 22))).alloc (.cells #[.int .i64 2, .int .i64 2, .slice (some ⟨w.heap.size, 0, none⟩) 4 4] 25))
  have hS1 := hid fun (W : World) => Ints.lit (k := .i64) (w := W) (t := 3) [0, 1] (by decide) rfl
  generalize (takeL 7 2 2 xs7).C.map (padL (takeL 7 2 2 xs7).U.length) = CC at C1 C3
  generalize (takeL 7 2 2 xs7).U = UU at C1 C3
  clear hc
  unfold RetN matV at C3 C6
  go_enter Try.func8, Try.ntmps8
  obtain ⟨ha_0, ha_1, ha_2⟩ := HA.out.at3
  go_wp2_with fail
  refine (C1.out _ _ IM.out).mono ?_
  rintro _ w2 ⟨rv, cv, Cv, Uv, rfl, i1, i2, i3, i4, xw2⟩
  clear ha_0 ha_1 ha_2
  have I1 := hid i1; have I2 := hid i2; have I3 := hid i3; have I4 := hid i4
  obtain ⟨a1, k1, rfl, _, _, kk⟩ := i1
  clear kk
  obtain ⟨a2, k2, rfl, _, q2, kk⟩ := i2
  obtain ⟨b2, o2, rfl, hb2, hcell⟩ := kk (by simp)
  have G2 := hid (show w2.cell? ⟨b2, o2, none⟩ = some (.int .i64 1) from by simpa using hcell 0 (by simp))
  clear kk hcell
  obtain ⟨a3, k3, rfl, _, _, kk⟩ := i3
  clear kk
  obtain ⟨a4, k4, rfl, _, _, kk⟩ := i4
  clear kk
  have GB := hid hb2
  have z3 := (Ext.refl w2).alloc (.cells #[.slice a1 2 k1, .slice (some ⟨b2, o2, none⟩) 2 k2, .slice a3 CC.length k3, .slice a4 UU.length k4] 37)
  have HC := hid (Blk.new w2 37 #[.slice a1 2 k1, .slice (some ⟨b2, o2, none⟩) 2 k2, .slice a3 CC.length k3, .slice a4 UU.length k4])
  obtain ⟨ha_0, ha_1, ha_2⟩ := (HA.out.ext (xw2.trans z3)).at3
  go_wp2_with fail
  refine (C2.out _ _ (IM.out.ext (xw2.trans z3))).mono ?_
  rintro _ w3 ⟨rfl, xw3⟩
  clear ha_0 ha_1 ha_2
  obtain ⟨hc_0, hc_1, hc_2, hc_3⟩ := (HC.out.ext xw3).at4
  go_wp2_with fail
  refine (C3.out _ _ _ _ _ (I1.out.ext (z3.trans xw3)) (I2.out.ext (z3.trans xw3)) (I3.out.ext (z3.trans xw3)) (I4.out.ext (z3.trans xw3))).mono ?_
  rintro _ w4 ⟨u4, rfl, i5, xw4⟩
  clear hc_0 hc_1 hc_2 hc_3
  have I5 := hid i5
  obtain ⟨a5, k5, rfl, _, _, kk⟩ := i5
  clear kk
  have z6 := (Ext.refl w4).alloc (.cells #[.int .i64 2, .int .i64 2, .slice a5 xs7.length k5] 25)
  have HN := hid (Blk.new w4 25 #[.int .i64 2, .int .i64 2, .slice a5 xs7.length k5])
  obtain ⟨ha_0, ha_1, ha_2⟩ := (HA.out.ext (xw2.trans (z3.trans (xw3.trans (xw4.trans z6))))).at3
  go_wp2_with fail
  refine (C4.out _ _ (IM.out.ext (xw2.trans (z3.trans (xw3.trans (xw4.trans z6)))))).mono ?_
  rintro _ w5 ⟨rfl, xw5⟩
  clear ha_0 ha_1 ha_2
  obtain ⟨ha_0, ha_1, ha_2⟩ := (HA.out.ext (xw2.trans (z3.trans (xw3.trans (xw4.trans (z6.trans xw5)))))).at3
  go_wp2_with fail
  refine (C5.out _ _ (IM.out.ext (xw2.trans (z3.trans (xw3.trans (xw4.trans (z6.trans xw5))))))).mono ?_
  rintro _ w6 ⟨u6, rfl, i6, xw6⟩
  clear ha_0 ha_1 ha_2
  have I6 := hid i6
  obtain ⟨a6, k6, rfl, _, _, kk⟩ := i6
  clear kk
  obtain ⟨ha_0, ha_1, ha_2⟩ := (HA.out.ext (xw2.trans (z3.trans (xw3.trans (xw4.trans (z6.trans (xw5.trans xw6))))))).at3
  go_wp2_with fail
  refine (C6.out _ _ (IM.out.ext (xw2.trans (z3.trans (xw3.trans (xw4.trans (z6.trans (xw5.trans xw6)))))))).mono ?_
  rintro _ w7 ⟨u7, rfl, i7, xw7⟩
  clear ha_0 ha_1 ha_2
  have I7 := hid i7
  obtain ⟨a7, k7, rfl, _, _, kk⟩ := i7
  clear kk
  have z10 := (Ext.refl w7).alloc (.cells #[.int .i64 2, .int .i64 2, .slice a7 xs7.length k7] 25)
  have HO := hid (Blk.new w7 25 #[.int .i64 2, .int .i64 2, .slice a7 xs7.length k7])
  have g2 := ((z3.trans (xw3.trans (xw4.trans (z6.trans (xw5.trans (xw6.trans (xw7.trans z10))))))).cells _ _ GB.out).trans G2.out
  have k2le : 2 ≤ k2 := by assumption
  obtain ⟨ha_0, ha_1, ha_2⟩ := (HA.out.ext (xw2.trans (z3.trans (xw3.trans (xw4.trans (z6.trans (xw5.trans (xw6.trans (xw7.trans z10))))))))).at3
  obtain ⟨hc_0, hc_1, hc_2, hc_3⟩ := (HC.out.ext (xw3.trans (xw4.trans (z6.trans (xw5.trans (xw6.trans (xw7.trans z10))))))).at4
  obtain ⟨hn_0, hn_1, hn_2⟩ := (HN.out.ext (xw5.trans (xw6.trans (xw7.trans z10)))).at3
  go_wp2_with fail
  refine (C7.out _ _ _ (I5.out.ext (z6.trans (xw5.trans (xw6.trans (xw7.trans z10))))) (IM.out.ext (xw2.trans (z3.trans (xw3.trans (xw4.trans (z6.trans (xw5.trans (xw6.trans (xw7.trans z10)))))))))).mono ?_
  rintro _ w8 ⟨rfl, xw8⟩
  clear ha_0 ha_1 ha_2 hc_0 hc_1 hc_2 hc_3 hn_0 hn_1 hn_2
  clear g2
  go_wp2_with fail
  refine (r6Same_yes _ _ _ _ ((I6.out.ext (xw7.trans (z10.trans xw8))).alloc _) (hS1.out _)).mono ?_
  rintro _ w9 ⟨rfl, x9⟩
  have y9 := (Ext.alloc (Ext.refl w8) _).trans x9
  obtain ⟨ha_0, ha_1, ha_2⟩ := (HA.out.ext (xw2.trans (z3.trans (xw3.trans (xw4.trans (z6.trans (xw5.trans (xw6.trans (xw7.trans (z10.trans (xw8.trans y9))))))))))).at3
  obtain ⟨ho_0, ho_1, ho_2⟩ := (HO.out.ext (xw8.trans y9)).at3
  go_wp2_with fail
  refine (C7.out _ _ _ (I7.out.ext (z10.trans (xw8.trans y9))) (IM.out.ext (xw2.trans (z3.trans (xw3.trans (xw4.trans (z6.trans (xw5.trans (xw6.trans (xw7.trans (z10.trans (xw8.trans y9)))))))))))).mono ?_
  rintro _ w10 ⟨rfl, xw10⟩
  clear ha_0 ha_1 ha_2 ho_0 ho_1 ho_2
  go_wp2_with fail
  go_ret
  exact ⟨rfl, (hW0.out.trans (xw2.trans (z3.trans (xw3.trans (xw4.trans (z6.trans (xw5.trans (xw6.trans (xw7.trans (z10.trans (xw8.trans (y9.trans xw10))))))))))))⟩
end Go.Proofs.Ytlcempbeecdimaa
/- A law's own question of layer 7: is a matrix right, of at most so many cells, over a prime? -/
namespace Go.Proofs.Ytlcempbeecdimaa
open Go.RowKit

noncomputable def smB (p r c : Int) (xs : List Int) (k : Nat) : Bool := decide (xs.length ≤ k) && (takenB p && matB p r c xs)
set_option maxHeartbeats 800000 in
theorem small07 (p r c : Int) (v : Value) (xs : List Int) (k : Nat) (w : World) (h0 : 0 ≤ p) (h1 : p ≤ 18446744073709551615) (hv : Ints .u64 w v xs) (hx : U64s xs) : Calls Try.prog 13 #[.int .u64 p, matV r c v, .int .i64 k] w (Ret (.bool (smB p r c xs k)) w) := by
  have C1 := hid fun (W : World) => prime_any p W h0
  have C2 := hid fun (W : World) (hW : Ext w W) => mxRight p r c v xs W h0 h1 (hv.ext hW) hx
  unfold smB
  obtain ⟨T, hT⟩ : ∃ B, takenB p = B := ⟨_, rfl⟩
  obtain ⟨M, hM⟩ : ∃ B, matB p r c xs = B := ⟨_, rfl⟩
  obtain ⟨S, hS⟩ : ∃ B, decide (xs.length ≤ k) = B := ⟨_, rfl⟩
  rw [hT] at C1; rw [hM] at C2; rw [hT, hM, hS]
  obtain ⟨a, cap, rfl, k1, k2, k3⟩ := hv
  clear k3 hx hT hM
  have HA := hid (Blk.new w 25 #[.int .i64 r, .int .i64 c, .slice a xs.length cap])
  have hW0 := hid ((Ext.refl w).alloc (.cells #[.int .i64 r, .int .i64 c, .slice a xs.length cap] 25))
  obtain ⟨a0, a1, a2⟩ := HA.out.at3
  unfold matV at C2
  unfold matV
  cases S with
  | false =>
    have hs : ¬ xs.length ≤ k := of_decide_eq_false hS
    have b1 : decide ((xs.length : Int) ≤ (k : Int)) = false := decide_eq_false (by omega)
    clear hS
    simp only [Bool.false_and]
    go_enter Try.func13, Try.ntmps13
    go_wp2_with fail
    go_ret
    exact ⟨rfl, hW0.out⟩
  | true =>
    have hs : xs.length ≤ k := of_decide_eq_true hS
    have b1 : decide ((xs.length : Int) ≤ (k : Int)) = true := decide_eq_true (by omega)
    clear hS
    cases T with
    | false =>
      simp only [Bool.false_and, Bool.and_false]
      go_enter Try.func13, Try.ntmps13
      go_wp2_with (go_at_call 9; refine (C1.out _).mono ?_; rintro _ _ ⟨rfl, rfl⟩)
      go_ret
      exact ⟨rfl, hW0.out⟩
    | true =>
      simp only [Bool.true_and]
      go_enter Try.func13, Try.ntmps13
      go_wp2_with (first
        | (go_at_call 9; refine (C1.out _).mono ?_; rintro _ _ ⟨rfl, rfl⟩)
        | (go_at_call 11; refine (C2.out _ hW0.out).mono ?_; rintro _ w2 ⟨rfl, x2⟩))
      go_ret
      exact ⟨rfl, hW0.out.trans x2⟩
end Go.Proofs.Ytlcempbeecdimaa
