/- Package cup: Minor. -/
import Derived.Test.YtlcempbeecdimaaCm5
import Derived.Test.YtlcempbeecdimaaSorted
import Derived.Test.YtlcempbeecdimaaCupB2
import Derived.Test.YtlcempbeecdimaaCupB5
import Derived.Deep.RegionLaw
namespace Go.Proofs.Ytlcempbeecdimaa
open Go.RowKit Go.Maps

theorem nats_cast (l : List Nat) : nats (l.map fun k : Nat => (k : Int)) = l := by
  unfold nats
  rw [List.map_map]
  conv => rhs; rw [← List.map_id l]
  exact List.map_congr_left fun a _ => by simp
theorem sort_ris' {n : Nat} {cols : List Nat} (hn : cols.Nodup) (hb : ∀ c ∈ cols, c < n) : sortL (cols.map fun k : Nat => (k : Int)) = (risL n cols).map fun k : Nat => (k : Int) := by
  have h1 : (sortL (cols.map fun k : Nat => (k : Int))) = (risL n cols).map fun k : Nat => (k : Int) := by
    unfold sortL
    refine List.Perm.eq_of_pairwise (le := fun a b => a ≤ b) (fun a b _ _ h1 h2 => by omega) ?_ ?_ ?_
    · have := List.pairwise_mergeSort (le := fun x y : Int => decide (x ≤ y)) (fun a b c h1 h2 => by simp at h1 h2 ⊢; omega) (fun a b => by simp; omega) (cols.map fun k : Nat => (k : Int))
      exact this.imp fun h => by simpa using h
    · refine List.Pairwise.map (R := fun a b => a < b) _ (fun a b h => by omega) ?_
      unfold risL
      exact List.pairwise_lt_range.filter _
    · refine (List.mergeSort_perm _ _).trans (List.Perm.map _ ?_)
      refine (List.perm_ext_iff_of_nodup hn ?_).2 fun a => ?_
      · unfold risL
        exact List.Pairwise.filter _ List.nodup_range
      · rw [risL_mem]
        exact ⟨fun h => ⟨hb a h, h⟩, fun h => h.2⟩
  exact h1
theorem sort_ris {n : Nat} {cols : List Nat} (hn : cols.Nodup) (hb : ∀ c ∈ cols, c < n) : nats (sortL (cols.map fun k : Nat => (k : Int))) = risL n cols := by
  rw [sort_ris' hn hb, nats_cast]
theorem picks_of {n : Nat} {l : List Nat} (h0 : 0 < l.length) (h1 : l.length ≤ 64) (hb : ∀ c ∈ l, c < n) : picksB n (l.map fun k : Nat => (k : Int)) = true := by
  unfold picksB
  simp only [Bool.and_eq_true, decide_eq_true_eq, List.length_map, List.all_eq_true, List.mem_map]
  refine ⟨⟨h0, h1⟩, ?_⟩
  rintro x ⟨k, hk, rfl⟩
  have := hb k hk
  simp
  omega
theorem ints_off {w : World} {b off cap gR : Nat} {xs : List Int} {t : TypeId} {x y : Int} {a : Option Addr} {k c : Nat} (h : Ints .u64 w (.slice (some ⟨b, off, none⟩) xs.length cap) xs) (h0 : 0 < xs.length) (hB : Blk w gR t #[.int .i64 x, .int .i64 y, .slice a k c]) : b ≠ gR := by
  rintro rfl
  obtain ⟨a', cap', e, _, _, h3⟩ := h
  obtain ⟨b', off', e2, _, hc⟩ := h3 h0
  injection e with e1 _ _
  rw [e2] at e1
  injection e1 with e1
  injection e1 with e3 e4
  subst e3; subst e4
  have h1 := hc 0 h0
  rw [Nat.add_zero, hB.cell off] at h1
  match off, h1 with
  | 0, h1 => simp at h1
  | 1, h1 => simp at h1
  | 2, h1 => simp at h1
  | n + 3, h1 => simp at h1

set_option maxHeartbeats 1000000 in
theorem cmMinor_no (p : Int) (m n : Nat) (v : Value) (xs : List Int) (w : World) (ok : MatOk p m n xs) (hf : Fld p) (hv : Ints .u64 w v xs) (h : (takeL p m n xs).U.length = 0) : Calls Try.prog 17 #[.int .u64 p, matV m n v] w (Ret (.tuple #[matV 0 0 (.slice none 0 0), .int .i64 6]) w) := by
  have C := hid fun (W : World) (hW : Ext w W) => cmTake p m n v xs W ok hf (hv.ext hW)
  have hl := profZ_len ok hf
  rw [h] at hl
  obtain ⟨KZ, eK⟩ : ∃ K, colsZ (takeL p m n xs) = K := ⟨_, rfl⟩
  obtain ⟨CP, eC⟩ : ∃ CP, (takeL p m n xs).C.map (padL (takeL p m n xs).U.length) = CP := ⟨_, rfl⟩
  obtain ⟨UU, eU⟩ : ∃ UU, (takeL p m n xs).U = UU := ⟨_, rfl⟩
  obtain ⟨pr, epr⟩ : ∃ pr, profZ p m n xs = pr := ⟨_, rfl⟩
  rw [eK, eC, eU, epr] at C
  rw [epr] at hl
  have Hl := hid hl
  have hb2 := hid (boxes2 w 25 25 #[.int .i64 (m : Int), .int .i64 (n : Int), v] #[.int .i64 0, .int .i64 0, .slice none 0 0])
  unfold matV at C ⊢
  clear hv ok eK eC eU epr hl h
  go_enter Try.func17, Try.ntmps17
  go_wp2_with (go_at_call 14; refine (C.out _ (by repeat (first | exact Ext.refl _ | assumption | refine Ext.drew ?_ | refine Ext.drewN ?_ _ | refine Ext.alloc ?_ _ | refine Ext.trans ?_ (by assumption)))).mono ?_; rintro _ w1 ⟨rv, cv, Cv, Uv, rfl, h1, h2, h3, h4, x1⟩
               obtain ⟨ar, cr, rfl, -, -, -⟩ := h1
               rw [Hl.out]
               obtain ⟨ac, cc, rfl, -, -, -⟩ := h2
               obtain ⟨aC, cC, rfl, -, -, -⟩ := h3
               obtain ⟨aU, cU, rfl, -, -, -⟩ := h4
               have HR := hid ((hb2.out.2.1.ext x1).ext ((Ext.refl _).alloc (.cells #[.slice ar 0 cr, .slice ac KZ.length cc, .slice aC CP.length cC, .slice aU UU.length cU] 37)))
               have HX := hid ((hb2.out.2.2.trans x1).alloc (.cells #[.slice ar 0 cr, .slice ac KZ.length cc, .slice aC CP.length cC, .slice aU UU.length cU] 37))
               obtain ⟨r0, r1, r2⟩ := HR.out.at3
               have f0 := HR.out.frozen 0; have f1 := HR.out.frozen 1; have f2 := HR.out.frozen 2)
  have F := fin0 HR.out HX.out (by omega) (.int .i64 0) (.int .i64 0) (.slice none 0 0)
  refine bodyPost_ret (results_cell_row_tmp rfl _ _ (w.heap.size + 1) 25 _ (0, 0) _ rfl F.1 Try.underlying25 rfl (by kernel_rfl)) rfl ?_
  exact ⟨rfl, F.2⟩

set_option maxRecDepth 100000 in
set_option maxHeartbeats 2000000 in
theorem cmMinor_yes (p : Int) (m n : Nat) (v : Value) (xs : List Int) (w : World) (ok : MatOk p m n xs) (hf : Fld p) (hv : Ints .u64 w v xs) (h : 0 < (takeL p m n xs).U.length) : Calls Try.prog 17 #[.int .u64 p, matV m n v] w (RetN (takeL p m n xs).U.length (takeL p m n xs).U.length (minorL p m n xs) w) := by
  have C := hid fun (W : World) (hW : Ext w W) => cmTake p m n v xs W ok hf (hv.ext hW)
  have hp2 := rightB_true ok.hp
  have tok := takeL_ok (m := m) (n := n) hp2.1 hf ok.hx
  have hl := profZ_len ok hf
  have hlk := colsZ_len ok hf
  have hle := tok.le
  have hm := ok.hm
  have hlt : ∀ c ∈ (takeL p m n xs).rows, c < m := fun c hc => by
    obtain ⟨k, hk, rfl⟩ := List.getElem_of_mem hc
    have := tok.low k hk
    simpa [List.getD, hk] using this
  have s2 := sort_ris (n := n) tok.cols_nodup fun c hc => tok.cols_lt hc
  have g1 : picksB m (profZ p m n xs) = true := picks_of (by rw [tok.lr]; exact h) (by rw [tok.lr]; omega) hlt
  have hsl : (sortL (colsZ (takeL p m n xs))).length = (takeL p m n xs).U.length := by unfold sortL; rw [List.length_mergeSort, hlk]
  have hrisl : (risL n (takeL p m n xs).cols).length = (takeL p m n xs).U.length := by rw [risL_len tok.cols_nodup fun c hc => tok.cols_lt hc, tok.lk]
  have hsm : sortL (colsZ (takeL p m n xs)) = (risL n (takeL p m n xs).cols).map fun k : Nat => (k : Int) := sort_ris' tok.cols_nodup fun c hc => tok.cols_lt hc
  have g2 : picksB n (sortL (colsZ (takeL p m n xs))) = true := by
    rw [hsm]
    exact picks_of (by rw [hrisl]; exact h) (by rw [hrisl]; omega) fun c hc => (risL_mem.1 hc).1
  have P := hid fun (W : World) (hW : Ext w W) (vr vc : Value) (hr : Ints .i64 W vr (profZ p m n xs)) (hc : Ints .i64 W vc (sortL (colsZ (takeL p m n xs)))) => (show Calls Try.prog 42 #[.int .u64 p, matV m n v, vr, vc] W (RetN (takeL p m n xs).U.length (takeL p m n xs).U.length (minorL p m n xs) W) from by
    have h1 := mxPick_yes p m n v vr vc xs _ _ W ok (hv.ext hW) hr hc g1 g2
    rw [hl, hsl] at h1
    have e : pickL n xs (nats (profZ p m n xs)) (nats (sortL (colsZ (takeL p m n xs)))) = minorL p m n xs := by
      have e1 : nats (profZ p m n xs) = (takeL p m n xs).rows := nats_cast _
      have e2 : nats (sortL (colsZ (takeL p m n xs))) = risL n (takeL p m n xs).cols := s2
      unfold pickL minorL
      rw [e1, e2, tok.lr, hrisl]
    rw [e] at h1
    exact h1)
  have hml : 0 < (minorL p m n xs).length := by rw [minorL_len]; exact Nat.mul_pos h h
  obtain ⟨ML, eM⟩ : ∃ ML, minorL p m n xs = ML := ⟨_, rfl⟩
  rw [eM] at P hml
  rw [eM]
  obtain ⟨KZ, eK⟩ : ∃ K, colsZ (takeL p m n xs) = K := ⟨_, rfl⟩
  obtain ⟨CP, eC⟩ : ∃ CP, (takeL p m n xs).C.map (padL (takeL p m n xs).U.length) = CP := ⟨_, rfl⟩
  obtain ⟨pr, epr⟩ : ∃ pr, profZ p m n xs = pr := ⟨_, rfl⟩
  rw [eK, eC, epr] at C
  rw [eK, epr] at P
  rw [epr] at hl
  rw [eK] at hlk
  obtain ⟨UU, eU⟩ : ∃ UU, (takeL p m n xs).U = UU := ⟨_, rfl⟩
  rw [eU] at C P hl hlk h hle ⊢
  obtain ⟨r, er⟩ : ∃ r, UU.length = r := ⟨_, rfl⟩
  rw [er] at P hl hlk h hle ⊢
  have Hl := hid hl; have Hlk := hid hlk; have Er := hid er
  have hb2 := hid (boxes2 w 25 25 #[.int .i64 (m : Int), .int .i64 (n : Int), v] #[.int .i64 0, .int .i64 0, .slice none 0 0])
  unfold matV at C P ⊢
  clear hv ok eK eC eU epr hl hlk er tok hlt s2 g1 g2 hsl hrisl hsm eM
  go_enter Try.func17, Try.ntmps17
  go_wp2_with (go_at_call 14; refine (C.out _ (by repeat (first | exact Ext.refl _ | assumption | refine Ext.drew ?_ | refine Ext.drewN ?_ _ | refine Ext.alloc ?_ _ | refine Ext.trans ?_ (by assumption)))).mono ?_; rintro _ w1 ⟨rv, cv, Cv, Uv, rfl, h1, h2, h3, h4, x1⟩
               have I1 := hid h1
               obtain ⟨ar, cr, rfl, -, -, -⟩ := h1
               rw [Hl.out] at I1 ⊢
               obtain ⟨ac, cc, rfl, -, -, K2⟩ := h2
               rw [Hlk.out] at K2 ⊢
               obtain ⟨bk, fk, rfl, hbk, K2⟩ := K2 h
               have K2 := hid K2
               obtain ⟨aC, cC, rfl, -, -, -⟩ := h3
               obtain ⟨aU, cU, rfl, -, -, -⟩ := h4
               rw [Er.out])
  have HC := hid (Blk.new w1 37 #[.slice ar r cr, .slice (some ⟨bk, fk, none⟩) r cc, .slice aC CP.length cC, .slice aU r cU])
  have x2 := (Ext.refl w1).alloc (.cells #[.slice ar r cr, .slice (some ⟨bk, fk, none⟩) r cc, .slice aC CP.length cC, .slice aU r cU] 37)
  obtain ⟨w2, hw2⟩ : ∃ w2, w1.alloc (.cells #[.slice ar r cr, .slice (some ⟨bk, fk, none⟩) r cc, .slice aC CP.length cC, .slice aU r cU] 37) = w2 := ⟨_, rfl⟩
  rw [hw2] at HC x2 ⊢
  have HX2 := hid ((hb2.out.2.2.trans x1).trans x2)
  have HA := hid ((hb2.out.1.ext x1).ext x2)
  have HR := hid ((hb2.out.2.1.ext x1).ext x2)
  have I1 := hid (I1.out.ext x2)
  have y3 : Ext w2 (w2.alloc (.cells #[.slice (some ⟨bk, fk, none⟩) r cc] 34)).drew := ((Ext.refl w2).alloc _).drew
  have e1 : (w2.alloc (.cells #[.slice (some ⟨bk, fk, none⟩) r cc] 34)).drew.cell? ⟨w2.heap.size, 0, none⟩ = some (.slice (some ⟨bk, fk, none⟩) r cc) := (Blk.new w2 34 #[.slice (some ⟨bk, fk, none⟩) r cc]).cell 0
  have hb2k : bk < w2.heap.size := Nat.lt_of_lt_of_le hbk x2.size
  have S := hid (sorted_any w2.heap.size bk fk r cc KZ Hlk.out (by omega) h (w2.alloc (.cells #[.slice (some ⟨bk, fk, none⟩) r cc] 34)).drew (by show _ < (w2.alloc _).heap.size; rw [alloc_size]; exact Nat.lt_succ_self _) (by show _ < (w2.alloc _).heap.size; rw [alloc_size]; exact Nat.lt_succ_of_lt hb2k) e1 (fun j hj => ((x2.trans y3).cells _ _ hbk).trans (K2.out j hj)))
  obtain ⟨gC, hgC⟩ : ∃ g, w1.heap.size = g := ⟨_, rfl⟩
  rw [hgC] at HC ⊢
  obtain ⟨a0, a1, a2⟩ := HA.out.at3
  obtain ⟨c0, c1, c2, c3⟩ := HC.out.at4
  obtain ⟨d0, d1, d2⟩ := (HA.out.ext y3).at3
  obtain ⟨e0', e1', e2', e3'⟩ := (HC.out.ext y3).at4
  have Y3 := hid y3
  clear hw2 hgC e1 K2 hbk C y3
  go_region_law (first
    | (go_simp; go_at_call 44; refine (vals_any _ _ _ _).mono ?_; rintro _ _ ⟨rfl, rfl⟩)
    | (go_simp; go_at_call 43; refine S.out.mono ?_; rintro _ w4 ⟨sv, rfl, hs4, x4⟩
       have y4 := hid (Y3.out.trans x4)
       obtain ⟨p0, p1, p2⟩ := (HA.out.ext y4.out).at3
       obtain ⟨q0, q1, q2, q3⟩ := (HC.out.ext y4.out).at4)
    | (go_simp; go_at_call 42; refine (P.out _ (HX2.out.trans y4.out) _ _ (I1.out.ext y4.out) hs4).mono ?_; rintro _ w5 ⟨u, rfl, hu5, x5⟩
       have y5 := hid (y4.out.trans x5)
       have HR5 := hid (HR.out.ext y5.out)
       obtain ⟨r0, r1, r2⟩ := HR5.out.at3
       have f0 := HR5.out.frozen 0; have f1 := HR5.out.frozen 1; have f2 := HR5.out.frozen 2
       have Hu5 := hid hu5
       unfold matV
       obtain ⟨au, cu, rfl, hcu1, hcu2, hcu3⟩ := hu5))
  all_goals
    obtain ⟨bu, fu, rfl, -, -⟩ := hcu3 hml
    have hne := ints_off Hu5.out hml HR5.out
    have hne' : ∀ k, (Value.slice (some ⟨bu, fu, none⟩) ML.length cu).ownBlock = some k → some (w.heap.size + 1) ≠ some k := fun k hk e => hne (by injection hk with hk; injection e with e; exact hk.trans e.symm)
    have F := fin0 HR5.out (HX2.out.trans y5.out) (by omega) (.int .i64 (r : Int)) (.int .i64 (r : Int)) (.slice (some ⟨bu, fu, none⟩) ML.length cu)
    have I9 := ((Hu5.out.grown (setCell_grown _ ⟨w.heap.size + 1, 0, none⟩ (.int .i64 (r : Int))) hne').grown (setCell_grown _ ⟨w.heap.size + 1, 1, none⟩ (.int .i64 (r : Int))) hne').grown (setCell_grown _ ⟨w.heap.size + 1, 2, none⟩ (.slice (some ⟨bu, fu, none⟩) ML.length cu)) hne'
    go_wp2_with fail
    refine bodyPost_ret (results_cell_row_tmp rfl _ _ (w.heap.size + 1) 25 _ (0, 0) _ rfl F.1 Try.underlying25 rfl (by kernel_rfl)) rfl ?_
    exact ⟨_, rfl, I9, F.2⟩
end Go.Proofs.Ytlcempbeecdimaa
