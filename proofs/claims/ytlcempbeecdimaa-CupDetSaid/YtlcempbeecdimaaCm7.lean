/- Package cup: Make. -/
import Derived.Test.YtlcempbeecdimaaUsL
import Derived.Test.YtlcempbeecdimaaCupB5
import Derived.Test.YtlcempbeecdimaaDot
import Derived.Test.YtlcempbeecdimaaGrid
import Derived.Test.YtlcempbeecdimaaCupB2
import Derived.Deep.RegionHeld3
namespace Go.Proofs.Ytlcempbeecdimaa
open Go.RowKit Go.Maps

theorem cmSide (n : Int) (w : World) : Calls Try.prog 38 #[.int .i64 n] w fun e w' => e = .returned (.bool (sideB n)) ∧ w = w' := by
  by_cases h : 1 ≤ n
  · by_cases h' : n ≤ 64
    all_goals
      go_enter Try.func38, Try.ntmps38
      go_wp2
      go_ret
      exact ⟨ret_bool (by simp [sideB]; omega), rfl⟩
  · go_enter Try.func38, Try.ntmps38
    go_wp2
    go_ret
    exact ⟨ret_bool (by simp [sideB]; omega), rfl⟩
/-- one list that is right -/
theorem cmEach1 (p : Int) (r Bm Bp : Nat) (v : Value) (l : List Int) (w : World) (hv : Ints .u64 w v l) (hl : l.length = r) (hp : rightB p = true) (hx : Rng p l) (h1 : w.cell? ⟨Bm, 0, none⟩ = some (.int .i64 r)) (h2 : w.cell? ⟨Bp, 0, none⟩ = some (.int .u64 p)) :
    Calls Try.prog 63 #[v, .pointer (some ⟨Bm, 0, none⟩), .pointer (some ⟨Bp, 0, none⟩)] w (Ret (.bool false) w) := by
  have hp2 := rightB_true hp
  have C := hid (has_yes p v l w hv (hx.u64 hp2.2) (hx.has hp))
  obtain ⟨a, cap, rfl, k1, k2, k3⟩ := hv
  rw [hl] at C ⊢
  clear k3 hl hx hp
  go_enter Try.func63, Try.ntmps63
  go_wp2_with (go_at_call 29; refine C.out.mono ?_; rintro _ w1 ⟨rfl, rfl⟩)
  go_ret
  exact ⟨rfl, (by repeat (first | exact Ext.refl _ | assumption | refine Ext.drew ?_ | refine Ext.drewN ?_ _ | refine Ext.alloc ?_ _ | refine Ext.trans ?_ (by assumption)))⟩
set_option maxRecDepth 100000 in
set_option maxHeartbeats 1000000 in
theorem cmIndexL (p : Int) (r Bm Bp : Nat) (v : Value) (ls : List (List Int)) (w : World) (hv : UsL w v ls) (hn : ls.length ≤ 64) (hl : ∀ l ∈ ls, l.length = r ∧ Rng p l) (hp : rightB p = true) (h1 : w.cell? ⟨Bm, 0, none⟩ = some (.int .i64 r)) (h2 : w.cell? ⟨Bp, 0, none⟩ = some (.int .u64 p)) :
    Calls Try.prog 74 #[v, .func (.func 63) #[] #[.pointer (some ⟨Bm, 0, none⟩), .pointer (some ⟨Bp, 0, none⟩)]] w (Ret (.int .i64 (-1)) w) := by
  have C := hid fun (j : Nat) (hj : j < ls.length) (W : World) (hW : Ext w W) (u : Value) (hu : Ints .u64 W u (ls.getD j [])) => (show Calls Try.prog 63 #[u, .pointer (some ⟨Bm, 0, none⟩), .pointer (some ⟨Bp, 0, none⟩)] W (Ret (.bool false) W) from by
    have h := hl _ (getD_mem [] hj)
    exact cmEach1 p r Bm Bp u _ W hu h.1 hp h.2 ((hW.cells _ _ (cell_lt h1)).trans h1) ((hW.cells _ _ (cell_lt h2)).trans h2))
  obtain ⟨a, cap, rfl, k1, k2, k3⟩ := hv
  have K3 := hid k3
  obtain ⟨n, en⟩ : ∃ n, ls.length = n := ⟨_, rfl⟩
  have En := hid en
  rw [en] at k1 K3 hn C ⊢
  clear k3 en hl h1 h2 hp
  go_enter Try.func74, Try.ntmps74
  go_wp2_with fail
  go_loopw [8] (fun iv wr => ∃ (j : Nat), iv = .int .i64 j ∧ j ≤ n ∧ Ext w wr) (fun iv _ => n - (intOf iv).toNat)
  case atStart => exact ⟨0, rfl, Nat.zero_le _, Ext.refl _⟩
  case round =>
    obtain ⟨j, rfl, hj, hw⟩ := hrel
    by_cases hlt : j < n
    · obtain ⟨b, off, rfl, hb, hc⟩ := K3.out (by omega)
      obtain ⟨u, g1, iu⟩ := hc j hlt
      replace g1 := (hw.cells _ _ hb).trans g1
      replace iu := hid (iu.ext hw)
      clear hc
      have C2 := hid (C.out j hlt wr hw u iu.out)
      have iu2 := iu.out
      obtain ⟨au, cu, rfl, -, -, -⟩ := iu2
      go_wp2_with (go_at_call 63; refine C2.out.mono ?_; rintro _ w1 ⟨rfl, x1⟩)
      go_roundw
      case rel => exact ⟨j + 1, by go_num, by omega, hw.trans x1⟩
      case measure => simp [intOf]; omega
    · obtain rfl : n = j := by omega
      go_wp2_with fail
      go_ret
      exact ⟨rfl, hw⟩
set_option maxHeartbeats 1000000 in
theorem cmContains (p : Int) (r Bm Bp : Nat) (v : Value) (ls : List (List Int)) (w : World) (hv : UsL w v ls) (hn : ls.length ≤ 64) (hl : ∀ l ∈ ls, l.length = r ∧ Rng p l) (hp : rightB p = true) (h1 : w.cell? ⟨Bm, 0, none⟩ = some (.int .i64 r)) (h2 : w.cell? ⟨Bp, 0, none⟩ = some (.int .u64 p)) :
    Calls Try.prog 62 #[v, .func (.func 63) #[] #[.pointer (some ⟨Bm, 0, none⟩), .pointer (some ⟨Bp, 0, none⟩)]] w (Ret (.bool false) w) := by
  have C := hid (cmIndexL p r Bm Bp v ls w hv hn hl hp h1 h2)
  obtain ⟨a, cap, rfl, k1, k2, k3⟩ := hv
  clear k3 hl hp h1 h2
  go_enter Try.func62, Try.ntmps62
  go_wp2_with (go_at_call 74; refine C.out.mono ?_; rintro _ w1 ⟨rfl, x1⟩)
  go_ret
  exact ⟨rfl, x1⟩
set_option maxHeartbeats 1000000 in
theorem cmEach (p : Int) (r : Nat) (v : Value) (ls : List (List Int)) (w : World) (hv : UsL w v ls) (hn : ls.length ≤ 64) (hl : ∀ l ∈ ls, l.length = r ∧ Rng p l) (hp : rightB p = true) :
    Calls Try.prog 39 #[.int .u64 p, v, .int .i64 r] w (Ret (.bool true) w) := by
  have C := hid fun (W : World) (hW : Ext w W) (h1 : W.cell? ⟨w.heap.size + 1, 0, none⟩ = some (.int .i64 r)) (h2 : W.cell? ⟨w.heap.size, 0, none⟩ = some (.int .u64 p)) => cmContains p r (w.heap.size + 1) w.heap.size v ls W (hv.ext hW) hn hl hp h1 h2
  have hb2 := boxes2 w 22 3 #[.int .u64 p] #[.int .i64 (r : Int)]
  have C2 := hid (C.out _ hb2.2.2 (hb2.2.1.cell 0) (hb2.1.cell 0))
  obtain ⟨a, cap, rfl, k1, k2, k3⟩ := hv
  clear k3 hl hp hb2 C
  go_enter Try.func39, Try.ntmps39
  go_wp2_with (first
    | (go_at_call 62; refine C2.out.mono ?_; rintro _ w1 ⟨rfl, x1⟩))
  go_ret
  exact ⟨rfl, (by repeat (first | exact Ext.refl _ | assumption | refine Ext.drew ?_ | refine Ext.drewN ?_ _ | refine Ext.alloc ?_ _ | refine Ext.trans ?_ (by assumption)))⟩

theorem Und.colset {w0 w : World} {h g Q b : Nat} {r c : Int} {l : List Int} (U : Und w0 w h g Q r c l) (h1 : g ≠ b) (h2 : h ≠ b) (h3 : w0.heap.size ≤ b) (k : Nat) (x : Value) : Und w0 (w.setCell ⟨b, k, none⟩ x) h g Q r c l :=
  ⟨U.box.grown (setCell_grown _ _ _) (fun e => h2 (by injection e with e; exact e.symm)), U.row.set_other h1, U.len, U.ext.setCell (p := ⟨b, k, none⟩) h3 _, U.hg, U.hh, U.ne⟩

set_option maxRecDepth 100000 in
set_option maxHeartbeats 2000000 in
theorem cmMake (p : Int) (m n : Nat) (C U : List (List Int)) (l1 l2 : List Int) (v1 v2 v3 v4 : Value) (w : World) (ok : CupOk p m n C U) (h1 : Ints .i64 w v1 l1) (h2 : Ints .i64 w v2 l2) (h3 : UsL w v3 C) (h4 : UsL w v4 U) : Calls Try.prog 15 #[.int .u64 p, .agg #[v1, v2, v3, v4], .int .i64 m, .int .i64 n] w (RetN m n (makeL p C U m n) w) := by
  have hp2 := rightB_true ok.hp
  have HP := hid ok.hp; have Ok := hid ok
  have hm := ok.hm; have hn := ok.hn
  obtain ⟨r, er⟩ : ∃ r, U.length = r := ⟨_, rfl⟩
  have Er := hid er
  have hr : r ≤ 64 := by rw [← er]; exact ok.hu
  have sm' : sideB (m : Int) = true := decide_eq_true (by omega)
  have sn' : sideB (n : Int) = true := decide_eq_true (by omega)
  have CS1 := hid fun W => cmSide (m : Int) W
  have CS2 := hid fun W => cmSide (n : Int) W
  rw [sm'] at CS1; rw [sn'] at CS2
  have E1 := hid fun (W : World) (hW : Ext w W) => cmEach p U.length v3 C W (h3.ext hW) (by rw [ok.lc]; exact hm.2) ok.c ok.hp
  have E2 := hid fun (W : World) (hW : Ext w W) => cmEach p n v4 U W (h4.ext hW) ok.hu ok.u ok.hp
  rw [er] at E1
  have H3 := hid h3; have H4 := hid h4
  obtain ⟨a1, c1, rfl, -, -, -⟩ := h1
  obtain ⟨a2, c2, rfl, -, -, -⟩ := h2
  obtain ⟨a3, c3, rfl, -, k3, K3⟩ := h3
  obtain ⟨a4, c4, rfl, -, k4, K4⟩ := h4
  have lc := ok.lc
  rw [lc] at E1 H3 K3 ⊢
  rw [er] at E2 H4 K4 ⊢
  have K3 := hid K3; have K4 := hid K4
  obtain ⟨Q, hQ⟩ : ∃ Q, m * n = Q := ⟨_, rfl⟩
  have hqi : (m : Int) * (n : Int) = (Q : Int) := by rw [← hQ]; push_cast; rfl
  have hQb : Q ≤ 4096 := by rw [← hQ]; exact Nat.mul_le_mul hm.2 hn.2
  have HQ := hid hQ
  have hmk := make_ints (P := Try.prog) 23 22 .u64 8 (by omega) (by kernel_rfl) (by kernel_rfl) Q Q (Nat.le_refl _) (by omega)
  have hmk2 := make_ints (P := Try.prog) 23 22 .u64 8 (by omega) (by kernel_rfl) (by kernel_rfl) r r (Nat.le_refl _) (by omega)
  obtain ⟨F, hF⟩ : ∃ F : Nat → Nat → Int, (fun i j => (sm U.length fun t => (C.getD i []).getD t 0 * (U.getD t []).getD j 0) % p) = F := ⟨_, rfl⟩
  have HF := hid fun i j => (congrFun (congrFun hF i) j : (sm U.length fun t => (C.getD i []).getD t 0 * (U.getD t []).getD j 0) % p = F i j)
  have hgr : makeL p C U m n = grid m n F := by rw [← hF]; rfl
  rw [hgr]
  have hb2 := hid (boxes2 w 37 25 #[.slice a1 l1.length c1, .slice a2 l2.length c2, .slice a3 m c3, .slice a4 r c4] #[.int .i64 0, .int .i64 0, .slice none 0 0])
  clear ok hQ hF hgr er lc sm' sn'
  go_enter Try.func15, Try.ntmps15
  go_wp2_with (first
    | (go_at_call 38; refine (CS1.out _).mono ?_; rintro _ _ ⟨rfl, rfl⟩)
    | (go_at_call 38; refine (CS2.out _).mono ?_; rintro _ _ ⟨rfl, rfl⟩)
    | (go_at_call 39; refine (E1.out _ hb2.out.2.2).mono ?_; rintro _ w1 ⟨rfl, x1⟩
       have HA1 := hid (hb2.out.1.ext x1)
       obtain ⟨b0, b1, b2, b3⟩ := HA1.out.at4)
    | (go_at_call 39; refine (E2.out _ (hb2.out.2.2.trans x1)).mono ?_; rintro _ w2 ⟨rfl, x2⟩
       have HA2 := hid (HA1.out.ext x2)
       obtain ⟨d0, d1, d2, d3⟩ := HA2.out.at4
       obtain ⟨e0, e1, e2, e3⟩ := (HA2.out.ext (((Ext.refl w2).alloc (.cells (madeCells #[Value.int .u64 0] Q) 22)).alloc (.cells #[.int .i64 (m : Int), .int .i64 (n : Int), .slice (some ⟨w2.heap.size, 0, none⟩) Q Q] 25))).at4))
  have HU0 := hid (Und.start (w0 := w2) (r := (m : Int)) (c := (n : Int)) (Nat.le_refl _) (WRow.made (t := 22) (n := Q) (w := w2) rfl) List.length_replicate ((Ext.refl _).alloc _))
  rw [alloc_size] at HU0
  have HC0 := hid (WRow.made (t := 22) (n := r) (w := ((w2.alloc (.cells (madeCells #[Value.int .u64 0] Q) 22)).alloc (.cells #[.int .i64 (m : Int), .int .i64 (n : Int), .slice (some ⟨w2.heap.size, 0, none⟩) Q Q] 25))) rfl)
  rw [alloc_size, alloc_size] at HC0
  have HU1 := hid (HU0.out.ext' ((Ext.refl _).alloc (.cells (madeCells #[Value.int .u64 0] r) 22)))
  obtain ⟨w4, hw4⟩ : ∃ w4, ((w2.alloc (.cells (madeCells #[Value.int .u64 0] Q) 22)).alloc (.cells #[.int .i64 (m : Int), .int .i64 (n : Int), .slice (some ⟨w2.heap.size, 0, none⟩) Q Q] 25)).alloc (.cells (madeCells #[Value.int .u64 0] r) 22) = w4 := ⟨_, rfl⟩
  rw [hw4] at HU1 HC0
  rw [hw4]
  have HX := hid ((hb2.out.2.2.trans x1).trans x2)
  have HR := hid ((hb2.out.2.1.ext x1).ext x2)
  have hR1 := HR.out.lt
  have hwg : w.heap.size ≤ w2.heap.size := HX.out.size
  obtain ⟨g, hg⟩ : ∃ g, w2.heap.size = g := ⟨_, rfl⟩
  obtain ⟨h, hh⟩ : ∃ h, g + 1 = h := ⟨_, rfl⟩
  obtain ⟨gc, hgc⟩ : ∃ gc, h + 1 = gc := ⟨_, rfl⟩
  obtain ⟨gR, hgR⟩ : ∃ gR, w.heap.size + 1 = gR := ⟨_, rfl⟩
  obtain ⟨gA, hgA⟩ : ∃ gA, w.heap.size = gA := ⟨_, rfl⟩
  rw [hg, hh] at HU1
  rw [hg, hh, hgc] at HC0
  rw [hgR] at HR hR1
  rw [hgA] at HA2
  rw [hg, hh, hgc, hgR, hgA]
  rw [hg] at hwg
  have hR1' : gR < w2.heap.size := hR1
  rw [hg] at hR1
  have n1 : g ≠ gc := by omega
  have n2 : h ≠ gc := by omega
  have n3 : w2.heap.size ≤ gc := by omega
  have n4 : w.heap.size ≤ gR := by omega
  clear HU0 hw4 hmk hmk2 hg hh hgc hgR b0 b1 b2 b3 d0 d1 d2 d3 e0 e1 e2 e3 HA1 hb2 E1 E2 CS1 CS2 x1 x2
  go_loopw [63] (fun jv wr => ∃ (j : Nat) (l col : List Int), jv = .int .i64 j ∧ j ≤ n ∧ Hid (Und w2 wr h g Q m n l) ∧ Hid (WRow wr gc 0 col) ∧ Hid (col.length = r) ∧ Hid (∀ a b, a < m → b < j → l.getD (a * n + b) 0 = F a b)) (fun jv _ => n - (intOf jv).toNat)
  case atStart => exact ⟨0, _, _, rfl, Nat.zero_le _, HU1, HC0, hid List.length_replicate, hid (by omega)⟩
  case round =>
    clear HU1 HC0
    obtain ⟨j, l, col, rfl, hj, HU, HC, hcl, hl⟩ := hrel
    obtain ⟨b0, b1, b2, b3⟩ := (HA2.out.ext HU.out.ext).at4
    by_cases hlt : j < n
    · go_wp2_with fail
      go_loopw [69] (fun kv wr => ∃ (k : Nat) (col : List Int), kv = .int .i64 k ∧ k ≤ r ∧ Hid (Und w2 wr h g Q m n l) ∧ Hid (WRow wr gc 0 col) ∧ Hid (col.length = r) ∧ Hid (∀ t, t < k → col.getD t 0 = (U.getD t []).getD j 0)) (fun kv _ => r - (intOf kv).toNat)
      case atStart => exact ⟨0, col, rfl, Nat.zero_le _, HU, HC, hcl, hid (fun t ht => absurd ht (Nat.not_lt_zero _))⟩
      case round =>
        clear b0 b1 b2 b3 HU HC hcl
        obtain ⟨k, col, rfl, hk, HU, HC, hcl, hcg⟩ := hrel
        obtain ⟨b0, b1, b2, b3⟩ := (HA2.out.ext HU.out.ext).at4
        by_cases hlk : k < r
        · obtain ⟨bu, fu, rfl, hbu, q4⟩ := K4.out (by omega)
          replace q4 := q4 k hlk
          obtain ⟨u, q4, iu⟩ := q4
          replace q4 := ((HX.out.trans HU.out.ext).cells _ _ hbu).trans q4
          replace iu := iu.ext (HX.out.trans HU.out.ext)
          have hul := (Ok.out.u _ (getD_mem [] (show k < U.length by rw [Er.out]; exact hlk))).1
          obtain ⟨au, cu, rfl, -, -, k5⟩ := iu
          rw [hul] at q4 k5
          obtain ⟨br, fr, rfl, -, q6⟩ := k5 (by omega)
          replace q6 := q6 j hlt
          obtain ⟨x, ex⟩ : ∃ x, (U.getD k []).getD j 0 = x := ⟨_, rfl⟩
          rw [ex] at q6
          have Ex := hid ex
          have gc1 := (HC.out.2 k (by rw [hcl.out]; exact hlk)).1
          have gc2 := (HC.out.2 k (by rw [hcl.out]; exact hlk)).2
          rw [Nat.zero_add] at gc1 gc2
          have Hs := hid (HC.out.set_ (i := k) (by rw [hcl.out]; exact hlk) x)
          rw [Nat.zero_add] at Hs
          clear ex k5 hul hbu
          go_wp2_with fail
          go_roundw
          case rel =>
            refine ⟨k + 1, col.set k x, by go_num, by omega, hid (HU.out.colset n1 n2 n3 k _), Hs, hid (by rw [List.length_set]; exact hcl.out), hid (fun t ht => ?_)⟩
            rw [set_get col k t x (by rw [hcl.out]; exact hlk)]
            by_cases e : k = t
            · subst e; rw [if_pos rfl, Ex.out]
            · rw [if_neg e]; exact hcg.out t (by omega)
          case measure => simp [intOf]; omega
        · obtain rfl : r = k := by omega
          have HcI := hid fun (W : World) (hW : Ext wr W) => (HC.out.ext hW).ints' hcl.out (Nat.le_refl _) (by omega : r ≤ 9223372036854775807)
          go_wp2_with fail
          go_loopw [85] (fun iv wr => ∃ (i : Nat) (l : List Int), iv = .int .i64 i ∧ i ≤ m ∧ Hid (Und w2 wr h g Q m n l) ∧ Hid (WRow wr gc 0 col) ∧ Hid (∀ a b, a < m → (b < j ∨ b = j ∧ a < i) → l.getD (a * n + b) 0 = F a b)) (fun iv _ => m - (intOf iv).toNat)
          case atStart => exact ⟨0, l, rfl, Nat.zero_le _, HU, HC, hid fun a b ha hb => hl.out a b ha (by omega)⟩
          case round =>
            clear b0 b1 b2 b3 HU HC HcI
            obtain ⟨i, l2, rfl, hi, HU, HC, hl2⟩ := hrel
            rename World => wi
            obtain ⟨b0, b1, b2, b3⟩ := (HA2.out.ext HU.out.ext).at4
            obtain ⟨o0, o1, o2⟩ := HU.out.box.at3
            by_cases hli : i < m
            · obtain ⟨bc, fc, rfl, hbc, q3⟩ := K3.out (by omega)
              replace q3 := q3 i hli
              obtain ⟨u, q3, iu⟩ := q3
              replace q3 := ((HX.out.trans HU.out.ext).cells _ _ hbc).trans q3
              replace iu := iu.ext (HX.out.trans HU.out.ext)
              have hc2 := Ok.out.c _ (getD_mem [] (show i < C.length by rw [Ok.out.lc]; exact hli))
              rw [Er.out] at hc2
              obtain ⟨ci, eci⟩ : ∃ ci, C.getD i [] = ci := ⟨_, rfl⟩
              rw [eci] at iu hc2
              obtain ⟨z, hz⟩ : ∃ z, F i j = z := ⟨_, rfl⟩
              have hdot : dotZ ci col % p = z := by
                rw [dotZ_sm _ _ (by rw [hc2.1, hcl.out]), hc2.1, ← hz, ← HF.out i j, Er.out]
                congr 1
                exact sm_congr fun t ht => by rw [eci, hcg.out t ht]
              have hcr : Rng p col := fun y hy => by
                obtain ⟨t, ht, rfl⟩ := List.getElem_of_mem hy
                have h1 := hcg.out t (by rw [← hcl.out]; exact ht)
                rw [List.getD, List.getElem?_eq_getElem ht, Option.getD_some] at h1
                rw [h1]
                exact ((Ok.out.u _ (getD_mem [] (show t < U.length by rw [Er.out, ← hcl.out]; exact ht))).2).getD hp2.1 j
              have Hdot := hid hdot; have Hz := hid hz; have Hcr := hid hcr; have Hc2 := hid hc2.2; have Hc1 := hid hc2.1
              have Iu := hid iu
              obtain ⟨au, cu, rfl, -, -, -⟩ := iu
              rw [Hc1.out] at q3 Iu
              obtain ⟨o, ho⟩ : ∃ o, i * n = o := ⟨_, rfl⟩
              obtain ⟨t, ht⟩ : ∃ t, o + j = t := ⟨_, rfl⟩
              have htQ : t < Q := by rw [← ht, ← ho, ← HQ.out]; exact at_lt hli hlt
              have hoi : (i : Int) * (n : Int) = (o : Int) := by rw [← ho]; push_cast; rfl
              have how : IntKind.i64.wrap (o : Int) = (o : Int) := IntWalk.i64_in _ (by omega)
              have hti : (o : Int) + (j : Int) = (t : Int) := by omega
              have htw : IntKind.i64.wrap (t : Int) = (t : Int) := IntWalk.i64_in _ (by omega)
              have hti2 : (t : Int) < (Q : Int) := by omega
              have hti0 : (0 : Int) ≤ (t : Int) := by omega
              have Ht := hid (show i * n + j = t by rw [ho]; exact ht)
              have fs := hid (fun (W : World) (hW : Ext wi W) => (HU.out.ext' hW).box.cell 2)
              have fs2 := hid (fun (W : World) (hW : Ext wi W) (x : Value) => ((HU.out.ext' hW).box.grown (setCell_grown W ⟨g, t, none⟩ x) (fun e => HU.out.ne (by injection e))).cell 2)
              have HcI := hid fun (W : World) (hW : Ext wi W) => (HC.out.ext hW).ints' hcl.out (Nat.le_refl _) (by omega : r ≤ 9223372036854775807)
              clear hz hdot hcr hc2 eci ho ht hbc
              go_wp2_with fail
              go_region_held3 (fun w' => w'.cell? ⟨h, 2, none⟩ = some (.slice (some ⟨g, 0, none⟩) Q Q)) (first | assumption | exact fs.out _ ((Ext.refl wi).drew) | exact fs.out _ (by assumption) | exact fs2.out _ (by assumption) _)
                ((first
                  | (go_at_call 40
                     refine (dot_as p z _ _ ci col _ (Iu.out.ext ((Ext.refl wi).drew)) (HcI.out _ ((Ext.refl wi).drew)) (Hc2.out.u64 hp2.2) (Hcr.out.u64 hp2.2) (by rw [Hc1.out, hcl.out]) (Hc2.out.has HP.out) (Hcr.out.has HP.out) Hdot.out).mono ?_
                     rintro _ w8 ⟨rfl, x8⟩
                     have y8 : Ext wi w8 := ((Ext.refl wi).drew).trans x8
                     have HU8 := hid (HU.out.ext' y8)
                     obtain ⟨gt, ft⟩ := HU8.out.at_ htQ)))
              go_wp2_with fail
              go_roundw
              case rel =>
                refine ⟨i + 1, l2.set t z, by go_num, by omega, hid (HU8.out.put htQ z), hid ((HC.out.ext y8).set_other n1.symm), hid fun a b ha hb => ?_⟩
                by_cases hbn : b < n
                · rw [← Ht.out, put_at z hlt hbn (by rw [Ht.out, HU.out.len]; exact htQ)]
                  by_cases e : a = i ∧ b = j
                  · rw [if_pos e, e.1, e.2]; exact Hz.out.symm
                  · rw [if_neg e]; exact hl2.out a b ha (by omega)
                · omega
              case measure => simp [intOf]; omega
            · obtain rfl : m = i := by omega
              go_wp2_with fail
              go_roundw
              case rel => exact ⟨j + 1, l2, col, by go_num, by omega, HU, HC, hcl, hid fun a b ha hb => hl2.out a b ha (by omega)⟩
              case measure => simp [intOf]; omega
    · obtain rfl : n = j := by omega
      have hRr := HR.out.ext HU.out.ext
      obtain ⟨r0, r1, r2⟩ := hRr.at3
      have f0 := hRr.frozen 0
      have f1 := hRr.frozen 1
      have f2 := hRr.frozen 2
      obtain ⟨o0, o1, o2⟩ := HU.out.box.at3
      have FF := hid (HU.out.fin hRr hR1' (HX.out.trans HU.out.ext) n4 (by omega))
      clear hRr
      go_wp2_with fail
      refine bodyPost_ret (results_cell_row_tmp rfl _ _ gR 25 _ (0, 0) _ rfl FF.out.1 Try.underlying25 rfl (by kernel_rfl)) rfl ?_
      have e : l = grid m n _ := grid_of (by rw [HU.out.len, HQ.out]) fun a b ha hb => hl.out a b ha hb
      exact ⟨_, rfl, e ▸ FF.out.2.1, FF.out.2.2⟩
end Go.Proofs.Ytlcempbeecdimaa
