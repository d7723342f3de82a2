/- What the texts Cm7, CmN show, in one text. -/
import Derived.Test.YtnfnommiabalfaaBun13
import Derived.Test.YtnfnommiabalfaaBun15
import Derived.Test.YtnfnommiabalfaaBun06
import Derived.Test.YtnfnommiabalfaaBun08
import Derived.Deep.RegionHeld3
import Derived.Test.YtnfnommiabalfaaBun16
/- Package cup: Make. -/
namespace Go.Proofs.Ytnfnommiabalfaa
open Go.RowKit Go.Maps

theorem cmSide (n : Int) (w : World) : Calls Try.prog 41 #[.int .i64 n] w fun e w' => e = .returned (.bool (sideB n)) ∧ w = w' := by
  by_cases h : 1 ≤ n
  · by_cases h' : n ≤ 64
    all_goals
      go_enter Try.func41, Try.ntmps41
      go_wp2
      go_ret
      exact ⟨ret_bool (by simp [sideB]; omega), rfl⟩
  · go_enter Try.func41, Try.ntmps41
    go_wp2
    go_ret
    exact ⟨ret_bool (by simp [sideB]; omega), rfl⟩
/-- one list that is right -/
theorem cmEach1 (p : Int) (r Bm Bp : Nat) (v : Value) (l : List Int) (w : World) (hv : Ints .u64 w v l) (hl : l.length = r) (hp : rightB p = true) (hx : Rng p l) (h1 : w.cell? ⟨Bm, 0, none⟩ = some (.int .i64 r)) (h2 : w.cell? ⟨Bp, 0, none⟩ = some (.int .u64 p)) :
    Calls Try.prog 72 #[v, .pointer (some ⟨Bm, 0, none⟩), .pointer (some ⟨Bp, 0, none⟩)] w (Ret (.bool false) w) := by
  have hp2 := rightB_true hp
  have C := hid (has_yes p v l w hv (hx.u64 hp2.2) (hx.has hp))
  obtain ⟨a, cap, rfl, k1, k2, k3⟩ := hv
  rw [hl] at C ⊢
  clear k3 hl hx hp
  go_enter Try.func72, Try.ntmps72
  go_wp2_with (go_at_call 27; refine C.out.mono ?_; rintro _ w1 ⟨rfl, rfl⟩)
  go_ret
  exact ⟨rfl, (by repeat (first | exact Ext.refl _ | assumption | refine Ext.drew ?_ | refine Ext.drewN ?_ _ | refine Ext.alloc ?_ _ | refine Ext.trans ?_ (by assumption)))⟩
set_option maxRecDepth 100000 in
set_option maxHeartbeats 1000000 in
theorem cmIndexL (p : Int) (r Bm Bp : Nat) (v : Value) (ls : List (List Int)) (w : World) (hv : UsL w v ls) (hn : ls.length ≤ 64) (hl : ∀ l ∈ ls, l.length = r ∧ Rng p l) (hp : rightB p = true) (h1 : w.cell? ⟨Bm, 0, none⟩ = some (.int .i64 r)) (h2 : w.cell? ⟨Bp, 0, none⟩ = some (.int .u64 p)) :
    Calls Try.prog 67 #[v, .func (.func 72) #[] #[.pointer (some ⟨Bm, 0, none⟩), .pointer (some ⟨Bp, 0, none⟩)]] w (Ret (.int .i64 (-1)) w) := by
  have C := hid fun (j : Nat) (hj : j < ls.length) (W : World) (hW : Ext w W) (u : Value) (hu : Ints .u64 W u (ls.getD j [])) => (show Calls Try.prog 72 #[u, .pointer (some ⟨Bm, 0, none⟩), .pointer (some ⟨Bp, 0, none⟩)] W (Ret (.bool false) W) from by
    have h := hl _ (getD_mem [] hj)
    exact cmEach1 p r Bm Bp u _ W hu h.1 hp h.2 ((hW.cells _ _ (cell_lt h1)).trans h1) ((hW.cells _ _ (cell_lt h2)).trans h2))
  obtain ⟨a, cap, rfl, k1, k2, k3⟩ := hv
  have K3 := hid k3
  obtain ⟨n, en⟩ : ∃ n, ls.length = n := ⟨_, rfl⟩
  have En := hid en
  rw [en] at k1 K3 hn C ⊢
  clear k3 en hl h1 h2 hp
  go_enter Try.func67, Try.ntmps67
  go_wp2_with fail
  go_loopw [8] (fun iv wr => ∃ (j : Nat), iv = .int .i64 j ∧ j ≤ n ∧ Ext w wr) (fun iv _ => n - (intOf iv).toNat)
  case atStart => exact ⟨0, rfl, Nat.zero_le _, Ext.refl _⟩
  case round =>
    obtain ⟨j, rfl, hj, hw⟩ := hrel
    by_cases hlt : j < n
    · obtain ⟨b, off, rfl, hb, hc⟩ := K3.out (by omega)
      obtain ⟨u, g1, iu⟩ := hc j hlt
      replace g1 := (hw.cells _ _ hb).trans g1
      replace iu := hid (iu.ext hw)
      clear hc
      have C2 := hid (C.out j hlt wr hw u iu.out)
      have iu2 := iu.out
      obtain ⟨au, cu, rfl, -, -, -⟩ := iu2
      go_wp2_with (go_at_call 72; refine C2.out.mono ?_; rintro _ w1 ⟨rfl, x1⟩)
      go_roundw
      case rel => exact ⟨j + 1, by go_num, by omega, hw.trans x1⟩
      case measure => simp [intOf]; omega
    · obtain rfl : n = j := by omega
      go_wp2_with fail
      go_ret
      exact ⟨rfl, hw⟩
set_option maxHeartbeats 1000000 in
theorem cmContains (p : Int) (r Bm Bp : Nat) (v : Value) (ls : List (List Int)) (w : World) (hv : UsL w v ls) (hn : ls.length ≤ 64) (hl : ∀ l ∈ ls, l.length = r ∧ Rng p l) (hp : rightB p = true) (h1 : w.cell? ⟨Bm, 0, none⟩ = some (.int .i64 r)) (h2 : w.cell? ⟨Bp, 0, none⟩ = some (.int .u64 p)) :
    Calls Try.prog 71 #[v, .func (.func 72) #[] #[.pointer (some ⟨Bm, 0, none⟩), .pointer (some ⟨Bp, 0, none⟩)]] w (Ret (.bool false) w) := by
  have C := hid (cmIndexL p r Bm Bp v ls w hv hn hl hp h1 h2)
  obtain ⟨a, cap, rfl, k1, k2, k3⟩ := hv
  clear k3 hl hp h1 h2
  go_enter Try.func71, Try.ntmps71
  go_wp2_with (go_at_call 67; refine C.out.mono ?_; rintro _ w1 ⟨rfl, x1⟩)
  go_ret
  exact ⟨rfl, x1⟩
set_option maxHeartbeats 1000000 in
theorem cmEach (p : Int) (r : Nat) (v : Value) (ls : List (List Int)) (w : World) (hv : UsL w v ls) (hn : ls.length ≤ 64) (hl : ∀ l ∈ ls, l.length = r ∧ Rng p l) (hp : rightB p = true) :
    Calls Try.prog 42 #[.int .u64 p, v, .int .i64 r] w (Ret (.bool true) w) := by
  have C := hid fun (W : World) (hW : Ext w W) (h1 : W.cell? ⟨w.heap.size + 1, 0, none⟩ = some (.int .i64 r)) (h2 : W.cell? ⟨w.heap.size, 0, none⟩ = some (.int .u64 p)) => cmContains p r (w.heap.size + 1) w.heap.size v ls W (hv.ext hW) hn hl hp h1 h2
  have hb2 := boxes2 w 22 3 #[.int .u64 p] #[.int .i64 (r : Int)]
  have C2 := hid (C.out _ hb2.2.2 (hb2.2.1.cell 0) (hb2.1.cell 0))
  obtain ⟨a, cap, rfl, k1, k2, k3⟩ := hv
  clear k3 hl hp hb2 C
  go_enter Try.func42, Try.ntmps42
  go_wp2_with (first
    | (go_at_call 71; refine C2.out.mono ?_; rintro _ w1 ⟨rfl, x1⟩))
  go_ret
  exact ⟨rfl, (by repeat (first | exact Ext.refl _ | assumption | refine Ext.drew ?_ | refine Ext.drewN ?_ _ | refine Ext.alloc ?_ _ | refine Ext.trans ?_ (by assumption)))⟩

theorem Und.colset {w0 w : World} {h g Q b : Nat} {r c : Int} {l : List Int} (U : Und w0 w h g Q r c l) (h1 : g ≠ b) (h2 : h ≠ b) (h3 : w0.heap.size ≤ b) (k : Nat) (x : Value) : Und w0 (w.setCell ⟨b, k, none⟩ x) h g Q r c l :=
  ⟨U.box.grown (setCell_grown _ _ _) (fun e => h2 (by injection e with e; exact e.symm)), U.row.set_other h1, U.len, U.ext.setCell (p := ⟨b, k, none⟩) h3 _, U.hg, U.hh, U.ne⟩

set_option maxRecDepth 100000 in
set_option maxHeartbeats 2000000 in
theorem cmMake (p : Int) (m n : Nat) (C U : List (List Int)) (l1 l2 : List Int) (v1 v2 v3 v4 : Value) (w : World) (ok : CupOk p m n C U) (h1 : Ints .i64 w v1 l1) (h2 : Ints .i64 w v2 l2) (h3 : UsL w v3 C) (h4 : UsL w v4 U) : Calls Try.prog 14 #[.int .u64 p, .agg #[v1, v2, v3, v4], .int .i64 m, .int .i64 n] w (RetN m n (makeL p C U m n) w) := by
  have hp2 := rightB_true ok.hp
  have HP := hid ok.hp; have Ok := hid ok
  have hm := ok.hm; have hn := ok.hn
  obtain ⟨r, er⟩ : ∃ r, U.length = r := ⟨_, rfl⟩
  have Er := hid er
  have hr : r ≤ 64 := by rw [← er]; exact ok.hu
  have sm' : sideB (m : Int) = true := decide_eq_true (by omega)
  have sn' : sideB (n : Int) = true := decide_eq_true (by omega)
  have CS1 := hid fun W => cmSide (m : Int) W
  have CS2 := hid fun W => cmSide (n : Int) W
  rw [sm'] at CS1; rw [sn'] at CS2
  have E1 := hid fun (W : World) (hW : Ext w W) => cmEach p U.length v3 C W (h3.ext hW) (by rw [ok.lc]; exact hm.2) ok.c ok.hp
  have E2 := hid fun (W : World) (hW : Ext w W) => cmEach p n v4 U W (h4.ext hW) ok.hu ok.u ok.hp
  rw [er] at E1
  have H3 := hid h3; have H4 := hid h4
  obtain ⟨a1, c1, rfl, -, -, -⟩ := h1
  obtain ⟨a2, c2, rfl, -, -, -⟩ := h2
  obtain ⟨a3, c3, rfl, -, k3, K3⟩ := h3
  obtain ⟨a4, c4, rfl, -, k4, K4⟩ := h4
  have lc := ok.lc
  rw [lc] at E1 H3 K3 ⊢
  rw [er] at E2 H4 K4 ⊢
  have K3 := hid K3; have K4 := hid K4
  obtain ⟨Q, hQ⟩ : ∃ Q, m * n = Q := ⟨_, rfl⟩
  have hqi : (m : Int) * (n : Int) = (Q : Int) := by rw [← hQ]; push_cast; rfl
  have hQb : Q ≤ 4096 := by rw [← hQ]; exact Nat.mul_le_mul hm.2 hn.2
  have HQ := hid hQ
  have hmk := make_ints (P := Try.prog) 23 22 .u64 8 (by omega) (by kernel_rfl) (by kernel_rfl) Q Q (Nat.le_refl _) (by omega)
  have hmk2 := make_ints (P := Try.prog) 23 22 .u64 8 (by omega) (by kernel_rfl) (by kernel_rfl) r r (Nat.le_refl _) (by omega)
  obtain ⟨F, hF⟩ : ∃ F : Nat → Nat → Int, (fun i j => (sm U.length fun t => (C.getD i []).getD t 0 * (U.getD t []).getD j 0) % p) = F := ⟨_, rfl⟩
  have HF := hid fun i j => (congrFun (congrFun hF i) j : (sm U.length fun t => (C.getD i []).getD t 0 * (U.getD t []).getD j 0) % p = F i j)
  have hgr : makeL p C U m n = grid m n F := by rw [← hF]; rfl
  rw [hgr]
  have hb2 := hid (boxes2 w 29 25 #[.slice a1 l1.length c1, .slice a2 l2.length c2, .slice a3 m c3, .slice a4 r c4] #[.int .i64 0, .int .i64 0, .slice none 0 0])
  clear ok hQ hF hgr er lc sm' sn'
  go_enter Try.func14, Try.ntmps14
  go_wp2_with (first
    | (go_at_call 41; refine (CS1.out _).mono ?_; rintro _ _ ⟨rfl, rfl⟩)
    | (go_at_call 41; refine (CS2.out _).mono ?_; rintro _ _ ⟨rfl, rfl⟩)
    | (go_at_call 42; refine (E1.out _ hb2.out.2.2).mono ?_; rintro _ w1 ⟨rfl, x1⟩
       have HA1 := hid (hb2.out.1.ext x1)
       obtain ⟨b0, b1, b2, b3⟩ := HA1.out.at4)
    | (go_at_call 42; refine (E2.out _ (hb2.out.2.2.trans x1)).mono ?_; rintro _ w2 ⟨rfl, x2⟩
       have HA2 := hid (HA1.out.ext x2)
       obtain ⟨d0, d1, d2, d3⟩ := HA2.out.at4
       obtain ⟨e0, e1, e2, e3⟩ := (HA2.out.ext (((Ext.refl w2).alloc (.cells (madeCells #[Value.int .u64 0] Q) 22)).alloc (.cells #[.int .i64 (m : Int), .int .i64 (n : Int), .slice (some ⟨w2.heap.size, 0, none⟩) Q Q] 25))).at4))
  have HU0 := hid (Und.start (w0 := w2) (r := (m : Int)) (c := (n : Int)) (Nat.le_refl _) (WRow.made (t := 22) (n := Q) (w := w2) rfl) List.length_replicate ((Ext.refl _).alloc _))
  rw [alloc_size] at HU0
  have HC0 := hid (WRow.made (t := 22) (n := r) (w := ((w2.alloc (.cells (madeCells #[Value.int .u64 0] Q) 22)).alloc (.cells #[.int .i64 (m : Int), .int .i64 (n : Int), .slice (some ⟨w2.heap.size, 0, none⟩) Q Q] 25))) rfl)
  rw [alloc_size, alloc_size] at HC0
  have HU1 := hid (HU0.out.ext' ((Ext.refl _).alloc (.cells (madeCells #[Value.int .u64 0] r) 22)))
  obtain ⟨w4, hw4⟩ : ∃ w4, ((w2.alloc (.cells (madeCells #[Value.int .u64 0] Q) 22)).alloc (.cells #[.int .i64 (m : Int), .int .i64 (n : Int), .slice (some ⟨w2.heap.size, 0, none⟩) Q Q] 25)).alloc (.cells (madeCells #[Value.int .u64 0] r) 22) = w4 := ⟨_, rfl⟩
  rw [hw4] at HU1 HC0
  rw [hw4]
  have HX := hid ((hb2.out.2.2.trans x1).trans x2)
  have HR := hid ((hb2.out.2.1.ext x1).ext x2)
  have hR1 := HR.out.lt
  have hwg : w.heap.size ≤ w2.heap.size := HX.out.size
  obtain ⟨g, hg⟩ : ∃ g, w2.heap.size = g := ⟨_, rfl⟩
  obtain ⟨h, hh⟩ : ∃ h, g + 1 = h := ⟨_, rfl⟩
  obtain ⟨gc, hgc⟩ : ∃ gc, h + 1 = gc := ⟨_, rfl⟩
  obtain ⟨gR, hgR⟩ : ∃ gR, w.heap.size + 1 = gR := ⟨_, rfl⟩
  obtain ⟨gA, hgA⟩ : ∃ gA, w.heap.size = gA := ⟨_, rfl⟩
  rw [hg, hh] at HU1
  rw [hg, hh, hgc] at HC0
  rw [hgR] at HR hR1
  rw [hgA] at HA2
  rw [hg, hh, hgc, hgR, hgA]
  rw [hg] at hwg
  have hR1' : gR < w2.heap.size := hR1
  rw [hg] at hR1
  have n1 : g ≠ gc := by omega
  have n2 : h ≠ gc := by omega
  have n3 : w2.heap.size ≤ gc := by omega
  have n4 : w.heap.size ≤ gR := by omega
  clear HU0 hw4 hmk hmk2 hg hh hgc hgR b0 b1 b2 b3 d0 d1 d2 d3 e0 e1 e2 e3 HA1 hb2 E1 E2 CS1 CS2 x1 x2
  go_loopw [63] (fun jv wr => ∃ (j : Nat) (l col : List Int), jv = .int .i64 j ∧ j ≤ n ∧ Hid (Und w2 wr h g Q m n l) ∧ Hid (WRow wr gc 0 col) ∧ Hid (col.length = r) ∧ Hid (∀ a b, a < m → b < j → l.getD (a * n + b) 0 = F a b)) (fun jv _ => n - (intOf jv).toNat)
  case atStart => exact ⟨0, _, _, rfl, Nat.zero_le _, HU1, HC0, hid List.length_replicate, hid (by omega)⟩
  case round =>
    clear HU1 HC0
    obtain ⟨j, l, col, rfl, hj, HU, HC, hcl, hl⟩ := hrel
    obtain ⟨b0, b1, b2, b3⟩ := (HA2.out.ext HU.out.ext).at4
    by_cases hlt : j < n
    · go_wp2_with fail
      go_loopw [69] (fun kv wr => ∃ (k : Nat) (col : List Int), kv = .int .i64 k ∧ k ≤ r ∧ Hid (Und w2 wr h g Q m n l) ∧ Hid (WRow wr gc 0 col) ∧ Hid (col.length = r) ∧ Hid (∀ t, t < k → col.getD t 0 = (U.getD t []).getD j 0)) (fun kv _ => r - (intOf kv).toNat)
      case atStart => exact ⟨0, col, rfl, Nat.zero_le _, HU, HC, hcl, hid (fun t ht => absurd ht (Nat.not_lt_zero _))⟩
      case round =>
        clear b0 b1 b2 b3 HU HC hcl
        obtain ⟨k, col, rfl, hk, HU, HC, hcl, hcg⟩ := hrel
        obtain ⟨b0, b1, b2, b3⟩ := (HA2.out.ext HU.out.ext).at4
        by_cases hlk : k < r
        · obtain ⟨bu, fu, rfl, hbu, q4⟩ := K4.out (by omega)
          replace q4 := q4 k hlk
          obtain ⟨u, q4, iu⟩ := q4
          replace q4 := ((HX.out.trans HU.out.ext).cells _ _ hbu).trans q4
          replace iu := iu.ext (HX.out.trans HU.out.ext)
          have hul := (Ok.out.u _ (getD_mem [] (show k < U.length by rw [Er.out]; exact hlk))).1
          obtain ⟨au, cu, rfl, -, -, k5⟩ := iu
          rw [hul] at q4 k5
          obtain ⟨br, fr, rfl, -, q6⟩ := k5 (by omega)
          replace q6 := q6 j hlt
          obtain ⟨x, ex⟩ : ∃ x, (U.getD k []).getD j 0 = x := ⟨_, rfl⟩
          rw [ex] at q6
          have Ex := hid ex
          have gc1 := (HC.out.2 k (by rw [hcl.out]; exact hlk)).1
          have gc2 := (HC.out.2 k (by rw [hcl.out]; exact hlk)).2
          rw [Nat.zero_add] at gc1 gc2
          have Hs := hid (HC.out.set_ (i := k) (by rw [hcl.out]; exact hlk) x)
          rw [Nat.zero_add] at Hs
          clear ex k5 hul hbu
          go_wp2_with fail
          go_roundw
          case rel =>
            refine ⟨k + 1, col.set k x, by go_num, by omega, hid (HU.out.colset n1 n2 n3 k _), Hs, hid (by rw [List.length_set]; exact hcl.out), hid (fun t ht => ?_)⟩
            rw [set_get col k t x (by rw [hcl.out]; exact hlk)]
            by_cases e : k = t
            · subst e; rw [if_pos rfl, Ex.out]
            · rw [if_neg e]; exact hcg.out t (by omega)
          case measure => simp [intOf]; omega
        · obtain rfl : r = k := by omega
          have HcI := hid fun (W : World) (hW : Ext wr W) => (HC.out.ext hW).ints' hcl.out (Nat.le_refl _) (by omega : r ≤ 9223372036854775807)
          go_wp2_with fail
          go_loopw [85] (fun iv wr => ∃ (i : Nat) (l : List Int), iv = .int .i64 i ∧ i ≤ m ∧ Hid (Und w2 wr h g Q m n l) ∧ Hid (WRow wr gc 0 col) ∧ Hid (∀ a b, a < m → (b < j ∨ b = j ∧ a < i) → l.getD (a * n + b) 0 = F a b)) (fun iv _ => m - (intOf iv).toNat)
          case atStart => exact ⟨0, l, rfl, Nat.zero_le _, HU, HC, hid fun a b ha hb => hl.out a b ha (by omega)⟩
          case round =>
            clear b0 b1 b2 b3 HU HC HcI
            obtain ⟨i, l2, rfl, hi, HU, HC, hl2⟩ := hrel
            rename World => wi
            obtain ⟨b0, b1, b2, b3⟩ := (HA2.out.ext HU.out.ext).at4
            obtain ⟨o0, o1, o2⟩ := HU.out.box.at3
            by_cases hli : i < m
            · obtain ⟨bc, fc, rfl, hbc, q3⟩ := K3.out (by omega)
              replace q3 := q3 i hli
              obtain ⟨u, q3, iu⟩ := q3
              replace q3 := ((HX.out.trans HU.out.ext).cells _ _ hbc).trans q3
              replace iu := iu.ext (HX.out.trans HU.out.ext)
              have hc2 := Ok.out.c _ (getD_mem [] (show i < C.length by rw [Ok.out.lc]; exact hli))
              rw [Er.out] at hc2
              obtain ⟨ci, eci⟩ : ∃ ci, C.getD i [] = ci := ⟨_, rfl⟩
              rw [eci] at iu hc2
              obtain ⟨z, hz⟩ : ∃ z, F i j = z := ⟨_, rfl⟩
              have hdot : dotZ ci col % p = z := by
                rw [dotZ_sm _ _ (by rw [hc2.1, hcl.out]), hc2.1, ← hz, ← HF.out i j, Er.out]
                congr 1
                exact sm_congr fun t ht => by rw [eci, hcg.out t ht]
              have hcr : Rng p col := fun y hy => by
                obtain ⟨t, ht, rfl⟩ := List.getElem_of_mem hy
                have h1 := hcg.out t (by rw [← hcl.out]; exact ht)
                rw [List.getD, List.getElem?_eq_getElem ht, Option.getD_some] at h1
                rw [h1]
                exact ((Ok.out.u _ (getD_mem [] (show t < U.length by rw [Er.out, ← hcl.out]; exact ht))).2).getD hp2.1 j
              have Hdot := hid hdot; have Hz := hid hz; have Hcr := hid hcr; have Hc2 := hid hc2.2; have Hc1 := hid hc2.1
              have Iu := hid iu
              obtain ⟨au, cu, rfl, -, -, -⟩ := iu
              rw [Hc1.out] at q3 Iu
              obtain ⟨o, ho⟩ : ∃ o, i * n = o := ⟨_, rfl⟩
              obtain ⟨t, ht⟩ : ∃ t, o + j = t := ⟨_, rfl⟩
              have htQ : t < Q := by rw [← ht, ← ho, ← HQ.out]; exact at_lt hli hlt
              have hoi : (i : Int) * (n : Int) = (o : Int) := by rw [← ho]; push_cast; rfl
              have how : IntKind.i64.wrap (o : Int) = (o : Int) := IntWalk.i64_in _ (by omega)
              have hti : (o : Int) + (j : Int) = (t : Int) := by omega
              have htw : IntKind.i64.wrap (t : Int) = (t : Int) := IntWalk.i64_in _ (by omega)
              have hti2 : (t : Int) < (Q : Int) := by omega
              have hti0 : (0 : Int) ≤ (t : Int) := by omega
              have Ht := hid (show i * n + j = t by rw [ho]; exact ht)
              have fs := hid (fun (W : World) (hW : Ext wi W) => (HU.out.ext' hW).box.cell 2)
              have fs2 := hid (fun (W : World) (hW : Ext wi W) (x : Value) => ((HU.out.ext' hW).box.grown (setCell_grown W ⟨g, t, none⟩ x) (fun e => HU.out.ne (by injection e))).cell 2)
              have HcI := hid fun (W : World) (hW : Ext wi W) => (HC.out.ext hW).ints' hcl.out (Nat.le_refl _) (by omega : r ≤ 9223372036854775807)
              clear hz hdot hcr hc2 eci ho ht hbc
              go_wp2_with fail
              go_region_held3 (fun w' => w'.cell? ⟨h, 2, none⟩ = some (.slice (some ⟨g, 0, none⟩) Q Q)) (first | assumption | exact fs.out _ ((Ext.refl wi).drew) | exact fs.out _ (by assumption) | exact fs2.out _ (by assumption) _)
                ((first
                  | (go_at_call 43
                     refine (dot_as p z _ _ ci col _ (Iu.out.ext ((Ext.refl wi).drew)) (HcI.out _ ((Ext.refl wi).drew)) (Hc2.out.u64 hp2.2) (Hcr.out.u64 hp2.2) (by rw [Hc1.out, hcl.out]) (Hc2.out.has HP.out) (Hcr.out.has HP.out) Hdot.out).mono ?_
                     rintro _ w8 ⟨rfl, x8⟩
                     have y8 : Ext wi w8 := ((Ext.refl wi).drew).trans x8
                     have HU8 := hid (HU.out.ext' y8)
                     obtain ⟨gt, ft⟩ := HU8.out.at_ htQ)))
              go_wp2_with fail
              go_roundw
              case rel =>
                refine ⟨i + 1, l2.set t z, by go_num, by omega, hid (HU8.out.put htQ z), hid ((HC.out.ext y8).set_other n1.symm), hid fun a b ha hb => ?_⟩
                by_cases hbn : b < n
                · rw [← Ht.out, put_at z hlt hbn (by rw [Ht.out, HU.out.len]; exact htQ)]
                  by_cases e : a = i ∧ b = j
                  · rw [if_pos e, e.1, e.2]; exact Hz.out.symm
                  · rw [if_neg e]; exact hl2.out a b ha (by omega)
                · omega
              case measure => simp [intOf]; omega
            · obtain rfl : m = i := by omega
              go_wp2_with fail
              go_roundw
              case rel => exact ⟨j + 1, l2, col, by go_num, by omega, HU, HC, hcl, hid fun a b ha hb => hl2.out a b ha (by omega)⟩
              case measure => simp [intOf]; omega
    · obtain rfl : n = j := by omega
      have hRr := HR.out.ext HU.out.ext
      obtain ⟨r0, r1, r2⟩ := hRr.at3
      have f0 := hRr.frozen 0
      have f1 := hRr.frozen 1
      have f2 := hRr.frozen 2
      obtain ⟨o0, o1, o2⟩ := HU.out.box.at3
      have FF := hid (HU.out.fin hRr hR1' (HX.out.trans HU.out.ext) n4 (by omega))
      clear hRr
      go_wp2_with fail
      refine bodyPost_ret (results_cell_row_tmp rfl _ _ gR 25 _ (0, 0) _ rfl FF.out.1 Try.underlying25 rfl (by kernel_rfl)) rfl ?_
      have e : l = grid m n _ := grid_of (by rw [HU.out.len, HQ.out]) fun a b ha hb => hl.out a b ha hb
      exact ⟨_, rfl, e ▸ FF.out.2.1, FF.out.2.2⟩
end Go.Proofs.Ytnfnommiabalfaa
/- Package cup: Make of what makes nothing. -/
namespace Go.Proofs.Ytnfnommiabalfaa
open Go.RowKit Go.Maps

def goodB (p : Int) (r : Nat) (l : List Int) : Bool := decide (l.length = r) && hasB p l
def eachB (p : Int) (r : Nat) (ls : List (List Int)) : Bool := decide (∀ j, j < ls.length → goodB p r (ls.getD j []) = true)
set_option maxHeartbeats 1000000 in
theorem cmEach1_any (p : Int) (r Bm Bp : Nat) (v : Value) (l : List Int) (w : World) (hv : Ints .u64 w v l) (hp : rightB p = true) (hu : U64s l) (h1 : w.cell? ⟨Bm, 0, none⟩ = some (.int .i64 r)) (h2 : w.cell? ⟨Bp, 0, none⟩ = some (.int .u64 p)) :
    Calls Try.prog 72 #[v, .pointer (some ⟨Bm, 0, none⟩), .pointer (some ⟨Bp, 0, none⟩)] w (Ret (.bool (!goodB p r l)) w) := by
  have hp2 := rightB_true hp
  have C := hid (has_any p v l w (by omega) (by omega) hv hu)
  unfold goodB
  obtain ⟨B, hB⟩ : ∃ B, hasB p l = B := ⟨_, rfl⟩
  rw [hB] at C ⊢
  obtain ⟨a, cap, rfl, k1, k2, k3⟩ := hv
  obtain ⟨q, hq⟩ : ∃ q, l.length = q := ⟨_, rfl⟩
  rw [hq] at C ⊢
  clear k3 hu hp hB
  by_cases e : q = r
  · have b1 : ((q : Int) != (r : Int)) = false := by simp [e]
    rw [decide_eq_true e, Bool.true_and]
    have E := hid e
    clear e hq
    go_enter Try.func72, Try.ntmps72
    go_wp2_with (go_at_call 27; refine C.out.mono ?_; rintro _ w1 ⟨rfl, rfl⟩)
    go_ret
    exact ⟨rfl, (by repeat (first | exact Ext.refl _ | assumption | refine Ext.drew ?_ | refine Ext.drewN ?_ _ | refine Ext.alloc ?_ _ | refine Ext.trans ?_ (by assumption)))⟩
  · have b1 : ((q : Int) != (r : Int)) = true := by simp; omega
    rw [decide_eq_false e, Bool.false_and]
    have E := hid e
    clear e hq
    go_enter Try.func72, Try.ntmps72
    go_wp2_with fail
    go_ret
    exact ⟨rfl, (by repeat (first | exact Ext.refl _ | assumption | refine Ext.drew ?_ | refine Ext.drewN ?_ _ | refine Ext.alloc ?_ _ | refine Ext.trans ?_ (by assumption)))⟩
set_option maxRecDepth 100000 in
set_option maxHeartbeats 1000000 in
theorem cmIndexL_any (p : Int) (r Bm Bp : Nat) (v : Value) (ls : List (List Int)) (w : World) (hv : UsL w v ls) (hp : rightB p = true) (hu : ∀ l ∈ ls, U64s l) (h1 : w.cell? ⟨Bm, 0, none⟩ = some (.int .i64 r)) (h2 : w.cell? ⟨Bp, 0, none⟩ = some (.int .u64 p)) :
    Calls Try.prog 67 #[v, .func (.func 72) #[] #[.pointer (some ⟨Bm, 0, none⟩), .pointer (some ⟨Bp, 0, none⟩)]] w fun e w' => ∃ i : Int, e = .returned (.int .i64 i) ∧ decide (0 ≤ i) = !eachB p r ls ∧ Ext w w' := by
  have C := hid fun (j : Nat) (hj : j < ls.length) (W : World) (hW : Ext w W) (u : Value) (hu' : Ints .u64 W u (ls.getD j [])) => (show Calls Try.prog 72 #[u, .pointer (some ⟨Bm, 0, none⟩), .pointer (some ⟨Bp, 0, none⟩)] W (Ret (.bool (!goodB p r (ls.getD j []))) W) from
    cmEach1_any p r Bm Bp u _ W hu' hp (hu _ (getD_mem [] hj)) ((hW.cells _ _ (cell_lt h1)).trans h1) ((hW.cells _ _ (cell_lt h2)).trans h2))
  obtain ⟨a, cap, rfl, k1, k2, k3⟩ := hv
  have K3 := hid k3
  obtain ⟨n, en⟩ : ∃ n, ls.length = n := ⟨_, rfl⟩
  have En := hid en
  rw [en] at k1 K3 C ⊢
  clear k3 en hu h1 h2 hp
  go_enter Try.func67, Try.ntmps67
  go_wp2_with fail
  go_loopw [8] (fun iv wr => ∃ (j : Nat), iv = .int .i64 j ∧ j ≤ n ∧ Hid (∀ t, t < j → goodB p r (ls.getD t []) = true) ∧ Ext w wr) (fun iv _ => n - (intOf iv).toNat)
  case atStart => exact ⟨0, rfl, Nat.zero_le _, hid (fun t ht => absurd ht (Nat.not_lt_zero _)), Ext.refl _⟩
  case round =>
    obtain ⟨j, rfl, hj, hall, hw⟩ := hrel
    by_cases hlt : j < n
    · obtain ⟨b, off, rfl, hb, hc⟩ := K3.out (by omega)
      obtain ⟨u, g1, iu⟩ := hc j hlt
      replace g1 := (hw.cells _ _ hb).trans g1
      replace iu := hid (iu.ext hw)
      clear hc
      have C2 := hid (C.out j hlt wr hw u iu.out)
      obtain ⟨B, hB⟩ : ∃ B, goodB p r (ls.getD j []) = B := ⟨_, rfl⟩
      rw [hB] at C2
      have HB := hid hB
      have iu2 := iu.out
      obtain ⟨au, cu, rfl, -, -, -⟩ := iu2
      clear hB
      cases B
      · go_wp2_with (go_at_call 72; refine C2.out.mono ?_; rintro _ w1 ⟨rfl, x1⟩)
        go_ret
        refine ⟨_, rfl, ?_, hw.trans x1⟩
        have e : eachB p r ls = false := decide_eq_false fun h => by have := h j (by rw [En.out]; exact hlt); rw [HB.out] at this; cases this
        rw [e]
        simp
      · go_wp2_with (go_at_call 72; refine C2.out.mono ?_; rintro _ w1 ⟨rfl, x1⟩)
        go_roundw
        case rel => exact ⟨j + 1, by go_num, by omega, hid (fun t ht => by
          by_cases e : t = j
          · rw [e]; exact HB.out
          · exact hall.out t (by omega)), hw.trans x1⟩
        case measure => simp [intOf]; omega
    · obtain rfl : n = j := by omega
      go_wp2_with fail
      go_ret
      refine ⟨_, rfl, ?_, hw⟩
      have e : eachB p r ls = true := decide_eq_true fun t ht => hall.out t (by rw [← En.out]; exact ht)
      rw [e]
      rfl
set_option maxHeartbeats 1000000 in
theorem cmEach_any (p : Int) (r : Nat) (v : Value) (ls : List (List Int)) (w : World) (hv : UsL w v ls) (hp : rightB p = true) (hu : ∀ l ∈ ls, U64s l) :
    Calls Try.prog 42 #[.int .u64 p, v, .int .i64 r] w (Ret (.bool (eachB p r ls)) w) := by
  have C := hid fun (W : World) (hW : Ext w W) (h1 : W.cell? ⟨w.heap.size + 1, 0, none⟩ = some (.int .i64 r)) (h2 : W.cell? ⟨w.heap.size, 0, none⟩ = some (.int .u64 p)) => (show Calls Try.prog 71 #[v, .func (.func 72) #[] #[.pointer (some ⟨w.heap.size + 1, 0, none⟩), .pointer (some ⟨w.heap.size, 0, none⟩)]] W (Ret (.bool (!eachB p r ls)) W) from by
    have C := hid (cmIndexL_any p r (w.heap.size + 1) w.heap.size v ls W (hv.ext hW) hp hu h1 h2)
    obtain ⟨a, cap, rfl, k1, k2, k3⟩ := hv
    clear k3 hp h1 h2 hu
    go_enter Try.func71, Try.ntmps71
    go_wp2_with (go_at_call 67; refine C.out.mono ?_; rintro _ w1 ⟨i, rfl, hi, x1⟩)
    go_ret
    exact ⟨rfl, x1⟩)
  have hb2 := boxes2 w 22 3 #[.int .u64 p] #[.int .i64 (r : Int)]
  have C2 := hid (C.out _ hb2.2.2 (hb2.2.1.cell 0) (hb2.1.cell 0))
  obtain ⟨a, cap, rfl, k1, k2, k3⟩ := hv
  clear k3 hp hb2 C hu
  go_enter Try.func42, Try.ntmps42
  go_wp2_with (first
    | (go_at_call 71; refine C2.out.mono ?_; rintro _ w1 ⟨rfl, x1⟩))
  go_ret
  exact ⟨ret_bool (by simp), (by repeat (first | exact Ext.refl _ | assumption | refine Ext.drew ?_ | refine Ext.drewN ?_ _ | refine Ext.alloc ?_ _ | refine Ext.trans ?_ (by assumption)))⟩
/-- may parts make a matrix? -/
def makesB (p rows cols : Int) (C U : List (List Int)) : Bool := sideB rows && (sideB cols && (decide ((C.length : Int) = rows) && (eachB p U.length C && eachB p cols.toNat U)))
theorem eachB_iff {p : Int} {r : Nat} {ls : List (List Int)} (hp : rightB p = true) (hu : ∀ l ∈ ls, U64s l) : eachB p r ls = true ↔ ∀ l ∈ ls, l.length = r ∧ Rng p l := by
  unfold eachB goodB
  rw [decide_eq_true_iff]
  constructor
  · intro h l hl
    obtain ⟨j, hj, rfl⟩ := List.getElem_of_mem hl
    have := h j hj
    rw [show ls.getD j [] = ls[j] by simp [List.getD, hj], Bool.and_eq_true] at this
    exact ⟨of_decide_eq_true this.1, rng_of (hu _ hl) this.2⟩
  · intro h j hj
    have h2 := h _ (getD_mem [] hj)
    rw [Bool.and_eq_true]
    exact ⟨decide_eq_true h2.1, h2.2.has hp⟩
theorem makesB_iff {p rows cols : Int} {C U : List (List Int)} (hp : rightB p = true) (hc : ∀ l ∈ C, U64s l) (hu : ∀ l ∈ U, U64s l) (h64 : U.length ≤ 64) :
    makesB p rows cols C U = true ↔ ∃ m n : Nat, rows = m ∧ cols = n ∧ CupOk p m n C U := by
  unfold makesB
  rw [Bool.and_eq_true, Bool.and_eq_true, Bool.and_eq_true, Bool.and_eq_true, eachB_iff hp hc, eachB_iff hp hu]
  unfold sideB
  rw [decide_eq_true_iff, decide_eq_true_iff, decide_eq_true_iff]
  constructor
  · rintro ⟨h1, h2, h3, h4, h5⟩
    refine ⟨rows.toNat, cols.toNat, by omega, by omega, ⟨hp, by omega, by omega, by omega, h4, h5, h64⟩⟩
  · rintro ⟨m, n, rfl, rfl, ok⟩
    have := ok.hm; have := ok.hn; have := ok.lc
    exact ⟨by omega, by omega, by omega, ok.c, by rw [Int.toNat_natCast]; exact ok.u⟩
set_option maxRecDepth 100000 in
set_option maxHeartbeats 1000000 in
theorem cmMake_no (p rows cols : Int) (C U : List (List Int)) (l1 l2 : List Int) (v1 v2 v3 v4 : Value) (w : World) (hp : rightB p = true) (hc : ∀ l ∈ C, U64s l) (hu : ∀ l ∈ U, U64s l) (h1 : Ints .i64 w v1 l1) (h2 : Ints .i64 w v2 l2) (h3 : UsL w v3 C) (h4 : UsL w v4 U)
    (h : makesB p rows cols C U = false) : Calls Try.prog 14 #[.int .u64 p, .agg #[v1, v2, v3, v4], .int .i64 rows, .int .i64 cols] w (Ret noMat w) := by
  unfold makesB at h
  have CS1 := hid fun W => cmSide rows W
  have CS2 := hid fun W => cmSide cols W
  have E1 := hid fun (W : World) (hW : Ext w W) => cmEach_any p U.length v3 C W (h3.ext hW) hp hc
  have E2 := hid fun (hn : 0 ≤ cols) (W : World) (hW : Ext w W) => (show Calls Try.prog 42 #[.int .u64 p, v4, .int .i64 cols] W (Ret (.bool (eachB p cols.toNat U)) W) from by
    have := cmEach_any p cols.toNat v4 U W (h4.ext hW) hp hu
    rwa [Int.toNat_of_nonneg hn] at this)
  obtain ⟨B4, e4⟩ : ∃ B, eachB p U.length C = B := ⟨_, rfl⟩
  obtain ⟨B5, e5⟩ : ∃ B, eachB p cols.toNat U = B := ⟨_, rfl⟩
  rw [e4] at E1 h; rw [e5] at E2 h
  clear e4 e5
  obtain ⟨B1, e1⟩ : ∃ B, sideB rows = B := ⟨_, rfl⟩
  obtain ⟨B2, e2⟩ : ∃ B, sideB cols = B := ⟨_, rfl⟩
  have hcol : B2 = true → 0 ≤ cols := fun h => by rw [← e2] at h; have := of_decide_eq_true h; omega
  have Hcol := hid hcol
  rw [e1] at CS1 h; rw [e2] at CS2 h
  clear e1 e2 hcol hc hu
  obtain ⟨a1, c1, rfl, -, -, -⟩ := h1
  obtain ⟨a2, c2, rfl, -, -, -⟩ := h2
  obtain ⟨a3, c3, rfl, -, -, -⟩ := h3
  obtain ⟨a4, c4, rfl, -, -, -⟩ := h4
  obtain ⟨B3, e3⟩ : ∃ B, ((C.length : Int) != rows) = B := ⟨_, rfl⟩
  have d3 : decide ((C.length : Int) = rows) = !B3 := by rw [← e3]; simp [bne, Bool.beq_eq_decide_eq]
  rw [d3] at h
  clear d3
  have H := hid h
  clear h
  have hb2 := hid (boxes2 w 29 25 #[.slice a1 l1.length c1, .slice a2 l2.length c2, .slice a3 C.length c3, .slice a4 U.length c4] #[.int .i64 0, .int .i64 0, .slice none 0 0])
  have tail : ∀ w1, Ext ((w.alloc (.cells #[.slice a1 l1.length c1, .slice a2 l2.length c2, .slice a3 C.length c3, .slice a4 U.length c4] 29)).alloc (.cells #[.int .i64 0, .int .i64 0, .slice none 0 0] 25)) w1 →
      Blk w1 (w.heap.size + 1) 25 #[.int .i64 0, .int .i64 0, .slice none 0 0] ∧ Ext w w1 := fun w1 x => ⟨hb2.out.2.1.ext x, hb2.out.2.2.trans x⟩
  have Tail := hid tail
  clear tail
  unfold noMat
  go_enter Try.func14, Try.ntmps14
  go_wp2_with fail
  refine (CS1.out _).mono ?_
  rintro _ _ ⟨rfl, rfl⟩
  cases B1
  · have T := Tail.out _ (Ext.refl _)
    obtain ⟨r0, r1, r2⟩ := T.1.at3; have f0 := T.1.frozen 0; have f1 := T.1.frozen 1; have f2 := T.1.frozen 2
    go_wp2_with fail
    refine bodyPost_ret (results_cell_row_tmp rfl _ _ (w.heap.size + 1) 25 _ (0, 0) _ rfl T.1 Try.underlying25 rfl (by kernel_rfl)) rfl ?_
    exact ⟨rfl, T.2⟩
  go_wp2_with fail
  refine (CS2.out _).mono ?_
  rintro _ _ ⟨rfl, rfl⟩
  cases B2
  · have T := Tail.out _ (Ext.refl _)
    obtain ⟨r0, r1, r2⟩ := T.1.at3; have f0 := T.1.frozen 0; have f1 := T.1.frozen 1; have f2 := T.1.frozen 2
    go_wp2_with fail
    refine bodyPost_ret (results_cell_row_tmp rfl _ _ (w.heap.size + 1) 25 _ (0, 0) _ rfl T.1 Try.underlying25 rfl (by kernel_rfl)) rfl ?_
    exact ⟨rfl, T.2⟩
  have hcn := Hcol.out rfl
  obtain ⟨b0, b1, b2, b3⟩ := hb2.out.1.at4
  cases B3
  case true =>
    · have T := Tail.out _ (Ext.refl _)
      obtain ⟨r0, r1, r2⟩ := T.1.at3; have f0 := T.1.frozen 0; have f1 := T.1.frozen 1; have f2 := T.1.frozen 2
      go_wp2_with fail
      refine bodyPost_ret (results_cell_row_tmp rfl _ _ (w.heap.size + 1) 25 _ (0, 0) _ rfl T.1 Try.underlying25 rfl (by kernel_rfl)) rfl ?_
      exact ⟨rfl, T.2⟩
  go_wp2_with fail
  clear b0 b1 b2 b3
  refine (E1.out _ hb2.out.2.2).mono ?_
  rintro _ w1 ⟨rfl, x1⟩
  cases B4
  · have T := Tail.out w1 x1
    obtain ⟨r0, r1, r2⟩ := T.1.at3; have f0 := T.1.frozen 0; have f1 := T.1.frozen 1; have f2 := T.1.frozen 2
    have F := fin0 T.1 T.2 (by omega) (.int .i64 0) (.int .i64 0) (.slice none 0 0)
    go_wp2_with fail
    refine bodyPost_ret (results_cell_row_tmp rfl _ _ (w.heap.size + 1) 25 _ (0, 0) _ rfl F.1 Try.underlying25 rfl (by kernel_rfl)) rfl ?_
    exact ⟨rfl, F.2⟩
  obtain ⟨b0, b1, b2, b3⟩ := (hb2.out.1.ext x1).at4
  cases B5
  case true => exact absurd H.out (by simp)
  go_wp2_with fail
  clear b0 b1 b2 b3
  refine (E2.out hcn _ (hb2.out.2.2.trans x1)).mono ?_
  rintro _ w2 ⟨rfl, x2⟩
  have T := Tail.out w2 (x1.trans x2)
  obtain ⟨r0, r1, r2⟩ := T.1.at3; have f0 := T.1.frozen 0; have f1 := T.1.frozen 1; have f2 := T.1.frozen 2
  have F := fin0 T.1 T.2 (by omega) (.int .i64 0) (.int .i64 0) (.slice none 0 0)
  go_wp2_with fail
  refine bodyPost_ret (results_cell_row_tmp rfl _ _ (w.heap.size + 1) 25 _ (0, 0) _ rfl F.1 Try.underlying25 rfl (by kernel_rfl)) rfl ?_
  exact ⟨rfl, F.2⟩
end Go.Proofs.Ytnfnommiabalfaa
