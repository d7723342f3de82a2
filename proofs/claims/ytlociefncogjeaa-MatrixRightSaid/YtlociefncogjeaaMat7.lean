/- Thin matrices: the document's own answer to: is one right; and the whole matrix of one. -/
import Derived.Test.YtlociefncogjeaaMat6
import Derived.Test.YtlociefncogjeaaMat4
namespace Go.Proofs.Ytlociefncogjeaa
open Go.RowKit Go.Maps

def SpIs (p r c : Int) (bs cs vs : List Int) : Prop := ∃ m n : Nat, r = m ∧ c = n ∧ SpOk p m n bs cs vs
theorem rmSparse (p r c : Int) (vb vc vv : Value) (bs cs vs : List Int) (w : World) (h0 : 0 ≤ p) (h1 : p ≤ 18446744073709551615) (hb : Ints .i64 w vb bs) (hc : Ints .i64 w vc cs) (hv : Ints .u64 w vv vs) (hx : U64s vs)
    (hci : ∀ k, k < cs.length → -9223372036854775808 ≤ cs.getD k 0 ∧ cs.getD k 0 ≤ 9223372036854775807) (hbi : ∀ k, k < bs.length → -9223372036854775808 ≤ bs.getD k 0 ∧ bs.getD k 0 ≤ 9223372036854775807) :
    Calls Try.prog 19 #[.int .u64 p, spV r c vb vc vv] w (RetIff (SpIs p r c bs cs vs) w) := by
  by_cases h : ∃ m n : Nat, r = m ∧ c = n ∧ (1 ≤ m ∧ m ≤ 64) ∧ (1 ≤ n ∧ n ≤ 64) ∧ bs.length = m + 1 ∧ cs.length = vs.length ∧ hasB p vs = true ∧ bs.getD 0 0 = 0 ∧ bs.getD m 0 = cs.length
  · obtain ⟨m, n, rfl, rfl, g1, g2, g3, g4, g5, g6, g7⟩ := h
    refine (rmSparse_yes p m n vb vc vv bs cs vs w hb hc hv h0 h1 hx hci hbi g1 g2 g3 g4 g5 g6 g7).mono ?_
    rintro e w' ⟨b, rfl, x, hb⟩
    refine ⟨b, rfl, x, hb.trans ⟨fun h => ⟨m, n, rfl, rfl, g1, g2, g3, g4, g5, g6, g7, h.1, h.2⟩, ?_⟩⟩
    rintro ⟨m', n', e1, e2, ok⟩
    obtain rfl : m = m' := by omega
    obtain rfl : n = n' := by omega
    exact ⟨ok.mono, ok.row⟩
  · refine (rmSparse_no p r c vb vc vv bs cs vs w h0 h1 hb hc hv hx h).mono ?_
    rintro e w' ⟨rfl, x⟩
    refine ⟨false, rfl, x, ⟨fun h => (by cases h), ?_⟩⟩
    rintro ⟨m, n, e1, e2, ok⟩
    exact absurd ⟨m, n, e1, e2, ok.m1, ok.n1, ok.lb, ok.lc, ok.hv, ok.b0, ok.bm⟩ h

/-- the number at row i, column c, as far as t numbers were looked at -/
def whF (bs cs vs : List Int) (i c : Nat) : Nat → Int
  | 0 => 0
  | t + 1 => if bs.getD i 0 ≤ t ∧ (t : Int) < bs.getD (i + 1) 0 ∧ cs.getD t 0 = c then vs.getD t 0 else whF bs cs vs i c t
theorem whF_before (bs cs vs : List Int) (i c : Nat) : ∀ t : Nat, (t : Int) ≤ bs.getD i 0 → whF bs cs vs i c t = 0
  | 0, _ => rfl
  | t + 1, h => by rw [whF, if_neg (by omega), whF_before bs cs vs i c t (by omega)]
theorem whF_behind (bs cs vs : List Int) (i c : Nat) {t : Nat} (h : bs.getD (i + 1) 0 ≤ t) : ∀ d : Nat, whF bs cs vs i c (t + d) = whF bs cs vs i c t
  | 0 => rfl
  | d + 1 => by
    show whF bs cs vs i c (t + d + 1) = _
    rw [whF, if_neg (by omega), whF_behind bs cs vs i c h d]
/-- the whole matrix's cell -/
def whAt (bs cs vs : List Int) (i c : Nat) : Int := whF bs cs vs i c cs.length

/-- three boxes, one behind the other -/
theorem boxes3 (w : World) (t t' : TypeId) (A B C : Array Value) :
    Blk (((w.alloc (.cells A t)).alloc (.cells B t')).alloc (.cells C t')) w.heap.size t A ∧ Blk (((w.alloc (.cells A t)).alloc (.cells B t')).alloc (.cells C t')) (w.heap.size + 1) t' B ∧
    Blk (((w.alloc (.cells A t)).alloc (.cells B t')).alloc (.cells C t')) (w.heap.size + 1 + 1) t' C ∧ Ext w (((w.alloc (.cells A t)).alloc (.cells B t')).alloc (.cells C t')) :=
  ⟨(Blk.new w t A).ext (((Ext.refl _).alloc _).alloc _), (Blk.at_ (by rw [alloc_size])).ext ((Ext.refl _).alloc _), Blk.at_ (by rw [alloc_size, alloc_size]), (((Ext.refl w).alloc _).alloc _).alloc _⟩
theorem Blk.at5 {w : World} {g : Nat} {t : TypeId} {a b c d e : Value} (h : Blk w g t #[a, b, c, d, e]) : w.cell? ⟨g, 0, none⟩ = some a ∧ w.cell? ⟨g, 1, none⟩ = some b ∧ w.cell? ⟨g, 2, none⟩ = some c ∧ w.cell? ⟨g, 3, none⟩ = some d ∧ w.cell? ⟨g, 4, none⟩ = some e :=
  ⟨h.cell 0, h.cell 1, h.cell 2, h.cell 3, h.cell 4⟩

set_option maxRecDepth 100000 in
set_option maxHeartbeats 4000000 in
theorem rmWhole (m n : Nat) (vb vc vv : Value) (bs cs vs : List Int) (w : World) (hb : Ints .i64 w vb bs) (hc : Ints .i64 w vc cs) (hv : Ints .u64 w vv vs) (hm : 1 ≤ m ∧ m ≤ 64) (hn : n ≤ 64) (lb : bs.length = m + 1) (lc : cs.length = vs.length) (lcb : cs.length ≤ 1000000) (b0 : bs.getD 0 0 = 0) (bm : bs.getD m 0 = cs.length)
    (mono : ∀ i, i < m → bs.getD i 0 ≤ bs.getD (i + 1) 0) :
    Calls Try.prog 26 #[spV m n vb vc vv] w (RetM m n (grid m n (whAt bs cs vs)) w) := by
  obtain ⟨i0, hi, hz0, hz1, hz2⟩ := info_parts info_u64p
  obtain ⟨a1, e1, rfl, k1, k2, k3⟩ := hb
  obtain ⟨a2, e2, rfl, l1, l2, l3⟩ := hc
  obtain ⟨a3, e3, rfl, m1, m2, m3⟩ := hv
  have L3 := hid l3; have M3 := hid m3
  obtain ⟨b1, o1, rfl, hb1, hcell⟩ := k3 (by omega)
  have Bc := hid (fun (W : World) (hW : Ext w W) (j : Nat) (hj : j < bs.length) => (hW.cells _ _ hb1).trans (hcell j hj))
  have Lb := hid lb; have Lc := hid lc; have B0 := hid b0; have Bm := hid bm; have Mo := hid mono
  clear k3 l3 m3 hcell lb lc b0 bm mono
  obtain ⟨hm1, hm⟩ := hm
  obtain ⟨G, hG⟩ : ∃ G : Nat → Int, (fun t => whAt bs cs vs (t / n) (t % n)) = G := ⟨_, rfl⟩
  have HG := hid (fun t => (congrFun hG t : whAt bs cs vs (t / n) (t % n) = G t))
  have hgrid : grid m n (whAt bs cs vs) = tab (m * n) G := by rw [← hG]; rfl
  rw [hgrid]
  clear hG hgrid
  unfold spV
  have HB := hid (boxes3 w 28 25 #[.int .i64 (m : Int), .int .i64 (n : Int), .slice (some ⟨b1, o1, none⟩) bs.length e1, .slice a2 cs.length e2, .slice a3 vs.length e3] #[.int .i64 0, .int .i64 0, .slice none 0 0] #[.int .i64 (m : Int), .int .i64 (n : Int), .slice none 0 0])
  go_enter Try.func26, Try.ntmps26
  go_wp2_with fail
  have hb := HB.out
  obtain ⟨w3, hw3⟩ := at_name (((w.alloc (.cells #[.int .i64 (m : Int), .int .i64 (n : Int), .slice (some ⟨b1, o1, none⟩) bs.length e1, .slice a2 cs.length e2, .slice a3 vs.length e3] 28)).alloc (.cells #[.int .i64 0, .int .i64 0, .slice none 0 0] 25)).alloc (.cells #[.int .i64 (m : Int), .int .i64 (n : Int), .slice none 0 0] 25))
  rw [hw3] at hb
  rw [hw3]
  obtain ⟨g1, hg1⟩ := at_name w.heap.size
  rw [hg1] at hb
  rw [hg1]
  obtain ⟨g2, hg2⟩ := at_name (g1 + 1)
  rw [hg2] at hb
  rw [hg2]
  obtain ⟨g3, hg3⟩ := at_name (g2 + 1)
  rw [hg3] at hb
  rw [hg3]
  obtain ⟨hA0, hZ0, hO0, hx3⟩ := hb
  have n13 : g1 ≠ g3 := by omega
  have n23 : g2 ≠ g3 := by omega
  have hw0 : w.heap.size ≤ g3 := by omega
  have hw2 : w.heap.size ≤ g2 := by omega
  clear hw3 hg1 hg2 hg3 HB
  have HA0 := hid hA0; have HZ0 := hid hZ0
  have HO0 := hid (show Bld w w3 g3 w3.heap.size m n (.slice none 0 0) 0 G from ⟨hO0, World.ownsRow_nil _ _ _ _, hx3, hx3.size, hw0⟩)
  clear hA0 hZ0 hO0
  go_loopw [4] (fun iv wr => ∃ (i t : Nat) (rv : Value), iv = .int .i64 i ∧ i ≤ m ∧ Hid (t = i * n) ∧ Hid (Bld w wr g3 w3.heap.size m n rv t G) ∧ Hid (Blk wr g1 28 #[.int .i64 (m : Int), .int .i64 (n : Int), .slice (some ⟨b1, o1, none⟩) bs.length e1, .slice a2 cs.length e2, .slice a3 vs.length e3]) ∧ Hid (Blk wr g2 25 #[.int .i64 0, .int .i64 0, .slice none 0 0]) ∧ w3.heap.size ≤ wr.heap.size) (fun iv _ => m - (intOf iv).toNat)
  case atStart => exact ⟨0, 0, _, rfl, Nat.zero_le _, hid (by simp), HO0, HA0, HZ0, Nat.le_refl _⟩
  case round =>
    obtain ⟨i, t, rv, rfl, hi', ht, HO, HA, HZ, hsz⟩ := hrel
    obtain ⟨c0, c1, c2, c3, c4⟩ := HA.out.at5
    by_cases hlt : i < m
    · have ge1 := mono_ge Mo.out 0 i (Nat.zero_le _) (by omega)
      have ge2 := Mo.out i hlt
      have ge3 := mono_ge Mo.out (i + 1) m (by omega) (Nat.le_refl _)
      rw [B0.out] at ge1
      rw [Bm.out] at ge3
      have F1 := fun (W : World) (hW : Ext w W) => Bc.out W hW i (by rw [Lb.out]; omega)
      have F2 := fun (W : World) (hW : Ext w W) => Bc.out W hW (i + 1) (by rw [Lb.out]; omega)
      obtain ⟨x, ex⟩ : ∃ x, bs.getD i 0 = x := ⟨_, rfl⟩
      obtain ⟨y, ey⟩ : ∃ y, bs.getD (i + 1) 0 = y := ⟨_, rfl⟩
      rw [ex] at F1 ge1 ge2; rw [ey] at F2 ge2 ge3
      obtain ⟨ka, rfl⟩ : ∃ k : Nat, x = k := ⟨x.toNat, by omega⟩
      obtain ⟨kb, rfl⟩ : ∃ k : Nat, y = k := ⟨y.toNat, by omega⟩
      have HF1 := hid F1; have HF2 := hid F2
      have i1 : (i : Int) < (bs.length : Int) := by rw [Lb.out]; omega
      have i2 : (i : Int) + 1 < (bs.length : Int) := by rw [Lb.out]; omega
      have Ex := hid ex; have Ey := hid ey
      clear ex ey F1 F2
      go_wp2_with fail
      go_loopw [5] (fun kv wr => ∃ (k t : Nat) (rv : Value), kv = .int .i64 k ∧ k ≤ n ∧ Hid (t = i * n + k) ∧ Hid (Bld w wr g3 w3.heap.size m n rv t G) ∧ Hid (Blk wr g1 28 #[.int .i64 (m : Int), .int .i64 (n : Int), .slice (some ⟨b1, o1, none⟩) bs.length e1, .slice a2 cs.length e2, .slice a3 vs.length e3]) ∧ Hid (Blk wr g2 25 #[.int .i64 0, .int .i64 0, .slice none 0 0]) ∧ w3.heap.size ≤ wr.heap.size) (fun kv _ => n - (intOf kv).toNat)
      case atStart => exact ⟨0, t, rv, rfl, Nat.zero_le _, ht, HO, HA, HZ, hsz⟩
      case round =>
        clear c0 c1 c2 c3 c4 HO HA HZ hsz ht
        obtain ⟨k, t, rv, rfl, hk, ht, HO, HA, HZ, hsz⟩ := hrel
        rename World => wo
        obtain ⟨c0, c1, c2, c3, c4⟩ := HA.out.at5
        by_cases hlk : k < n
        · have f1 := HF1.out wo HO.out.ext
          have hxo := HO.out.ext
          go_wp2_with fail
          go_loop [7, 6] (fun jv zv => ∃ (j : Nat) (z : Int), jv = .int .i64 j ∧ zv = .int .u64 z ∧ ka ≤ j ∧ j ≤ kb ∧ Hid (z = whF bs cs vs i k j)) (fun jv _ => kb - (intOf jv).toNat)
          case atStart => exact ⟨ka, 0, rfl, rfl, Nat.le_refl _, by omega, hid (whF_before bs cs vs i k ka (by rw [Ex.out]; exact Int.le_refl _)).symm⟩
          case round =>
            obtain ⟨j, z, rfl, rfl, hj1, hj2, hz⟩ := hrel
            have f2 := HF2.out _ hxo
            by_cases hlj : j < kb
            · obtain ⟨b2, o2, rfl, hb2, hcell2⟩ := L3.out (by omega)
              obtain ⟨b3, o3, rfl, hb3, hcell3⟩ := M3.out (by rw [← Lc.out]; omega)
              have jv : j < vs.length := by rw [← Lc.out]; omega
              have jc : j < cs.length := by omega
              have fq := (hxo.cells _ _ hb2).trans (hcell2 j jc)
              have fz := (hxo.cells _ _ hb3).trans (hcell3 j jv)
              have hw1 : whF bs cs vs i k (j + 1) = if cs.getD j 0 = k then vs.getD j 0 else whF bs cs vs i k j := by
                rw [whF]
                by_cases e : cs.getD j 0 = k
                · rw [if_pos e, if_pos ⟨by rw [Ex.out]; omega, by rw [Ey.out]; omega, e⟩]
                · rw [if_neg e, if_neg fun h => e h.2.2]
              obtain ⟨q, eq⟩ : ∃ q, cs.getD j 0 = q := ⟨_, rfl⟩
              obtain ⟨u, eu⟩ : ∃ u, vs.getD j 0 = u := ⟨_, rfl⟩
              rw [eq] at fq hw1; rw [eu] at fz hw1
              rw [← hz.out] at hw1
              have Hw := hid hw1
              clear eq eu hcell2 hcell3 hw1 hz
              by_cases hqk : q = (k : Int)
              · have bq : (q == (k : Int)) = true := by simp [hqk]
                have hw2' := Hw.out
                rw [if_pos hqk] at hw2'
                have Hw2 := hid hw2'.symm
                clear hqk Hw hw2'
                go_wp2_with fail
                go_round
                case rel => exact ⟨j + 1, u, by go_num, rfl, by omega, by omega, Hw2⟩
                case measure => simp [intOf]; omega
              · have bq : (q == (k : Int)) = false := by simp [hqk]
                have hw2' := Hw.out
                rw [if_neg hqk] at hw2'
                have Hw2 := hid hw2'.symm
                clear hqk Hw hw2'
                go_wp2_with fail
                go_round
                case rel => exact ⟨j + 1, z, by go_num, rfl, by omega, by omega, Hw2⟩
                case measure => simp [intOf]; omega
            · obtain rfl : j = kb := by omega
              have hzz : z = whAt bs cs vs i k := by
                have h := whF_behind bs cs vs i k (t := j) (by rw [Ey.out]; exact Int.le_refl _) (cs.length - j)
                rw [show j + (cs.length - j) = cs.length by omega] at h
                rw [hz.out]; exact h.symm
              have hGt : G t = z := by rw [← HG.out t, ht.out, at_mod hlk, at_div hlk, hzz]
              have happ := hid (show ((tab t G).map (Value.int .u64)) ++ [Value.int .u64 z] = (tab (t + 1) G).map (Value.int .u64) by rw [tab_succ, List.map_append, hGt]; rfl)
              have htb : t ≤ 4096 := by
                have h1 := at_lt (r := m) hlt hlk
                have h2 := Nat.mul_le_mul hm hn
                have := ht.out
                omega
              obtain ⟨p0, p1, p2⟩ := HO.out.box.at3
              have e5 : Ext wo (wo.alloc (.cells #[.int .u64 z] 22)) := (Ext.refl wo).alloc _
              have hB5 := HO.out.ext' e5
              have hs5 := e5.size
              have Hown := hid HO.out.own
              clear hGt hzz
              go_wp2_with (first | (at_builtin; refine wpList_append_own _ rfl _ _ 23 rfl w3.heap.size 22 i0 (.int .u64 0) 1 8 Try.underlying23 hi hz0 hz1 hz2 rfl (by decide) rv t _ rfl (Hown.out.alloc _) ⟨wo.heap.size, 0, none⟩ 1 1 [.int .u64 z] rfl rfl (cells_new _ _ _ (by simp)) (by simp [Value.oneCell']) (by simp only [maxLen]; omega) (by omega) (by simp; omega) ?_; intro v6 w6 hown6 hgrow6 hnil6; have hb6 := hB5.box' hgrow6; have o6 := hb6.1; have f6 := hb6.2; rw [happ.out] at hown6; have Hown6 := hid hown6; obtain ⟨a6, c6, rfl, q2, q3, q4, q5⟩ := WRow.of_owns hown6; clear q5 q4 hown6 hb6) | fail)
              have hs6 := hgrow6.size
              go_roundw
              case rel => exact ⟨k + 1, t + 1, _, by go_num, by omega, hid (by rw [ht.out]; omega), hid (hB5.next Hown6.out hgrow6), hid (hB5.other (HA.out.ext e5) (by decide) n13 hgrow6), hid (hB5.other (HZ.out.ext e5) (by decide) n23 hgrow6), by simp only [World.setCell, Array.size_modify]; omega⟩
              case measure => simp [intOf]; omega
        · obtain rfl : k = n := by omega
          go_wp2_with fail
          go_roundw
          case rel => exact ⟨i + 1, t, rv, by go_num, by omega, hid (by rw [ht.out, Nat.succ_mul]), HO, HA, HZ, hsz⟩
          case measure => simp [intOf]; omega
    · obtain rfl : i = m := by omega
      obtain ⟨p0, p1, p2⟩ := HO.out.box.at3
      obtain ⟨z0, z1, z2⟩ := HZ.out.at3
      have zf0 := HZ.out.frozen 0
      have zf1 := HZ.out.frozen 1
      have zf2 := HZ.out.frozen 2
      obtain ⟨a6, c6, rfl, q2, q3, q4, q5⟩ := WRow.of_owns HO.out.own
      clear q5
      have hI := hid (own_set3 HO.out.own HZ.out (.int .i64 (i : Int)) (.int .i64 (n : Int)) (.slice a6 t c6))
      have hE := hid (((HO.out.ext.setCell (p := ⟨g2, 0, none⟩) hw2 (.int .i64 (i : Int))).setCell (p := ⟨g2, 1, none⟩) hw2 (.int .i64 (n : Int))).setCell (p := ⟨g2, 2, none⟩) hw2 (.slice a6 t c6))
      have htt := ht.out
      subst htt
      have hbk2 := hid (show Blk _ g2 25 #[.int .i64 (i : Int), .int .i64 (n : Int), .slice a6 (i * n) c6] from ((HZ.out.set_ 0 (.int .i64 (i : Int))).set_ 1 (.int .i64 (n : Int))).set_ 2 (.slice a6 (i * n) c6))
      go_wp2_with fail
      refine bodyPost_ret (results_cell_row rfl _ _ g2 25 #[.int .i64 (i : Int), .int .i64 (n : Int), .slice a6 (i * n) c6] (0, 0) _ rfl hbk2.out Try.underlying25 rfl (by kernel_rfl)) rfl ?_
      exact ⟨_, rfl, hI.out, hE.out⟩
end Go.Proofs.Ytlociefncogjeaa
