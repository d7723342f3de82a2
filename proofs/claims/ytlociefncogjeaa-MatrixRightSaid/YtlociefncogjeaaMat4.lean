/- The document's own answer of layer 5 to a product of matrices: Mul. -/
import Derived.Test.YtlociefncogjeaaMat3
namespace Go.Proofs.Ytlociefncogjeaa
open Go.RowKit Go.Maps

/-- four boxes, one behind the other -/
theorem boxes4 (w : World) (t : TypeId) (A B C D : Array Value) :
    Blk ((((w.alloc (.cells A t)).alloc (.cells B t)).alloc (.cells C t)).alloc (.cells D t)) w.heap.size t A ∧ Blk ((((w.alloc (.cells A t)).alloc (.cells B t)).alloc (.cells C t)).alloc (.cells D t)) (w.heap.size + 1) t B ∧
    Blk ((((w.alloc (.cells A t)).alloc (.cells B t)).alloc (.cells C t)).alloc (.cells D t)) (w.heap.size + 1 + 1) t C ∧ Blk ((((w.alloc (.cells A t)).alloc (.cells B t)).alloc (.cells C t)).alloc (.cells D t)) (w.heap.size + 1 + 1 + 1) t D ∧
    Ext w ((((w.alloc (.cells A t)).alloc (.cells B t)).alloc (.cells C t)).alloc (.cells D t)) :=
  ⟨(Blk.new w t A).ext ((((Ext.refl _).alloc _).alloc _).alloc _), (Blk.at_ (by rw [alloc_size])).ext (((Ext.refl _).alloc _).alloc _), (Blk.at_ (by rw [alloc_size, alloc_size])).ext ((Ext.refl _).alloc _), Blk.at_ (by rw [alloc_size, alloc_size, alloc_size]), ((((Ext.refl w).alloc _).alloc _).alloc _).alloc _⟩
/-- a call's own world, by its boxes alone -/
theorem at_name {α : Type} (x : α) : ∃ y, x = y := ⟨_, rfl⟩

set_option maxRecDepth 100000 in
set_option maxHeartbeats 4000000 in
theorem rmMul (p : Int) (m n q : Nat) (v u : Value) (xs ys : List Int) (w : World) (hp : rightB p = true) (hv : Ints .u64 w v xs) (hu : Ints .u64 w u ys) (hx : Rng p xs) (hy : Rng p ys) (hm : m ≤ 64) (hn : n ≤ 64) (hq : q ≤ 64) (hxl : xs.length = m * n) (hyl : ys.length = n * q) :
    Calls Try.prog 24 #[.int .u64 p, matV m n v, matV n q u] w (RetM m q (grid m q fun i k => dv p n (fun j => xs.getD (i * n + j) 0) fun j => ys.getD (j * q + k) 0) w) := by
  have hp2 := rightB_true hp
  obtain ⟨i0, hi, hz0, hz1, hz2⟩ := info_parts info_u64p
  have Hp := hid hp; have Hx := hid hx; have Hy := hid hy; have Hv := hid hv; have Hu := hid hu; have Hxl := hid hxl; have Hyl := hid hyl
  obtain ⟨a, cap, rfl, k1, k2, k3⟩ := hv
  obtain ⟨a', cap', rfl, m1, m2, m3⟩ := hu
  clear k3 m3 hxl hyl hp hx hy
  obtain ⟨G, hG⟩ : ∃ G : Nat → Int, (fun t => dv p n (fun j => xs.getD (t / q * n + j) 0) fun j => ys.getD (j * q + t % q) 0) = G := ⟨_, rfl⟩
  have HG := hid (fun t => (congrFun hG t : dv p n (fun j => xs.getD (t / q * n + j) 0) (fun j => ys.getD (j * q + t % q) 0) = G t))
  have hgrid : grid m q (fun i k => dv p n (fun j => xs.getD (i * n + j) 0) fun j => ys.getD (j * q + k) 0) = tab (m * q) G := by rw [← hG]; rfl
  rw [hgrid]
  clear hG hgrid
  unfold matV
  have HB := hid (boxes4 w 25 #[.int .i64 (m : Int), .int .i64 (n : Int), .slice a xs.length cap] #[.int .i64 (n : Int), .int .i64 (q : Int), .slice a' ys.length cap'] #[.int .i64 0, .int .i64 0, .slice none 0 0] #[.int .i64 (m : Int), .int .i64 (q : Int), .slice none 0 0])
  go_enter Try.func24, Try.ntmps24
  go_wp2_with fail
  have hb := HB.out
  obtain ⟨w4, hw4⟩ := at_name ((((w.alloc (.cells #[.int .i64 (m : Int), .int .i64 (n : Int), .slice a xs.length cap] 25)).alloc (.cells #[.int .i64 (n : Int), .int .i64 (q : Int), .slice a' ys.length cap'] 25)).alloc (.cells #[.int .i64 0, .int .i64 0, .slice none 0 0] 25)).alloc (.cells #[.int .i64 (m : Int), .int .i64 (q : Int), .slice none 0 0] 25))
  rw [hw4] at hb
  rw [hw4]
  obtain ⟨g1, hg1⟩ := at_name w.heap.size
  rw [hg1] at hb
  rw [hg1]
  obtain ⟨g2, hg2⟩ := at_name (g1 + 1)
  rw [hg2] at hb
  rw [hg2]
  obtain ⟨g3, hg3⟩ := at_name (g2 + 1)
  rw [hg3] at hb
  rw [hg3]
  obtain ⟨g4, hg4⟩ := at_name (g3 + 1)
  rw [hg4] at hb
  rw [hg4]
  obtain ⟨hA0, hB0, hZ0, hO0, hx4⟩ := hb
  have n14 : g1 ≠ g4 := by omega
  have n24 : g2 ≠ g4 := by omega
  have n34 : g3 ≠ g4 := by omega
  have hw0 : w.heap.size ≤ g4 := by omega
  have hw3 : w.heap.size ≤ g3 := by omega
  clear hw4 hg1 hg2 hg3 hg4 HB
  have HA0 := hid hA0; have HB0 := hid hB0; have HZ0 := hid hZ0
  have HO0 := hid (show Bld w w4 g4 w4.heap.size m q (.slice none 0 0) 0 G from ⟨hO0, World.ownsRow_nil _ _ _ _, hx4, hx4.size, hw0⟩)
  clear hA0 hB0 hZ0 hO0
  go_loopw [8] (fun iv wr => ∃ (i t : Nat) (rv : Value), iv = .int .i64 i ∧ i ≤ m ∧ Hid (t = i * q) ∧ Hid (Bld w wr g4 w4.heap.size m q rv t G) ∧ Hid (Blk wr g1 25 #[.int .i64 (m : Int), .int .i64 (n : Int), .slice a xs.length cap]) ∧ Hid (Blk wr g2 25 #[.int .i64 (n : Int), .int .i64 (q : Int), .slice a' ys.length cap']) ∧ Hid (Blk wr g3 25 #[.int .i64 0, .int .i64 0, .slice none 0 0]) ∧ w4.heap.size ≤ wr.heap.size) (fun iv _ => m - (intOf iv).toNat)
  case atStart => exact ⟨0, 0, _, rfl, Nat.zero_le _, hid (by simp), HO0, HA0, HB0, HZ0, Nat.le_refl _⟩
  case round =>
    obtain ⟨i, t, rv, rfl, hi', ht, HO, HA, HB, HZ, hsz⟩ := hrel
    obtain ⟨b0, b1, b2⟩ := HA.out.at3
    by_cases hlt : i < m
    · go_wp2_with fail
      go_loopw [9] (fun kv wr => ∃ (k t : Nat) (rv : Value), kv = .int .i64 k ∧ k ≤ q ∧ Hid (t = i * q + k) ∧ Hid (Bld w wr g4 w4.heap.size m q rv t G) ∧ Hid (Blk wr g1 25 #[.int .i64 (m : Int), .int .i64 (n : Int), .slice a xs.length cap]) ∧ Hid (Blk wr g2 25 #[.int .i64 (n : Int), .int .i64 (q : Int), .slice a' ys.length cap']) ∧ Hid (Blk wr g3 25 #[.int .i64 0, .int .i64 0, .slice none 0 0]) ∧ w4.heap.size ≤ wr.heap.size) (fun kv _ => q - (intOf kv).toNat)
      case atStart => exact ⟨0, t, rv, rfl, Nat.zero_le _, ht, HO, HA, HB, HZ, hsz⟩
      case round =>
        clear b0 b1 b2 HO HA HB HZ hsz ht
        obtain ⟨k, t, rv, rfl, hk, ht, HO, HA, HB, HZ, hsz⟩ := hrel
        rename World => wo
        obtain ⟨c0, c1, c2⟩ := HB.out.at3
        by_cases hlk : k < q
        · go_wp2_with fail
          go_loopw [11, 10] (fun jv zv wr => ∃ (j : Nat) (z : Int), jv = .int .i64 j ∧ zv = .int .u64 z ∧ j ≤ n ∧ 0 ≤ z ∧ z < p ∧ Hid (z = dv p j (fun j => xs.getD (i * n + j) 0) fun j => ys.getD (j * q + k) 0) ∧ Ext wo wr) (fun jv _ _ => n - (intOf jv).toNat)
          case atStart => exact ⟨0, 0, rfl, rfl, Nat.zero_le _, by omega, by omega, hid (by rw [dv_zero]), Ext.refl _⟩
          case round =>
            clear c0 c1 c2
            obtain ⟨j, z, rfl, rfl, hj, z0, z1, hz, hxi⟩ := hrel
            rename World => wi
            obtain ⟨b0, b1, b2⟩ := (HA.out.ext hxi).at3
            obtain ⟨c0, c1, c2⟩ := (HB.out.ext hxi).at3
            by_cases hlj : j < n
            · have hat1 := at_lt (r := m) hlt hlj
              have hat2 := at_lt (r := n) hlj hlk
              have rx := Hx.out.getD hp2.1 (i * n + j)
              have ry := Hy.out.getD hp2.1 (j * q + k)
              have hds := dv_succ (p := p) j (fun j => xs.getD (i * n + j) 0) (fun j => ys.getD (j * q + k) 0)
              have hA := fun (W : World) (hW : Ext wi W) => rmAt (m : Int) (n : Int) (.slice a xs.length cap) xs i j n W (Hv.out.ext (HO.out.ext.trans (hxi.trans hW))) rfl (by omega) (by omega) (by omega) (by rw [Hxl.out]; exact hat1)
              have hB := fun (W : World) (hW : Ext wi W) => rmAt (n : Int) (q : Int) (.slice a' ys.length cap') ys j k q W (Hu.out.ext (HO.out.ext.trans (hxi.trans hW))) rfl (by omega) (by omega) (by omega) (by rw [Hyl.out]; exact hat2)
              obtain ⟨x, ex⟩ : ∃ x, xs.getD (i * n + j) 0 = x := ⟨_, rfl⟩
              obtain ⟨y, ey⟩ : ∃ y, ys.getD (j * q + k) 0 = y := ⟨_, rfl⟩
              simp only [ex, ey] at hds
              rw [ex] at rx hA; rw [ey] at ry hB
              rw [← hz.out] at hds
              obtain ⟨r, er, r0, r1⟩ := name_mod (p := p) (x * y) hp2.1
              obtain ⟨z', ez', z'0, z'1⟩ := name_mod (p := p) (z + r) hp2.1
              rw [er, ez'] at hds
              have Er := hid er; have Ez := hid ez'; have Hds := hid hds.symm
              unfold matV at hA hB
              have HA' := hid hA; have HB' := hid hB
              have fs := hid (fun (W : World) (hW : Ext wi W) => And.intro (((HA.out.ext hxi).ext hW).at3) (((HB.out.ext hxi).ext hW).at3))
              clear ex ey er ez' hds hz hat1 hat2 hA hB
              go_wp2_with fail
              go_region_held3 (fun w' => (w'.cell? ⟨g1, 0, none⟩ = some (.int .i64 (m : Int)) ∧ w'.cell? ⟨g1, 1, none⟩ = some (.int .i64 (n : Int)) ∧ w'.cell? ⟨g1, 2, none⟩ = some (.slice a xs.length cap)) ∧ w'.cell? ⟨g2, 0, none⟩ = some (.int .i64 (n : Int)) ∧ w'.cell? ⟨g2, 1, none⟩ = some (.int .i64 (q : Int)) ∧ w'.cell? ⟨g2, 2, none⟩ = some (.slice a' ys.length cap')) (first | assumption | exact fs.out _ ((Ext.refl wi).drew) | exact fs.out _ (by assumption))
                ((first
                  | (go_at_call_of 32 a; refine (HA'.out _ (by first | exact (Ext.refl wi).drew | assumption)).mono ?_; rintro _ w5 ⟨rfl, x5⟩; have y5 : Ext wi w5 := Ext.trans (by first | exact (Ext.refl wi).drew | assumption) x5)
                  | (go_at_call_of 32 a'; refine (HB'.out _ (by first | exact (Ext.refl wi).drew | assumption)).mono ?_; rintro _ w6 ⟨rfl, x6⟩; have y6 : Ext wi w6 := Ext.trans (by first | exact (Ext.refl wi).drew | assumption) x6)
                  | (go_at_call 45; refine (rMul p x y r _ Hp.out rx.1 rx.2 ry.1 (by omega) Er.out).mono ?_; rintro _ _ ⟨rfl, rfl⟩)
                  | (go_at_call 44; refine (rAdd p z r z' _ Hp.out z0 z1 r0 r1 Ez.out).mono ?_; rintro _ _ ⟨rfl, rfl⟩)))
              go_wp2_with fail
              go_roundw
              case rel => exact ⟨j + 1, z', by go_num, rfl, by omega, z'0, z'1, Hds, hxi.trans y6⟩
              case measure => simp [intOf]; omega
            · obtain rfl : j = n := by omega
              have hGt : G t = z := by rw [← HG.out t, ht.out, at_mod hlk, at_div hlk, hz.out]
              have happ := hid (show ((tab t G).map (Value.int .u64)) ++ [Value.int .u64 z] = (tab (t + 1) G).map (Value.int .u64) by rw [tab_succ, List.map_append, hGt]; rfl)
              have htb : t ≤ 4096 := by
                have h1 := at_lt (r := m) hlt hlk
                have h2 := Nat.mul_le_mul hm hq
                have := ht.out
                omega
              have hOi := HO.out.ext' hxi
              obtain ⟨o0, o1, o2⟩ := hOi.box.at3
              have hsi := hxi.size
              have e5 : Ext wo (wi.alloc (.cells #[.int .u64 z] 22)) := hxi.alloc _
              have hB5 := HO.out.ext' e5
              have hs5 := e5.size
              have Hown := hid hOi.own
              clear hGt hOi
              go_wp2_with (first | (at_builtin; refine wpList_append_own _ rfl _ _ 23 rfl w4.heap.size 22 i0 (.int .u64 0) 1 8 Try.underlying23 hi hz0 hz1 hz2 rfl (by decide) rv t _ rfl (Hown.out.alloc _) ⟨wi.heap.size, 0, none⟩ 1 1 [.int .u64 z] rfl rfl (cells_new _ _ _ (by simp)) (by simp [Value.oneCell']) (by simp only [maxLen]; omega) (by omega) (by simp; omega) ?_; intro v6 w6 hown6 hgrow6 hnil6; have hb6 := hB5.box' hgrow6; have o6 := hb6.1; have f6 := hb6.2; rw [happ.out] at hown6; have Hown6 := hid hown6; obtain ⟨a6, c6, rfl, q2, q3, q4, q5⟩ := WRow.of_owns hown6; clear q5 q4 hown6 hb6) | fail)
              have hs6 := hgrow6.size
              go_roundw
              case rel => exact ⟨k + 1, t + 1, _, by go_num, by omega, hid (by rw [ht.out]; omega), hid (hB5.next Hown6.out hgrow6), hid (hB5.other (HA.out.ext e5) (by decide) n14 hgrow6), hid (hB5.other (HB.out.ext e5) (by decide) n24 hgrow6), hid (hB5.other (HZ.out.ext e5) (by decide) n34 hgrow6), by simp only [World.setCell, Array.size_modify]; omega⟩
              case measure => simp [intOf]; omega
        · obtain rfl : k = q := by omega
          go_wp2_with fail
          go_roundw
          case rel => exact ⟨i + 1, t, rv, by go_num, by omega, hid (by rw [ht.out, Nat.succ_mul]), HO, HA, HB, HZ, hsz⟩
          case measure => simp [intOf]; omega
    · obtain rfl : i = m := by omega
      obtain ⟨o0, o1, o2⟩ := HO.out.box.at3
      obtain ⟨z0, z1, z2⟩ := HZ.out.at3
      have zf0 := HZ.out.frozen 0
      have zf1 := HZ.out.frozen 1
      have zf2 := HZ.out.frozen 2
      obtain ⟨a6, c6, rfl, q2, q3, q4, q5⟩ := WRow.of_owns HO.out.own
      clear q5
      have hI := hid (own_set3 HO.out.own HZ.out (.int .i64 (i : Int)) (.int .i64 (q : Int)) (.slice a6 t c6))
      have hE := hid (((HO.out.ext.setCell (p := ⟨g3, 0, none⟩) hw3 (.int .i64 (i : Int))).setCell (p := ⟨g3, 1, none⟩) hw3 (.int .i64 (q : Int))).setCell (p := ⟨g3, 2, none⟩) hw3 (.slice a6 t c6))
      have htt := ht.out
      subst htt
      have hbk2 := hid (show Blk _ g3 25 #[.int .i64 (i : Int), .int .i64 (q : Int), .slice a6 (i * q) c6] from ((HZ.out.set_ 0 (.int .i64 (i : Int))).set_ 1 (.int .i64 (q : Int))).set_ 2 (.slice a6 (i * q) c6))
      go_wp2_with fail
      refine bodyPost_ret (results_cell_row rfl _ _ g3 25 #[.int .i64 (i : Int), .int .i64 (q : Int), .slice a6 (i * q) c6] (0, 0) _ rfl hbk2.out Try.underlying25 rfl (by kernel_rfl)) rfl ?_
      exact ⟨_, rfl, hI.out, hE.out⟩
end Go.Proofs.Ytlociefncogjeaa
