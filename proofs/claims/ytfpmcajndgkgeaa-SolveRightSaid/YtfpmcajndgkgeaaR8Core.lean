/- The document's own answer of layer 8: the own rows and columns. -/
import Derived.Test.YtfpmcajndgkgeaaBun22
import Derived.Test.YtfpmcajndgkgeaaBun11
import Derived.Test.YtfpmcajndgkgeaaBun12
import Derived.Test.YtfpmcajndgkgeaaRound
import Derived.Test.YtfpmcajndgkgeaaStep
import Derived.Deep.RegionLaw
import Derived.Deep.RegionHeld3
namespace Go.Proofs.Ytfpmcajndgkgeaa
open Go.RowKit Go.Maps

set_option maxRecDepth 100000 in
set_option maxHeartbeats 2000000 in
theorem r8Core (m n r : Nat) (v rv cv Cv Uv : Value) (xs R K : List Int) (w : World) (hv : Ints .u64 w v xs) (hR : Ints .i64 w rv R) (hK : Ints .i64 w cv K) (hm : m ≤ 64) (hn : n ≤ 64) (hr : r ≤ 64) (hxl : xs.length = m * n) (hRl : R.length = r) (hKl : K.length = r)
    (hRb : ∀ i, i < r → ∃ a : Nat, R.getD i 0 = a ∧ a < m) (hKb : ∀ i, i < r → ∃ a : Nat, K.getD i 0 = a ∧ a < n) :
    Calls Try.prog 65 #[matV m n v, .agg #[rv, cv, Cv, Uv]] w (RetM r r (grid r r fun i l => xs.getD ((R.getD i 0).toNat * n + (K.getD l 0).toNat) 0) w) := by
  obtain ⟨i0, hi, hz0, hz1, hz2⟩ := info_parts info_u64p
  have Hv := hid hv; have Hxl := hid hxl; have HRb := hid hRb; have HKb := hid hKb
  obtain ⟨a, cap, rfl, k1, k2, k3⟩ := hv
  obtain ⟨ar, cr, rfl, r1, r2, r3⟩ := hR
  obtain ⟨ak, ck, rfl, c1, c2, c3⟩ := hK
  rw [hRl] at r1 r3 ⊢; rw [hKl] at c1 c3 ⊢
  have R3 := hid r3; have K3 := hid c3
  clear k3 r3 c3 hxl hRl hKl hRb hKb
  obtain ⟨G, hG⟩ : ∃ G : Nat → Int, (fun t => xs.getD ((R.getD (t / r) 0).toNat * n + (K.getD (t % r) 0).toNat) 0) = G := ⟨_, rfl⟩
  have HG := hid (fun t => (congrFun hG t : xs.getD ((R.getD (t / r) 0).toNat * n + (K.getD (t % r) 0).toNat) 0 = G t))
  have hgrid : grid r r (fun i l => xs.getD ((R.getD i 0).toNat * n + (K.getD l 0).toNat) 0) = tab (r * r) G := by rw [← hG]; rfl
  rw [hgrid]
  clear hG hgrid
  unfold matV
  obtain ⟨M, hM⟩ : ∃ M : Array Value, #[.int .i64 (m : Int), .int .i64 (n : Int), .slice a xs.length cap] = M := ⟨_, rfl⟩
  obtain ⟨C, hC⟩ : ∃ C : Array Value, #[.slice ar r cr, .slice ak r ck, Cv, Uv] = C := ⟨_, rfl⟩
  have hA0 := (Blk.new w 25 M).ext (((Ext.refl _).alloc (.cells C 71)).alloc (.cells #[.int .i64 0, .int .i64 0, .slice none 0 0] 25))
  have hC0 := (Blk.new (w.alloc (.cells M 25)) 71 C).ext ((Ext.refl _).alloc (.cells #[.int .i64 0, .int .i64 0, .slice none 0 0] 25))
  have hZ0 := Blk.new ((w.alloc (.cells M 25)).alloc (.cells C 71)) 25 #[.int .i64 0, .int .i64 0, .slice none 0 0]
  have hx3 : Ext w (((w.alloc (.cells M 25)).alloc (.cells C 71)).alloc (.cells #[.int .i64 0, .int .i64 0, .slice none 0 0] 25)) := (((Ext.refl w).alloc _).alloc _).alloc _
  have e1 : (w.alloc (.cells M 25)).heap.size = w.heap.size + 1 := by rw [alloc_size]
  have e2 : ((w.alloc (.cells M 25)).alloc (.cells C 71)).heap.size = w.heap.size + 1 + 1 := by rw [alloc_size, alloc_size]
  have e3 : (((w.alloc (.cells M 25)).alloc (.cells C 71)).alloc (.cells #[.int .i64 0, .int .i64 0, .slice none 0 0] 25)).heap.size = w.heap.size + 1 + 1 + 1 := by rw [alloc_size, alloc_size, alloc_size]
  rw [e1] at hC0
  rw [e2] at hZ0
  subst hM; subst hC
  go_enter Try.func65, Try.ntmps65
  go_wp2_with fail
  obtain ⟨w3, hw3⟩ : ∃ w3, (((w.alloc (.cells #[.int .i64 (m : Int), .int .i64 (n : Int), .slice a xs.length cap] 25)).alloc (.cells #[.slice ar r cr, .slice ak r ck, Cv, Uv] 71)).alloc (.cells #[.int .i64 0, .int .i64 0, .slice none 0 0] 25)) = w3 := ⟨_, rfl⟩
  rw [hw3] at hA0 hC0 hZ0 hx3 e3
  rw [hw3]
  obtain ⟨g1, hg1⟩ : ∃ g, w.heap.size = g := ⟨_, rfl⟩
  rw [hg1] at hA0 hC0 hZ0 e3
  rw [hg1]
  obtain ⟨g2, hg2⟩ : ∃ g, g1 + 1 = g := ⟨_, rfl⟩
  rw [hg2] at hC0 hZ0 e3
  rw [hg2]
  obtain ⟨g3, hg3⟩ : ∃ g, g2 + 1 = g := ⟨_, rfl⟩
  rw [hg3] at hZ0 e3
  rw [hg3]
  obtain ⟨g4, hg4⟩ : ∃ g, g3 + 1 = g := ⟨_, rfl⟩
  rw [hg4] at e3
  rw [hg4]
  have hO0 := Blk.new w3 25 #[.int .i64 (r : Int), .int .i64 (r : Int), .slice none 0 0]
  have hx4 : Ext w3 (w3.alloc (.cells #[.int .i64 (r : Int), .int .i64 (r : Int), .slice none 0 0] 25)) := (Ext.refl w3).alloc _
  obtain ⟨w4, hw4⟩ : ∃ w4, w3.alloc (.cells #[.int .i64 (r : Int), .int .i64 (r : Int), .slice none 0 0] 25) = w4 := ⟨_, rfl⟩
  rw [e3] at hO0
  rw [hw4] at hO0 hx4
  rw [hw4]
  have hgw : w.heap.size ≤ g3 := by omega
  have HA0 := hid hA0; have HC0 := hid hC0; have HZ0 := hid hZ0; have Hx3 := hid hx3
  have HB0 := hid (show Bld w3 w4 g4 w4.heap.size r r (.slice none 0 0) 0 G from ⟨hO0, World.ownsRow_nil _ _ _ _, hx4, hx4.size, by omega⟩)
  clear hw3 hw4 hg1 hg2 hg3 hg4 e1 e2 e3 hA0 hC0 hZ0 hO0 hx3 hx4
  go_loopw [6] (fun iv wr => ∃ (i t : Nat) (rv : Value), iv = .int .i64 i ∧ i ≤ r ∧ Hid (t = i * r) ∧ Hid (Bld w3 wr g4 w4.heap.size r r rv t G) ∧ w4.heap.size ≤ wr.heap.size) (fun iv _ => r - (intOf iv).toNat)
  case atStart => exact ⟨0, 0, _, rfl, Nat.zero_le _, hid (by simp), HB0, Nat.le_refl _⟩
  case round =>
    obtain ⟨i, t, rv, rfl, hi', ht, HB, hsz⟩ := hrel
    rename World => wo
    obtain ⟨p0, p1, p2, p3⟩ := (HC0.out.ext HB.out.ext).at4
    by_cases hlt : i < r
    · go_wp2_with fail
      clear p0 p1 p2 p3
      go_loopw [7] (fun kv wr => ∃ (k t : Nat) (rv : Value), kv = .int .i64 k ∧ k ≤ r ∧ Hid (t = i * r + k) ∧ Hid (Bld w3 wr g4 w4.heap.size r r rv t G) ∧ w4.heap.size ≤ wr.heap.size) (fun kv _ => r - (intOf kv).toNat)
      case atStart => exact ⟨0, t, rv, rfl, Nat.zero_le _, ht, HB, hsz⟩
      case round =>
        clear HB hsz ht
        obtain ⟨k, t, rv, rfl, hk, ht, HB, hsz⟩ := hrel
        rename World => wi
        obtain ⟨p0, p1, p2, p3⟩ := (HC0.out.ext HB.out.ext).at4
        by_cases hlk : k < r
        · obtain ⟨br, or, rfl, hbr, kcr⟩ := R3.out (by omega)
          obtain ⟨bk, ok, rfl, hbk, kck⟩ := K3.out (by omega)
          obtain ⟨x, ex, hxm⟩ := HRb.out i hlt
          obtain ⟨z, ez, hzn⟩ := HKb.out k hlk
          have gr := ((Hx3.out.trans HB.out.ext).cells _ _ hbr).trans (kcr i hlt)
          have gk := ((Hx3.out.trans HB.out.ext).cells _ _ hbk).trans (kck k hlk)
          have hkr := kcr i hlt
          have hkk := kck k hlk
          rw [ex] at gr hkr; rw [ez] at gk hkk
          have HKR := hid hkr; have HKK := hid hkk
          clear hkr hkk
          have hat := at_lt (r := m) hxm hzn
          have hA := hid (fun (W : World) (hW : Ext wi W) => rmAt (m : Int) (n : Int) (.slice a xs.length cap) xs x z n W (Hv.out.ext (Hx3.out.trans (HB.out.ext.trans hW))) rfl (by omega) (by omega) (by omega) (by rw [Hxl.out]; exact hat))
          obtain ⟨y, ey⟩ : ∃ y, xs.getD (x * n + z) 0 = y := ⟨_, rfl⟩
          rw [ey] at hA
          have hGt : G t = y := by rw [← HG.out t, ht.out, at_mod hlk, at_div hlk, ex, ez, Int.toNat_natCast, Int.toNat_natCast, ey]
          have happ := hid (show ((tab t G).map (Value.int .u64)) ++ [Value.int .u64 y] = (tab (t + 1) G).map (Value.int .u64) by rw [tab_succ, List.map_append, hGt]; rfl)
          have htb : t ≤ 4096 := by
            have h1 := at_lt (r := r) hlt hlk
            have h2 := Nat.mul_le_mul hr hr
            have := ht.out
            omega
          obtain ⟨o0, o1, o2⟩ := HB.out.box.at3
          have of := HB.out.box.frozen 2
          obtain ⟨a0, a1, a2⟩ := (HA0.out.ext HB.out.ext).at3
          clear ey hGt hat ex ez hxm hzn
          unfold matV at hA
          have HT := hid ht.out
          have CF := hid fun (W' : World) (hS : Ext w3 W') => (show (W'.cell? ⟨g1, 0, none⟩ = some (.int .i64 (m : Int)) ∧ W'.cell? ⟨g1, 1, none⟩ = some (.int .i64 (n : Int)) ∧ W'.cell? ⟨g1, 2, none⟩ = some (.slice a xs.length cap)) ∧ (W'.cell? ⟨g2, 0, none⟩ = some (.slice (some ⟨br, or, none⟩) r cr) ∧ W'.cell? ⟨g2, 1, none⟩ = some (.slice (some ⟨bk, ok, none⟩) r ck)) ∧
            W'.cell? ⟨br, or + i, none⟩ = some (.int .i64 (x : Int)) ∧ W'.cell? ⟨bk, ok + k, none⟩ = some (.int .i64 (z : Int)) from by
            have h1 := HA0.out.ext hS
            have h2 := HC0.out.ext hS
            exact ⟨⟨h1.cell 0, h1.cell 1, h1.cell 2⟩, ⟨h2.cell 0, h2.cell 1⟩, ((Hx3.out.trans hS).cells _ _ hbr).trans HKR.out, ((Hx3.out.trans hS).cells _ _ hbk).trans HKK.out⟩)
          clear kcr kck
          have hmx : Try.prog.follows .mixedOrders = true := by kernel_rfl
          go_upto_region 8 with fail
          clear a0 a1 a2 o0 o1 o2 of p0 p1 p2 p3 gr gk
          refine wp_region_held_drew (S := fun W' => Ext w3 W') hmx HB.out.ext.drew (fun hHeld => ?_)
          have X0 : Ext wi wi.drew := (Ext.refl wi).drew
          refine wpAnyH_take (i := 0) (v := .pointer (some ⟨g4, 2, none⟩)) rfl (by kernel_rfl) (by kernel_rfl) (by kernel_rfl) (fun _ _ _ h => h) (Or.inl ⟨by rfl, ?_⟩) hHeld ?_
          · intro W' hSw
            obtain ⟨⟨q0, q1, q2⟩, ⟨q3, q4⟩, q5, q6⟩ := CF.out W' hSw
            go_simp
          refine wpAnyH_take (i := 2) (v := .agg #[.int .i64 (m : Int), .int .i64 (n : Int), .slice a xs.length cap]) rfl (by kernel_rfl) (by kernel_rfl) (by kernel_rfl) (fun _ _ _ h => h) (Or.inl ⟨by rfl, ?_⟩) hHeld ?_
          · intro W' hSw
            obtain ⟨⟨q0, q1, q2⟩, ⟨q3, q4⟩, q5, q6⟩ := CF.out W' hSw
            go_simp
          refine wpAnyH_take (i := 3) (v := .pointer (some ⟨g2, 0, none⟩)) rfl (by kernel_rfl) (by kernel_rfl) (by kernel_rfl) (fun _ _ _ h => h) (Or.inl ⟨by rfl, ?_⟩) hHeld ?_
          · intro W' hSw
            obtain ⟨⟨q0, q1, q2⟩, ⟨q3, q4⟩, q5, q6⟩ := CF.out W' hSw
            go_simp
          refine wpAnyH_take (i := 4) (v := .slice (some ⟨br, or, none⟩) r cr) rfl (by kernel_rfl) (by kernel_rfl) (by kernel_rfl) (fun _ _ _ h => h) (Or.inl ⟨by rfl, ?_⟩) hHeld ?_
          · intro W' hSw
            obtain ⟨⟨q0, q1, q2⟩, ⟨q3, q4⟩, q5, q6⟩ := CF.out W' hSw
            go_simp
          refine wpAnyH_take (i := 5) (v := .int .i64 (i : Int)) rfl (by kernel_rfl) (by kernel_rfl) (by kernel_rfl) (fun _ _ _ h => h) (Or.inl ⟨by rfl, ?_⟩) hHeld ?_
          · intro W' hSw
            obtain ⟨⟨q0, q1, q2⟩, ⟨q3, q4⟩, q5, q6⟩ := CF.out W' hSw
            go_simp
          refine wpAnyH_take (i := 6) (v := .pointer (some ⟨br, or + i, none⟩)) rfl (by kernel_rfl) (by kernel_rfl) (by kernel_rfl) (fun _ _ _ h => h) (Or.inl ⟨by rfl, ?_⟩) hHeld ?_
          · intro W' hSw
            obtain ⟨⟨q0, q1, q2⟩, ⟨q3, q4⟩, q5, q6⟩ := CF.out W' hSw
            go_simp
          refine wpAnyH_take (i := 7) (v := .int .i64 (x : Int)) rfl (by kernel_rfl) (by kernel_rfl) (by kernel_rfl) (fun _ _ _ h => h) (Or.inl ⟨by rfl, ?_⟩) hHeld ?_
          · intro W' hSw
            obtain ⟨⟨q0, q1, q2⟩, ⟨q3, q4⟩, q5, q6⟩ := CF.out W' hSw
            go_simp
          refine wpAnyH_take (i := 8) (v := .pointer (some ⟨g2, 1, none⟩)) rfl (by kernel_rfl) (by kernel_rfl) (by kernel_rfl) (fun _ _ _ h => h) (Or.inl ⟨by rfl, ?_⟩) hHeld ?_
          · intro W' hSw
            obtain ⟨⟨q0, q1, q2⟩, ⟨q3, q4⟩, q5, q6⟩ := CF.out W' hSw
            go_simp
          refine wpAnyH_take (i := 9) (v := .slice (some ⟨bk, ok, none⟩) r ck) rfl (by kernel_rfl) (by kernel_rfl) (by kernel_rfl) (fun _ _ _ h => h) (Or.inl ⟨by rfl, ?_⟩) hHeld ?_
          · intro W' hSw
            obtain ⟨⟨q0, q1, q2⟩, ⟨q3, q4⟩, q5, q6⟩ := CF.out W' hSw
            go_simp
          refine wpAnyH_take (i := 10) (v := .int .i64 (k : Int)) rfl (by kernel_rfl) (by kernel_rfl) (by kernel_rfl) (fun _ _ _ h => h) (Or.inl ⟨by rfl, ?_⟩) hHeld ?_
          · intro W' hSw
            obtain ⟨⟨q0, q1, q2⟩, ⟨q3, q4⟩, q5, q6⟩ := CF.out W' hSw
            go_simp
          refine wpAnyH_take (i := 11) (v := .pointer (some ⟨bk, ok + k, none⟩)) rfl (by kernel_rfl) (by kernel_rfl) (by kernel_rfl) (fun _ _ _ h => h) (Or.inl ⟨by rfl, ?_⟩) hHeld ?_
          · intro W' hSw
            obtain ⟨⟨q0, q1, q2⟩, ⟨q3, q4⟩, q5, q6⟩ := CF.out W' hSw
            go_simp
          refine wpAnyH_take (i := 12) (v := .int .i64 (z : Int)) rfl (by kernel_rfl) (by kernel_rfl) (by kernel_rfl) (fun _ _ _ h => h) (Or.inl ⟨by rfl, ?_⟩) hHeld ?_
          · intro W' hSw
            obtain ⟨⟨q0, q1, q2⟩, ⟨q3, q4⟩, q5, q6⟩ := CF.out W' hSw
            go_simp
          refine wpAnyH_ready (rs := [1, 13]) (by kernel_rfl) (by simp) ?_
          refine AllReadyH.cons rfl (fun K hK => ?_) ?_
          · have o2 := (HB.out.box.ext X0).cell 2
            go_simp
            clear o2
            refine hK.out _ _ hHeld (fun hHeld => ?_)
            clear hK K
            refine held_step 13 (by kernel_rfl) rfl (fun K hK => ?_)
            go_simp
            go_wp2_with fail
            refine (hA.out _ X0).mono ?_
            rintro _ w5 ⟨rfl, x5⟩
            have X5 : Ext wi w5 := Ext.trans X0 x5
            go_wp2_with fail
            refine hK.out _ _ (HB.out.ext.trans X5) (fun hHeld => ?_)
            clear hK K
            refine held_step 14 (by kernel_rfl) rfl (fun K hK => ?_)
            go_simp
            have X6 : Ext wi (w5.alloc (.cells #[.int .u64 y] 22)) := X5.alloc _
            refine hK.out _ _ (HB.out.ext.trans X6) (fun hHeld => ?_)
            clear hK K
            refine held_step 15 (by kernel_rfl) rfl (fun K hK => ?_)
            have hs6 := X6.size
            refine step_append_at _ rfl (.tmp 30) (.tmp 43) 23 rfl w4.heap.size 22 i0 (.int .u64 0) 1 8 Try.underlying23 hi hz0 hz1 hz2 rfl (by decide) rv t ((tab t G).map (Value.int .u64)) (by simp [Act.eval]) (ownsRow_ext HB.out.own X6) ⟨w5.heap.size, 0, none⟩ 1 1 [.int .u64 y] (by simp [Act.eval]) rfl (cells_new _ _ _ rfl) (by simp [Value.oneCell']) (by simp only [maxLen]; omega) (by omega) (by omega) ?_
            intro v6 w6 hown6 hgrow6 hat6
            have hb6 := (HB.out.ext' X6).box' hgrow6
            rw [happ.out] at hown6
            have Hown6 := hid hown6; have Hgrow6 := hid hgrow6
            have hw6 : Ext w3 w6 := (HB.out.ext.trans X6).grown hgrow6 (fun k e => Nat.le_trans HB.out.hb (HB.out.own.lt k e).1)
            obtain ⟨a6, c6, rfl, -, -, -⟩ := WRow.of_owns hown6
            clear hown6 hgrow6 hat6
            refine hK.out _ _ hw6 (fun hHeld => ?_)
            clear hK K
            refine wpAnyH_take (i := 16) (v := .pointer (some ⟨g4, 2, none⟩)) rfl (by kernel_rfl) (by kernel_rfl) (by kernel_rfl) (fun _ _ _ h => h) (Or.inl ⟨by rfl, ?_⟩) hHeld ?_
            · intro W' hSw
              go_simp
            refine held_step 17 (by kernel_rfl) rfl (fun K hK => ?_)
            have o6 := hb6.1
            have f6 := hb6.2
            go_simp
            refine hK.out _ _ (hw6.setCell (p := ⟨g4, 2, none⟩) HB.out.hh (.slice a6 (t + 1) c6)) (fun hHeld => ?_)
            clear hK K o6 f6 hb6
            refine wpAnyH_done (by kernel_rfl) ?_ _
            have hs7 := Hgrow6.out.size
            have hB5 := HB.out.ext' X6
            clear CF
            go_wp2_with fail
            go_roundw
            case rel => exact ⟨k + 1, t + 1, _, by go_num, by omega, hid (by rw [HT.out]; omega), hid (hB5.next Hown6.out Hgrow6.out), by simp only [World.setCell, Array.size_modify]; omega⟩
            case measure => simp [intOf]; omega
          refine AllReadyH.cons rfl (fun K hK => ?_) ?_
          · go_simp
            go_wp2_with fail
            refine (hA.out _ X0).mono ?_
            rintro _ w5 ⟨rfl, x5⟩
            have X5 : Ext wi w5 := Ext.trans X0 x5
            go_wp2_with fail
            refine hK.out _ _ (HB.out.ext.trans X5) (fun hHeld => ?_)
            clear hK K
            refine wpAnyH_ready (rs := [1, 14]) (by kernel_rfl) (by simp) ?_
            refine AllReadyH.cons rfl (fun K hK => ?_) ?_
            · have o2 := (HB.out.box.ext X5).cell 2
              go_simp
              clear o2
              refine hK.out _ _ hHeld (fun hHeld => ?_)
              clear hK K
              refine held_step 14 (by kernel_rfl) rfl (fun K hK => ?_)
              go_simp
              have X6 : Ext wi (w5.alloc (.cells #[.int .u64 y] 22)) := X5.alloc _
              refine hK.out _ _ (HB.out.ext.trans X6) (fun hHeld => ?_)
              clear hK K
              refine held_step 15 (by kernel_rfl) rfl (fun K hK => ?_)
              have hs6 := X6.size
              refine step_append_at _ rfl (.tmp 30) (.tmp 43) 23 rfl w4.heap.size 22 i0 (.int .u64 0) 1 8 Try.underlying23 hi hz0 hz1 hz2 rfl (by decide) rv t ((tab t G).map (Value.int .u64)) (by simp [Act.eval]) (ownsRow_ext HB.out.own X6) ⟨w5.heap.size, 0, none⟩ 1 1 [.int .u64 y] (by simp [Act.eval]) rfl (cells_new _ _ _ rfl) (by simp [Value.oneCell']) (by simp only [maxLen]; omega) (by omega) (by omega) ?_
              intro v6 w6 hown6 hgrow6 hat6
              have hb6 := (HB.out.ext' X6).box' hgrow6
              rw [happ.out] at hown6
              have Hown6 := hid hown6; have Hgrow6 := hid hgrow6
              have hw6 : Ext w3 w6 := (HB.out.ext.trans X6).grown hgrow6 (fun k e => Nat.le_trans HB.out.hb (HB.out.own.lt k e).1)
              obtain ⟨a6, c6, rfl, -, -, -⟩ := WRow.of_owns hown6
              clear hown6 hgrow6 hat6
              refine hK.out _ _ hw6 (fun hHeld => ?_)
              clear hK K
              refine wpAnyH_take (i := 16) (v := .pointer (some ⟨g4, 2, none⟩)) rfl (by kernel_rfl) (by kernel_rfl) (by kernel_rfl) (fun _ _ _ h => h) (Or.inl ⟨by rfl, ?_⟩) hHeld ?_
              · intro W' hSw
                go_simp
              refine held_step 17 (by kernel_rfl) rfl (fun K hK => ?_)
              have o6 := hb6.1
              have f6 := hb6.2
              go_simp
              refine hK.out _ _ (hw6.setCell (p := ⟨g4, 2, none⟩) HB.out.hh (.slice a6 (t + 1) c6)) (fun hHeld => ?_)
              clear hK K o6 f6 hb6
              refine wpAnyH_done (by kernel_rfl) ?_ _
              have hs7 := Hgrow6.out.size
              have hB5 := HB.out.ext' X6
              clear CF
              go_wp2_with fail
              go_roundw
              case rel => exact ⟨k + 1, t + 1, _, by go_num, by omega, hid (by rw [HT.out]; omega), hid (hB5.next Hown6.out Hgrow6.out), by simp only [World.setCell, Array.size_modify]; omega⟩
              case measure => simp [intOf]; omega
            refine AllReadyH.cons rfl (fun K hK => ?_) ?_
            · go_simp
              have X6 : Ext wi (w5.alloc (.cells #[.int .u64 y] 22)) := X5.alloc _
              refine hK.out _ _ (HB.out.ext.trans X6) (fun hHeld => ?_)
              clear hK K
              refine held_step 1 (by kernel_rfl) rfl (fun K hK => ?_)
              have o2 := (HB.out.box.ext X6).cell 2
              go_simp
              clear o2
              refine hK.out _ _ hHeld (fun hHeld => ?_)
              clear hK K
              refine held_step 15 (by kernel_rfl) rfl (fun K hK => ?_)
              have hs6 := X6.size
              refine step_append_at _ rfl (.tmp 30) (.tmp 43) 23 rfl w4.heap.size 22 i0 (.int .u64 0) 1 8 Try.underlying23 hi hz0 hz1 hz2 rfl (by decide) rv t ((tab t G).map (Value.int .u64)) (by simp [Act.eval]) (ownsRow_ext HB.out.own X6) ⟨w5.heap.size, 0, none⟩ 1 1 [.int .u64 y] (by simp [Act.eval]) rfl (cells_new _ _ _ rfl) (by simp [Value.oneCell']) (by simp only [maxLen]; omega) (by omega) (by omega) ?_
              intro v6 w6 hown6 hgrow6 hat6
              have hb6 := (HB.out.ext' X6).box' hgrow6
              rw [happ.out] at hown6
              have Hown6 := hid hown6; have Hgrow6 := hid hgrow6
              have hw6 : Ext w3 w6 := (HB.out.ext.trans X6).grown hgrow6 (fun k e => Nat.le_trans HB.out.hb (HB.out.own.lt k e).1)
              obtain ⟨a6, c6, rfl, -, -, -⟩ := WRow.of_owns hown6
              clear hown6 hgrow6 hat6
              refine hK.out _ _ hw6 (fun hHeld => ?_)
              clear hK K
              refine wpAnyH_take (i := 16) (v := .pointer (some ⟨g4, 2, none⟩)) rfl (by kernel_rfl) (by kernel_rfl) (by kernel_rfl) (fun _ _ _ h => h) (Or.inl ⟨by rfl, ?_⟩) hHeld ?_
              · intro W' hSw
                go_simp
              refine held_step 17 (by kernel_rfl) rfl (fun K hK => ?_)
              have o6 := hb6.1
              have f6 := hb6.2
              go_simp
              refine hK.out _ _ (hw6.setCell (p := ⟨g4, 2, none⟩) HB.out.hh (.slice a6 (t + 1) c6)) (fun hHeld => ?_)
              clear hK K o6 f6 hb6
              refine wpAnyH_done (by kernel_rfl) ?_ _
              have hs7 := Hgrow6.out.size
              have hB5 := HB.out.ext' X6
              clear CF
              go_wp2_with fail
              go_roundw
              case rel => exact ⟨k + 1, t + 1, _, by go_num, by omega, hid (by rw [HT.out]; omega), hid (hB5.next Hown6.out Hgrow6.out), by simp only [World.setCell, Array.size_modify]; omega⟩
              case measure => simp [intOf]; omega
            exact AllReadyH.nil
          exact AllReadyH.nil
        · obtain rfl : r = k := by omega
          go_wp2_with fail
          go_roundw
          case rel => exact ⟨i + 1, t, rv, by go_num, by omega, hid (by rw [ht.out, Nat.succ_mul]), HB, hsz⟩
          case measure => simp [intOf]; omega
    · obtain rfl : r = i := by omega
      have Z := HZ0.out.ext HB.out.ext
      obtain ⟨o0, o1, o2⟩ := HB.out.box.at3
      obtain ⟨z0, z1, z2⟩ := Z.at3
      have zf0 := Z.frozen 0
      have zf1 := Z.frozen 1
      have zf2 := Z.frozen 2
      obtain ⟨a6, c6, rfl, q2, q3, q4, q5⟩ := WRow.of_owns HB.out.own
      clear q5
      have hI := hid (own_set3 HB.out.own Z (.int .i64 (r : Int)) (.int .i64 (r : Int)) (.slice a6 t c6))
      have hE := hid ((((Hx3.out.trans HB.out.ext).setCell (p := ⟨g3, 0, none⟩) hgw (.int .i64 (r : Int))).setCell (p := ⟨g3, 1, none⟩) hgw (.int .i64 (r : Int))).setCell (p := ⟨g3, 2, none⟩) hgw (.slice a6 t c6))
      have htt := ht.out
      subst htt
      have hbk := ((Z.set_ 0 (.int .i64 (r : Int))).set_ 1 (.int .i64 (r : Int))).set_ 2 (.slice a6 (r * r) c6)
      have hbk2 := hid (show Blk _ g3 25 #[.int .i64 (r : Int), .int .i64 (r : Int), .slice a6 (r * r) c6] from hbk)
      clear hbk
      go_wp2_with fail
      refine bodyPost_ret (results_cell_row rfl _ _ g3 25 #[.int .i64 (r : Int), .int .i64 (r : Int), .slice a6 (r * r) c6] (0, 0) _ rfl hbk2.out Try.underlying25 rfl (by kernel_rfl)) rfl ?_
      exact ⟨_, rfl, hI.out, hE.out⟩
end Go.Proofs.Ytfpmcajndgkgeaa
