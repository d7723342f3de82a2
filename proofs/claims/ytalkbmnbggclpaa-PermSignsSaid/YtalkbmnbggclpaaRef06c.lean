/- The document's own answer of layer 6 that puts a matrix's rows in another order: Rows. -/
import Derived.Test.YtalkbmnbggclpaaRef06b
import Derived.Test.YtalkbmnbggclpaaMat3
import Derived.Test.YtalkbmnbggclpaaPiece
import Derived.StillTailTactics
namespace Go.Proofs.Ytalkbmnbggclpaa
open Go.RowKit Go.Maps

/-- a matrix's rows, in another order -/
def rowsL (p : List Int) (c : Nat) (xs : List Int) : List Int := grid p.length c fun i k => xs.getD ((p.getD i 0).toNat * c + k) 0
theorem rowsL_len (p : List Int) (c : Nat) (xs : List Int) : (rowsL p c xs).length = p.length * c := grid_len _ _ _
theorem tab_add {t d : Nat} {G : Nat → Int} {l : List Int} (hl : l.length = d) (h : ∀ j, j < d → l.getD j 0 = G (t + j)) : tab (t + d) G = tab t G ++ l := by
  symm
  refine tab_of (by rw [List.length_append, tab_len, hl]) fun k hk => ?_
  simp only [List.getD, List.getElem?_append, tab_len]
  split
  · rename_i h1
    exact tab_get G h1
  · have := h (k - t) (by omega)
    rwa [show t + (k - t) = k by omega] at this
/-- a slice's numbers as cells that are appended -/
theorem ints_news {k : IntKind} {w : World} {ad : Addr} {m c : Nat} {l : List Int} (h : Ints k w (.slice (some ad) m c) l) : ∀ j u, (l.map (Value.int k))[j]? = some u → w.cell? (ad.add j) = some u := by
  intro j u hj
  obtain ⟨a, cap, e, _, _, h3⟩ := h
  injection e with e1 _ _
  subst e1
  have hjl : j < l.length := by
    rcases Nat.lt_or_ge j l.length with h | h
    · exact h
    · rw [List.getElem?_eq_none (by simpa using h)] at hj; cases hj
  obtain ⟨b, off, e, hb, hcell⟩ := h3 (by omega)
  injection e with e
  subst e
  rw [show ((⟨b, off, none⟩ : Addr).add j) = ⟨b, off + j, none⟩ from Go.WideShapes.add_plain _ _ _, hcell j hjl]
  rw [List.getElem?_map, List.getElem?_eq_getElem hjl] at hj
  simp only [Option.map_some, Option.some.injEq] at hj
  rw [← hj]
  simp [List.getD, List.getElem?_eq_getElem hjl]
theorem ints_one {k : IntKind} {l : List Int} : ∀ u ∈ l.map (Value.int k), u.oneCell' = true := by
  intro u hu
  obtain ⟨q, _, rfl⟩ := List.mem_map.1 hu
  rfl
/-- numbers are appended, and the box told -/
theorem Bld.more {w0 w w' : World} {h base : Nat} {r c : Int} {rv v' : Value} {t t' : Nat} {G : Nat → Int} (b : Bld w0 w h base r c rv t G) (hown : w'.ownsRow base 55 1 v' t' ((tab t' G).map (Value.int .u64))) (hg : w.grownBy w' rv.ownBlock) :
    Bld w0 (w'.setCell ⟨h, 2, none⟩ v') h base r c v' t' G := by
  have hne : rv.ownBlock ≠ some h := by
    rcases ownsRow_blk b.own b.box (by decide) with e | e
    · rw [e]; simp
    · exact e
  have hb := b.box.grown hg hne
  have hne2 : v'.ownBlock ≠ some h := by
    rcases ownsRow_blk hown hb (by decide) with e | e
    · rw [e]; simp
    · exact e
  exact ⟨hb.set_ 2 v', hown.kept (setCell_grown _ _ _) (.inr hne2), (b.ext.grown hg fun k e => Nat.le_trans b.hb (b.own.lt k e).1).setCell b.hh _, b.hb, b.hh⟩

set_option maxRecDepth 100000 in
set_option maxHeartbeats 800000 in
theorem r6Rows (v u : Value) (n c : Nat) (p xs : List Int) (w : World) (hv : Ints .i64 w v p) (hu : Ints .u64 w u xs) (hp : Ord n p) (hn : n ≤ 64) (hc : 1 ≤ c ∧ c ≤ 64) (hx : xs.length = n * c) :
    Calls Try.prog 26 #[v, matV n c u] w (RetM n c (rowsL p c xs) w) := by
  obtain ⟨i0, hi, hz0, hz1, hz2⟩ := info_parts info_u64p
  have Hp := hid hp; have Hx := hid hx
  obtain ⟨a, cap, rfl, k1, k2, k3⟩ := hv
  obtain ⟨a', cap', rfl, m1, m2, m3⟩ := hu
  have K3 := hid k3; have M3 := hid m3
  have el := hp.len
  rw [el] at k1 K3
  rw [el]
  obtain ⟨G, hG⟩ : ∃ G : Nat → Int, (fun t => xs.getD ((p.getD (t / c) 0).toNat * c + t % c) 0) = G := ⟨_, rfl⟩
  have HG := hid (fun t => (congrFun hG t : xs.getD ((p.getD (t / c) 0).toNat * c + t % c) 0 = G t))
  have hgrid : rowsL p c xs = tab (n * c) G := by rw [← hG, rowsL, el]; rfl
  rw [hgrid]
  obtain ⟨L, hL⟩ : ∃ L, xs.length = L := ⟨_, rfl⟩
  have HL := hid hL
  rw [hL] at m1 M3 Hx hx ⊢
  have hLb : L ≤ 4096 := by rw [hx]; exact Nat.mul_le_mul hn hc.2
  clear k3 m3 hp el hG hgrid hx hL
  unfold matV
  go_enter Try.func26, Try.ntmps26
  go_wp2_with fail
  have hA0 := (Blk.new w 25 #[.int .i64 (n : Int), .int .i64 (c : Int), .slice a' L cap']).ext (((Ext.refl _).alloc (.cells #[.int .i64 0, .int .i64 0, .slice none 0 0] 25)).alloc (.cells #[.int .i64 (n : Int), .int .i64 (c : Int), .slice none 0 0] 25))
  have hZ0 := (Blk.new (w.alloc (.cells #[.int .i64 (n : Int), .int .i64 (c : Int), .slice a' L cap'] 25)) 25 #[.int .i64 0, .int .i64 0, .slice none 0 0]).ext ((Ext.refl _).alloc (.cells #[.int .i64 (n : Int), .int .i64 (c : Int), .slice none 0 0] 25))
  have hO0 := Blk.new ((w.alloc (.cells #[.int .i64 (n : Int), .int .i64 (c : Int), .slice a' L cap'] 25)).alloc (.cells #[.int .i64 0, .int .i64 0, .slice none 0 0] 25)) 25 #[.int .i64 (n : Int), .int .i64 (c : Int), .slice none 0 0]
  have hx3 : Ext w (((w.alloc (.cells #[.int .i64 (n : Int), .int .i64 (c : Int), .slice a' L cap'] 25)).alloc (.cells #[.int .i64 0, .int .i64 0, .slice none 0 0] 25)).alloc (.cells #[.int .i64 (n : Int), .int .i64 (c : Int), .slice none 0 0] 25)) := (((Ext.refl w).alloc _).alloc _).alloc _
  obtain ⟨w3, hw3⟩ : ∃ w3, ((w.alloc (.cells #[.int .i64 (n : Int), .int .i64 (c : Int), .slice a' L cap'] 25)).alloc (.cells #[.int .i64 0, .int .i64 0, .slice none 0 0] 25)).alloc (.cells #[.int .i64 (n : Int), .int .i64 (c : Int), .slice none 0 0] 25) = w3 := ⟨_, rfl⟩
  obtain ⟨g1, hg1⟩ : ∃ g, w.heap.size = g := ⟨_, rfl⟩
  have e2 : (w.alloc (.cells #[.int .i64 (n : Int), .int .i64 (c : Int), .slice a' L cap'] 25)).heap.size = g1 + 1 := by rw [alloc_size, hg1]
  have e3 : ((w.alloc (.cells #[.int .i64 (n : Int), .int .i64 (c : Int), .slice a' L cap'] 25)).alloc (.cells #[.int .i64 0, .int .i64 0, .slice none 0 0] 25)).heap.size = g1 + 1 + 1 := by rw [alloc_size, alloc_size, hg1]
  rw [hw3, hg1] at hA0
  rw [hw3, e2] at hZ0
  rw [hw3, e3] at hO0
  rw [hw3] at hx3
  rw [hw3, hg1]
  obtain ⟨g2, hg2⟩ : ∃ g, g1 + 1 = g := ⟨_, rfl⟩
  obtain ⟨g3, hg3⟩ : ∃ g, g2 + 1 = g := ⟨_, rfl⟩
  rw [hg2] at hZ0 hO0
  rw [hg3] at hO0
  rw [hg2, hg3]
  have n13 : g1 ≠ g3 := by omega
  have n23 : g2 ≠ g3 := by omega
  have hw1 : w.heap.size ≤ g3 := by omega
  have hw2 : w.heap.size ≤ g2 := by omega
  clear hw3 e2 e3 hg1 hg2 hg3
  have HA0 := hid hA0; have HZ0 := hid hZ0
  have HB0 := hid (show Bld w w3 g3 w3.heap.size n c (.slice none 0 0) 0 G from ⟨hO0, World.ownsRow_nil _ _ _ _, hx3, hx3.size, hw1⟩)
  clear hA0 hZ0 hO0
  go_loopw [6] (fun iv wr => ∃ (i t : Nat) (rv : Value), iv = .int .i64 i ∧ i ≤ n ∧ Hid (t = i * c) ∧ Hid (Bld w wr g3 w3.heap.size n c rv t G) ∧ Hid (Blk wr g1 25 #[.int .i64 (n : Int), .int .i64 (c : Int), .slice a' L cap']) ∧ Hid (Blk wr g2 25 #[.int .i64 0, .int .i64 0, .slice none 0 0]) ∧ w3.heap.size ≤ wr.heap.size) (fun iv _ => n - (intOf iv).toNat)
  case atStart => exact ⟨0, 0, _, rfl, Nat.zero_le _, hid (by simp), HB0, HA0, HZ0, Nat.le_refl _⟩
  case round =>
    obtain ⟨i, t, rv, rfl, hi', ht, HB, HA, HZ, hsz⟩ := hrel
    rename World => wi
    by_cases hlt : i < n
    · obtain ⟨b, off, rfl, hb, hcell⟩ := K3.out (by omega)
      have g1c := (HB.out.ext.cells _ _ hb).trans (hcell i hlt)
      have hr := Hp.out.get hlt
      have hGt := hid (fun (j : Nat) (hj : j < c) => HG.out (i * c + j))
      obtain ⟨y, ey⟩ : ∃ y, p.getD i 0 = y := ⟨_, rfl⟩
      have Ey := hid ey
      rw [ey] at g1c hr
      obtain ⟨q, rfl⟩ := Int.eq_ofNat_of_zero_le hr.1
      have hqn : q < n := by omega
      have hle : q * c + c ≤ n * c := by rw [← Nat.succ_mul]; exact Nat.mul_le_mul_right _ hqn
      rw [← Hx.out] at hle
      obtain ⟨b', off', rfl, hb', hcell'⟩ := M3.out (by omega)
      have hlob : q * c ≤ 4096 := by omega
      have hlo : (q : Int) * (c : Int) = ((q * c : Nat) : Int) := by push_cast; rfl
      have hhi : ((q : Int) + 1) * (c : Int) = ((q * c + c : Nat) : Int) := by rw [Int.add_mul]; push_cast; omega
      have hdr : Ints .u64 wi (.slice (some ⟨b', off' + q * c, none⟩) c (cap' - q * c)) ((xs.drop (q * c)).take c) := by
        have h1 : Ints .u64 w (.slice (some ⟨b', off', none⟩) L cap') xs := ⟨_, cap', by rw [HL.out], by rw [HL.out]; exact m1, m2, fun _ => ⟨b', off', rfl, hb', fun j hj => hcell' j (by rw [← HL.out]; exact hj)⟩⟩
        exact (h1.sub (q * c) c (by rw [HL.out]; exact hle) (by omega)).ext HB.out.ext
      have happ := hid (show ((tab t G).map (Value.int .u64)) ++ ((xs.drop (q * c)).take c).map (Value.int .u64) = (tab (t + c) G).map (Value.int .u64) by
        rw [tab_add (l := (xs.drop (q * c)).take c) (by simp; have := HL.out; omega) (fun j hj => by
          have h := hGt.out j hj
          rw [at_div hj, at_mod hj, Ey.out, Int.toNat_natCast] at h
          rw [sub_get _ _ _ _ hj, h, ht.out]), List.map_append])
      obtain ⟨lo, hlo'⟩ : ∃ lo, q * c = lo := ⟨_, rfl⟩
      rw [hlo'] at hlo hhi hdr hle happ hlob
      obtain ⟨hi2, hhi'⟩ : ∃ h, lo + c = h := ⟨_, rfl⟩
      rw [hhi'] at hhi
      have hdr2 := hid hdr
      have hs := fun W => slice_run b' off' L cap' lo hi2 (by omega) (by omega) (by omega) W
      have hs' := fun W => slice_run' b' off' L cap' lo hi2 (by omega) (by omega) (by omega) W
      rw [show hi2 - lo = c by omega] at hs hs'
      obtain ⟨news, hnews⟩ : ∃ l, (xs.drop lo).take c = l := ⟨_, rfl⟩
      have hnl : news.length = c := by rw [← hnews]; simp; have := HL.out; omega
      rw [hnews] at hdr2 happ
      have htb : t + c ≤ 4096 := by
        have h1 : i * c + c ≤ n * c := by rw [← Nat.succ_mul]; exact Nat.mul_le_mul_right _ hlt
        have := ht.out
        have := Hx.out
        omega
      have Hnl := hid hnl
      obtain ⟨o0, o1, o2⟩ := HB.out.box.at3
      have of := HB.out.box.frozen 2
      obtain ⟨a0, a1, a2⟩ := HA.out.at3
      have hw1' : IntKind.i64.wrap (lo : Int) = (lo : Int) := IntWalk.i64_in _ (by omega)
      have hw2' : IntKind.i64.wrap (hi2 : Int) = (hi2 : Int) := IntWalk.i64_in _ (by omega)
      have hw3' : IntKind.i64.wrap ((q : Int) + 1) = (q : Int) + 1 := IntWalk.i64_in _ (by omega)
      have c0 : (0 : Int) ≤ (lo : Int) := by omega
      clear ey hcell hcell' hdr hlo' hnews hnl hGt hr hlob hle
      have HN := hid hdr2.out
      have Hown := hid (ownsRow_ext HB.out.own ((Ext.refl wi).drew))
      have Hsz := hid (show w3.heap.size ≤ wi.drew.heap.size from Nat.le_trans hsz (Ext.refl wi).drew.size)
      go_wp2_with fail
      refine wp_region_still_tail 20 (by kernel_rfl) (by kernel_rfl) ?_
      simp only [List.take_succ_cons, List.take_zero, List.drop_succ_cons, List.drop_zero]
      change wpStill _ _ wi.drew _ _ _
      iterate 20 still_step
      refine wpStill_nil ?_
      change wpList _ _ _ _ _ wi.drew
      go_wp2_with (first
        | (at_builtin; refine wpList_append_own _ rfl _ _ 23 rfl w3.heap.size 55 i0 (.int .u64 0) 1 8 Try.underlying23 hi hz0 hz1 hz2 rfl (by decide) _ _ _ rfl Hown.out ⟨b', off' + lo, none⟩ c (cap' - lo) (news.map (Value.int .u64)) rfl (by simp [Hnl.out]) (ints_news (HN.out.ext ((Ext.refl wi).drew))) ints_one (by simp only [maxLen]; omega) (by omega) Hsz.out ?_
           intro v6 w6 hown6 hgrow6 hat6
           have hb6 := (HB.out.ext' (Ext.refl wi).drew).box' hgrow6
           have o6 := hb6.1
           have f6 := hb6.2
           rw [happ.out] at hown6
           have Hown6 := hid hown6
           obtain ⟨a6, c6, rfl, q2, q3, q4, q5⟩ := WRow.of_owns hown6
           clear q5 q4 hown6 hb6)
        | fail)
      all_goals
        have e5 : Ext wi wi.drew := (Ext.refl wi).drew
        have hs5 := e5.size
        have hs6 := hgrow6.size
        have hB5 := HB.out.ext' e5
        go_wp2_with fail
        go_roundw
        case rel => exact ⟨i + 1, t + c, _, by go_num, by omega, hid (by rw [ht.out, Nat.succ_mul]), hid (hB5.more Hown6.out hgrow6), hid (hB5.other (HA.out.ext e5) (by decide) n13 hgrow6), hid (hB5.other (HZ.out.ext e5) (by decide) n23 hgrow6), by simp only [World.setCell, Array.size_modify]; omega⟩
        case measure => simp [intOf]; omega
    · obtain rfl : i = n := by omega
      obtain ⟨o0, o1, o2⟩ := HB.out.box.at3
      obtain ⟨z0, z1, z2⟩ := HZ.out.at3
      have zf0 := HZ.out.frozen 0
      have zf1 := HZ.out.frozen 1
      have zf2 := HZ.out.frozen 2
      obtain ⟨a6, c6, rfl, q2, q3, q4, q5⟩ := WRow.of_owns HB.out.own
      clear q5
      have hI := hid (own_set3 HB.out.own HZ.out (.int .i64 (i : Int)) (.int .i64 (c : Int)) (.slice a6 t c6))
      have hE := hid (((HB.out.ext.setCell (p := ⟨g2, 0, none⟩) hw2 (.int .i64 (i : Int))).setCell (p := ⟨g2, 1, none⟩) hw2 (.int .i64 (c : Int))).setCell (p := ⟨g2, 2, none⟩) hw2 (.slice a6 t c6))
      have htt := ht.out
      subst htt
      have hbk := ((HZ.out.set_ 0 (.int .i64 (i : Int))).set_ 1 (.int .i64 (c : Int))).set_ 2 (.slice a6 (i * c) c6)
      have hbk2 := hid (show Blk _ g2 25 #[.int .i64 (i : Int), .int .i64 (c : Int), .slice a6 (i * c) c6] from hbk)
      clear hbk
      go_wp2_with fail
      refine bodyPost_ret (results_cell_row rfl _ _ g2 25 #[.int .i64 (i : Int), .int .i64 (c : Int), .slice a6 (i * c) c6] (0, 0) _ rfl hbk2.out Try.underlying25 rfl (by kernel_rfl)) rfl ?_
      exact ⟨_, rfl, hI.out, hE.out⟩
end Go.Proofs.Ytalkbmnbggclpaa
