/- What the texts Mat3, Mat4, Ref07 show, in one text. -/
import Derived.Test.YtfpmcajndgkgeaaBun10
import Derived.Test.YtfpmcajndgkgeaaStep
import Derived.Deep.RegionLaw
import Derived.Test.YtfpmcajndgkgeaaBun14
import Derived.Deep.RegionHeld3
/- The document's own answers of layer 5 that make matrices: Turn, Mul. -/
namespace Go.Proofs.Ytfpmcajndgkgeaa
open Go.RowKit Go.Maps

theorem alloc_size (w : World) (o : Obj) : (w.alloc o).heap.size = w.heap.size + 1 := by simp
/-- what a call answers: a matrix -/
def RetM (r c : Int) (l : List Int) (w : World) (e : Ending) (w' : World) : Prop := ∃ u, e = .returned (matV r c u) ∧ Ints .u64 w' u l ∧ Ext w w'
theorem setCell_grown (w : World) (p : Addr) (u : Value) : w.grownBy (w.setCell p u) (some p.block) :=
  ⟨rfl, rfl, rfl, by simp [World.setCell], fun k _ hk => heap_setCell_other w p k u (fun e => hk (by rw [e]))⟩
theorem Blk.grown {w w' : World} {g : Nat} {t : TypeId} {cs : Array Value} {row : Option Nat} (h : Blk w g t cs) (hg : w.grownBy w' row) (hr : row ≠ some g) : Blk w' g t cs :=
  (hg.block g h.lt (fun e => hr e.symm)).trans h
/-- a matrix that is built: its box, and its cells so far -/
structure Bld (w0 w : World) (h base : Nat) (r c : Int) (rv : Value) (t : Nat) (G : Nat → Int) : Prop where
  box : Blk w h 25 #[.int .i64 r, .int .i64 c, rv]
  own : w.ownsRow base 22 1 rv t ((tab t G).map (Value.int .u64))
  ext : Ext w0 w
  hb : w0.heap.size ≤ base
  hh : w0.heap.size ≤ h
theorem Bld.ext' {w0 w w' : World} {h base : Nat} {r c : Int} {rv : Value} {t : Nat} {G : Nat → Int} (b : Bld w0 w h base r c rv t G) (y : Ext w w') : Bld w0 w' h base r c rv t G :=
  ⟨b.box.ext y, ownsRow_ext b.own y, b.ext.trans y, b.hb, b.hh⟩
/-- a number is appended, and the box told -/
theorem Bld.next {w0 w w' : World} {h base : Nat} {r c : Int} {rv v' : Value} {t : Nat} {G : Nat → Int} (b : Bld w0 w h base r c rv t G) (hown : w'.ownsRow base 22 1 v' (t + 1) ((tab (t + 1) G).map (Value.int .u64))) (hg : w.grownBy w' rv.ownBlock) :
    Bld w0 (w'.setCell ⟨h, 2, none⟩ v') h base r c v' (t + 1) G := by
  have hne : rv.ownBlock ≠ some h := by
    rcases ownsRow_blk b.own b.box (by decide) with e | e
    · rw [e]; simp
    · exact e
  have hb := b.box.grown hg hne
  have hne2 : v'.ownBlock ≠ some h := by
    rcases ownsRow_blk hown hb (by decide) with e | e
    · rw [e]; simp
    · exact e
  exact ⟨hb.set_ 2 v', hown.kept (setCell_grown _ _ _) (.inr hne2), (b.ext.grown hg fun k e => Nat.le_trans b.hb (b.own.lt k e).1).setCell b.hh _, b.hb, b.hh⟩
theorem Bld.box' {w0 w w' : World} {h base : Nat} {r c : Int} {rv : Value} {t : Nat} {G : Nat → Int} (b : Bld w0 w h base r c rv t G) (hg : w.grownBy w' rv.ownBlock) : w'.cell? ⟨h, 2, none⟩ = some rv ∧ w'.frozen? ⟨h, 2, none⟩ = false := by
  have hne : rv.ownBlock ≠ some h := by
    rcases ownsRow_blk b.own b.box (by decide) with e | e
    · rw [e]; simp
    · exact e
  exact ⟨(b.box.grown hg hne).cell 2, (b.box.grown hg hne).frozen 2⟩
theorem own_set {w : World} {base g n : Nat} {v : Value} {xs : List Value} {ty : TypeId} {cs : Array Value} (h : w.ownsRow base 22 1 v n xs) (hB : Blk w g ty cs) (hty : 22 ≠ ty) (i : Nat) (u : Value) : (w.setCell ⟨g, i, none⟩ u).ownsRow base 22 1 v n xs :=
  h.kept (setCell_grown _ _ _) (ownsRow_blk h hB hty)
theorem own_ints {w : World} {base n : Nat} {v : Value} {xs : List Int} (h : w.ownsRow base 22 1 v n (xs.map (Value.int .u64))) : Ints .u64 w v xs := by
  obtain ⟨a, c, rfl, h1, h2, h3, h4⟩ := WRow.of_owns h
  rcases Nat.eq_zero_or_pos n with h0 | h0
  · exact ⟨a, c, by rw [h3], by omega, h2, fun h => by omega⟩
  · obtain ⟨g4, rfl, hg4, hw4⟩ := h4 h0
    exact hw4.ints' h3 h1 h2
/-- a box is told its three cells -/
theorem own_set3 {w : World} {base g n : Nat} {v : Value} {xs : List Int} {cs : Array Value} (h : w.ownsRow base 22 1 v n (xs.map (Value.int .u64))) (hB : Blk w g 25 cs) (a b c : Value) :
    Ints .u64 (((w.setCell ⟨g, 0, none⟩ a).setCell ⟨g, 1, none⟩ b).setCell ⟨g, 2, none⟩ c) v xs :=
  own_ints (own_set (own_set (own_set h hB (by decide) 0 a) (hB.set_ 0 a) (by decide) 1 b) ((hB.set_ 0 a).set_ 1 b) (by decide) 2 c)
/-- other boxes stay -/
theorem Bld.other {w0 w w' : World} {h base g : Nat} {r c : Int} {rv v' : Value} {t : Nat} {G : Nat → Int} {ty : TypeId} {cs : Array Value} (b : Bld w0 w h base r c rv t G) (hB : Blk w g ty cs) (hty : 22 ≠ ty) (hgh : g ≠ h) (hg : w.grownBy w' rv.ownBlock) :
    Blk (w'.setCell ⟨h, 2, none⟩ v') g ty cs := by
  have hne : rv.ownBlock ≠ some g := by
    rcases ownsRow_blk b.own hB hty with e | e
    · rw [e]; simp
    · exact e
  exact (hB.grown hg hne).grown (setCell_grown _ _ _) (fun e => hgh (by injection e with e; exact e.symm))
theorem Blk.at3 {w : World} {g : Nat} {t : TypeId} {a b c : Value} (h : Blk w g t #[a, b, c]) : w.cell? ⟨g, 0, none⟩ = some a ∧ w.cell? ⟨g, 1, none⟩ = some b ∧ w.cell? ⟨g, 2, none⟩ = some c :=
  ⟨h.cell 0, h.cell 1, h.cell 2⟩

set_option maxRecDepth 100000 in
set_option maxHeartbeats 2000000 in
theorem rmTurn (m n : Nat) (v : Value) (xs : List Int) (w : World) (hv : Ints .u64 w v xs) (hm : m ≤ 64) (hn : n ≤ 64) (hxl : xs.length = m * n) :
    Calls Try.prog 68 #[matV m n v] w (RetM n m (grid n m fun k i => xs.getD (i * n + k) 0) w) := by
  obtain ⟨i0, hi, hz0, hz1, hz2⟩ := info_parts info_u64p
  have Hv := hid hv; have Hxl := hid hxl
  obtain ⟨a, cap, rfl, k1, k2, k3⟩ := hv
  clear k3 hxl
  obtain ⟨G, hG⟩ : ∃ G : Nat → Int, (fun t => xs.getD ((t % m) * n + t / m) 0) = G := ⟨_, rfl⟩
  have HG := hid (fun t => (congrFun hG t : xs.getD ((t % m) * n + t / m) 0 = G t))
  have hgrid : grid n m (fun k i => xs.getD (i * n + k) 0) = tab (n * m) G := by rw [← hG]; rfl
  rw [hgrid]
  clear hG hgrid
  unfold matV
  go_enter Try.func68, Try.ntmps68
  go_wp2_with fail
  have hA0 := (Blk.new w 25 #[.int .i64 (m : Int), .int .i64 (n : Int), .slice a xs.length cap]).ext (((Ext.refl _).alloc (.cells #[.int .i64 0, .int .i64 0, .slice none 0 0] 25)).alloc (.cells #[.int .i64 (n : Int), .int .i64 (m : Int), .slice none 0 0] 25))
  have hZ0 := (Blk.new (w.alloc (.cells #[.int .i64 (m : Int), .int .i64 (n : Int), .slice a xs.length cap] 25)) 25 #[.int .i64 0, .int .i64 0, .slice none 0 0]).ext ((Ext.refl _).alloc (.cells #[.int .i64 (n : Int), .int .i64 (m : Int), .slice none 0 0] 25))
  have hO0 := Blk.new ((w.alloc (.cells #[.int .i64 (m : Int), .int .i64 (n : Int), .slice a xs.length cap] 25)).alloc (.cells #[.int .i64 0, .int .i64 0, .slice none 0 0] 25)) 25 #[.int .i64 (n : Int), .int .i64 (m : Int), .slice none 0 0]
  have hx3 : Ext w (((w.alloc (.cells #[.int .i64 (m : Int), .int .i64 (n : Int), .slice a xs.length cap] 25)).alloc (.cells #[.int .i64 0, .int .i64 0, .slice none 0 0] 25)).alloc (.cells #[.int .i64 (n : Int), .int .i64 (m : Int), .slice none 0 0] 25)) := (((Ext.refl w).alloc _).alloc _).alloc _
  obtain ⟨w3, hw3⟩ : ∃ w3, ((w.alloc (.cells #[.int .i64 (m : Int), .int .i64 (n : Int), .slice a xs.length cap] 25)).alloc (.cells #[.int .i64 0, .int .i64 0, .slice none 0 0] 25)).alloc (.cells #[.int .i64 (n : Int), .int .i64 (m : Int), .slice none 0 0] 25) = w3 := ⟨_, rfl⟩
  obtain ⟨g1, hg1⟩ : ∃ g, w.heap.size = g := ⟨_, rfl⟩
  have e2 : (w.alloc (.cells #[.int .i64 (m : Int), .int .i64 (n : Int), .slice a xs.length cap] 25)).heap.size = g1 + 1 := by rw [alloc_size, hg1]
  have e3 : ((w.alloc (.cells #[.int .i64 (m : Int), .int .i64 (n : Int), .slice a xs.length cap] 25)).alloc (.cells #[.int .i64 0, .int .i64 0, .slice none 0 0] 25)).heap.size = g1 + 1 + 1 := by rw [alloc_size, alloc_size, hg1]
  rw [hw3, hg1] at hA0
  rw [hw3, e2] at hZ0
  rw [hw3, e3] at hO0
  rw [hw3] at hx3
  rw [hw3, hg1]
  obtain ⟨g2, hg2⟩ : ∃ g, g1 + 1 = g := ⟨_, rfl⟩
  obtain ⟨g3, hg3⟩ : ∃ g, g2 + 1 = g := ⟨_, rfl⟩
  rw [hg2] at hZ0 hO0
  rw [hg3] at hO0
  rw [hg2, hg3]
  have n13 : g1 ≠ g3 := by omega
  have n23 : g2 ≠ g3 := by omega
  have hw1 : w.heap.size ≤ g3 := by omega
  have hw2 : w.heap.size ≤ g2 := by omega
  clear hw3 e2 e3 hg1 hg2 hg3
  have HA0 := hid hA0; have HZ0 := hid hZ0
  have HB0 := hid (show Bld w w3 g3 w3.heap.size n m (.slice none 0 0) 0 G from ⟨hO0, World.ownsRow_nil _ _ _ _, hx3, hx3.size, hw1⟩)
  clear hA0 hZ0 hO0
  go_loopw [4] (fun iv wr => ∃ (i t : Nat) (rv : Value), iv = .int .i64 i ∧ i ≤ n ∧ Hid (t = i * m) ∧ Hid (Bld w wr g3 w3.heap.size n m rv t G) ∧ Hid (Blk wr g1 25 #[.int .i64 (m : Int), .int .i64 (n : Int), .slice a xs.length cap]) ∧ Hid (Blk wr g2 25 #[.int .i64 0, .int .i64 0, .slice none 0 0]) ∧ w3.heap.size ≤ wr.heap.size) (fun iv _ => n - (intOf iv).toNat)
  case atStart => exact ⟨0, 0, _, rfl, Nat.zero_le _, hid (by simp), HB0, HA0, HZ0, Nat.le_refl _⟩
  case round =>
    obtain ⟨i, t, rv, rfl, hi', ht, HB, HA, HZ, hsz⟩ := hrel
    obtain ⟨b0, b1, b2⟩ := HA.out.at3
    by_cases hlt : i < n
    · go_wp2_with fail
      go_loopw [5] (fun kv wr => ∃ (k t : Nat) (rv : Value), kv = .int .i64 k ∧ k ≤ m ∧ Hid (t = i * m + k) ∧ Hid (Bld w wr g3 w3.heap.size n m rv t G) ∧ Hid (Blk wr g1 25 #[.int .i64 (m : Int), .int .i64 (n : Int), .slice a xs.length cap]) ∧ Hid (Blk wr g2 25 #[.int .i64 0, .int .i64 0, .slice none 0 0]) ∧ w3.heap.size ≤ wr.heap.size) (fun kv _ => m - (intOf kv).toNat)
      case atStart => exact ⟨0, t, rv, rfl, Nat.zero_le _, ht, HB, HA, HZ, hsz⟩
      case round =>
        clear b0 b1 b2 HB HA HZ hsz ht
        obtain ⟨k, t, rv, rfl, hk, ht, HB, HA, HZ, hsz⟩ := hrel
        rename World => wi
        obtain ⟨b0, b1, b2⟩ := HA.out.at3
        by_cases hlk : k < m
        · have hat := at_lt (r := m) hlk hlt
          have hA := hid (fun (W : World) (hW : Ext wi W) => rmAt (m : Int) (n : Int) (.slice a xs.length cap) xs k i n W (Hv.out.ext (HB.out.ext.trans hW)) rfl (by omega) (by omega) (by omega) (by rw [Hxl.out]; exact hat))
          obtain ⟨y, ey⟩ : ∃ y, xs.getD (k * n + i) 0 = y := ⟨_, rfl⟩
          rw [ey] at hA
          have hGt : G t = y := by rw [← HG.out t, ht.out, at_mod hlk, at_div hlk, ey]
          have happ := hid (show ((tab t G).map (Value.int .u64)) ++ [Value.int .u64 y] = (tab (t + 1) G).map (Value.int .u64) by rw [tab_succ, List.map_append, hGt]; rfl)
          have htb : t ≤ 4096 := by
            have h1 := at_lt (r := n) hlt hlk
            have h2 := Nat.mul_le_mul hn hm
            have := ht.out
            omega
          obtain ⟨o0, o1, o2⟩ := HB.out.box.at3
          have of := HB.out.box.frozen 2
          clear ey hGt hat
          unfold matV at hA
          go_wp2_with fail
          go_region_law (first
            | (refine step_append_at _ rfl (.tmp 24) (.tmp 29) 23 rfl w3.heap.size 22 i0 (.int .u64 0) 1 8 Try.underlying23 hi hz0 hz1 hz2 rfl (by decide) rv t ((tab t G).map (Value.int .u64)) (by simp [Act.eval]) (ownsRow_ext HB.out.own ((((Ext.refl wi).drew).trans x5).alloc _)) ⟨w5.heap.size, 0, none⟩ 1 1 [.int .u64 y] (by simp [Act.eval]) rfl (cells_new _ _ _ (by simp)) (by simp [Value.oneCell']) (by simp only [maxLen]; omega) (by omega) (by have := x5.size; simp at this ⊢; omega) ?_
               intro v6 w6 hown6 hgrow6 hat6
               have hb6 := (HB.out.ext' ((((Ext.refl wi).drew).trans x5).alloc (.cells #[.int .u64 y] 22))).box' hgrow6
               have o6 := hb6.1
               have f6 := hb6.2
               rw [happ.out] at hown6
               have Hown6 := hid hown6
               obtain ⟨a6, c6, rfl, q2, q3, q4, q5⟩ := WRow.of_owns hown6
               clear q5 q4 hown6 hb6)
            | (go_simp; go_at_call 33; refine (hA.out _ ((Ext.refl wi).drew)).mono ?_; rintro _ w5 ⟨rfl, x5⟩
               obtain ⟨p0, p1, p2⟩ := (HB.out.box.ext (((Ext.refl wi).drew).trans x5)).at3
               obtain ⟨r0, r1, r2⟩ := (HA.out.ext (((Ext.refl wi).drew).trans x5)).at3
               obtain ⟨s0, s1, s2⟩ := (HB.out.box.ext ((((Ext.refl wi).drew).trans x5).alloc (.cells #[.int .u64 y] 22))).at3))
          all_goals
            have e5 : Ext wi (w5.alloc (.cells #[.int .u64 y] 22)) := ((((Ext.refl wi).drew).trans x5).alloc _)
            have hs5 := e5.size
            have hs6 := hgrow6.size
            have hB5 := HB.out.ext' e5
            go_wp2_with fail
            go_roundw
            case rel => exact ⟨k + 1, t + 1, _, by go_num, by omega, hid (by rw [ht.out]; omega), hid (hB5.next Hown6.out hgrow6), hid (hB5.other (HA.out.ext e5) (by decide) n13 hgrow6), hid (hB5.other (HZ.out.ext e5) (by decide) n23 hgrow6), by simp only [World.setCell, Array.size_modify]; omega⟩
            case measure => simp [intOf]; omega
        · obtain rfl : k = m := by omega
          go_wp2_with fail
          go_roundw
          case rel => exact ⟨i + 1, t, rv, by go_num, by omega, hid (by rw [ht.out, Nat.succ_mul]), HB, HA, HZ, hsz⟩
          case measure => simp [intOf]; omega
    · obtain rfl : i = n := by omega
      obtain ⟨o0, o1, o2⟩ := HB.out.box.at3
      obtain ⟨z0, z1, z2⟩ := HZ.out.at3
      have zf0 := HZ.out.frozen 0
      have zf1 := HZ.out.frozen 1
      have zf2 := HZ.out.frozen 2
      obtain ⟨a6, c6, rfl, q2, q3, q4, q5⟩ := WRow.of_owns HB.out.own
      clear q5
      have hI := hid (own_set3 HB.out.own HZ.out (.int .i64 (i : Int)) (.int .i64 (m : Int)) (.slice a6 t c6))
      have hE := hid (((HB.out.ext.setCell (p := ⟨g2, 0, none⟩) hw2 (.int .i64 (i : Int))).setCell (p := ⟨g2, 1, none⟩) hw2 (.int .i64 (m : Int))).setCell (p := ⟨g2, 2, none⟩) hw2 (.slice a6 t c6))
      have htt := ht.out
      subst htt
      have hbk := ((HZ.out.set_ 0 (.int .i64 (i : Int))).set_ 1 (.int .i64 (m : Int))).set_ 2 (.slice a6 (i * m) c6)
      have hbk2 := hid (show Blk _ g2 25 #[.int .i64 (i : Int), .int .i64 (m : Int), .slice a6 (i * m) c6] from hbk)
      clear hbk
      go_wp2_with fail
      refine bodyPost_ret (results_cell_row rfl _ _ g2 25 #[.int .i64 (i : Int), .int .i64 (m : Int), .slice a6 (i * m) c6] (0, 0) _ rfl hbk2.out Try.underlying25 rfl (by kernel_rfl)) rfl ?_
      exact ⟨_, rfl, hI.out, hE.out⟩
end Go.Proofs.Ytfpmcajndgkgeaa
/- The document's own answer of layer 5 to a product of matrices: Mul. -/
namespace Go.Proofs.Ytfpmcajndgkgeaa
open Go.RowKit Go.Maps

/-- four boxes, one behind the other -/
theorem boxes4 (w : World) (t : TypeId) (A B C D : Array Value) :
    Blk ((((w.alloc (.cells A t)).alloc (.cells B t)).alloc (.cells C t)).alloc (.cells D t)) w.heap.size t A ∧ Blk ((((w.alloc (.cells A t)).alloc (.cells B t)).alloc (.cells C t)).alloc (.cells D t)) (w.heap.size + 1) t B ∧
    Blk ((((w.alloc (.cells A t)).alloc (.cells B t)).alloc (.cells C t)).alloc (.cells D t)) (w.heap.size + 1 + 1) t C ∧ Blk ((((w.alloc (.cells A t)).alloc (.cells B t)).alloc (.cells C t)).alloc (.cells D t)) (w.heap.size + 1 + 1 + 1) t D ∧
    Ext w ((((w.alloc (.cells A t)).alloc (.cells B t)).alloc (.cells C t)).alloc (.cells D t)) :=
  ⟨(Blk.new w t A).ext ((((Ext.refl _).alloc _).alloc _).alloc _), (Blk.at_ (by rw [alloc_size])).ext (((Ext.refl _).alloc _).alloc _), (Blk.at_ (by rw [alloc_size, alloc_size])).ext ((Ext.refl _).alloc _), Blk.at_ (by rw [alloc_size, alloc_size, alloc_size]), ((((Ext.refl w).alloc _).alloc _).alloc _).alloc _⟩
/-- a call's own world, by its boxes alone -/
theorem at_name {α : Type} (x : α) : ∃ y, x = y := ⟨_, rfl⟩

set_option maxRecDepth 100000 in
set_option maxHeartbeats 4000000 in
theorem rmMul (p : Int) (m n q : Nat) (v u : Value) (xs ys : List Int) (w : World) (hp : rightB p = true) (hv : Ints .u64 w v xs) (hu : Ints .u64 w u ys) (hx : Rng p xs) (hy : Rng p ys) (hm : m ≤ 64) (hn : n ≤ 64) (hq : q ≤ 64) (hxl : xs.length = m * n) (hyl : ys.length = n * q) :
    Calls Try.prog 125 #[.int .u64 p, matV m n v, matV n q u] w (RetM m q (grid m q fun i k => dv p n (fun j => xs.getD (i * n + j) 0) fun j => ys.getD (j * q + k) 0) w) := by
  have hp2 := rightB_true hp
  obtain ⟨i0, hi, hz0, hz1, hz2⟩ := info_parts info_u64p
  have Hp := hid hp; have Hx := hid hx; have Hy := hid hy; have Hv := hid hv; have Hu := hid hu; have Hxl := hid hxl; have Hyl := hid hyl
  obtain ⟨a, cap, rfl, k1, k2, k3⟩ := hv
  obtain ⟨a', cap', rfl, m1, m2, m3⟩ := hu
  clear k3 m3 hxl hyl hp hx hy
  obtain ⟨G, hG⟩ : ∃ G : Nat → Int, (fun t => dv p n (fun j => xs.getD (t / q * n + j) 0) fun j => ys.getD (j * q + t % q) 0) = G := ⟨_, rfl⟩
  have HG := hid (fun t => (congrFun hG t : dv p n (fun j => xs.getD (t / q * n + j) 0) (fun j => ys.getD (j * q + t % q) 0) = G t))
  have hgrid : grid m q (fun i k => dv p n (fun j => xs.getD (i * n + j) 0) fun j => ys.getD (j * q + k) 0) = tab (m * q) G := by rw [← hG]; rfl
  rw [hgrid]
  clear hG hgrid
  unfold matV
  have HB := hid (boxes4 w 25 #[.int .i64 (m : Int), .int .i64 (n : Int), .slice a xs.length cap] #[.int .i64 (n : Int), .int .i64 (q : Int), .slice a' ys.length cap'] #[.int .i64 0, .int .i64 0, .slice none 0 0] #[.int .i64 (m : Int), .int .i64 (q : Int), .slice none 0 0])
  go_enter Try.func125, Try.ntmps125
  go_wp2_with fail
  have hb := HB.out
  obtain ⟨w4, hw4⟩ := at_name ((((w.alloc (.cells #[.int .i64 (m : Int), .int .i64 (n : Int), .slice a xs.length cap] 25)).alloc (.cells #[.int .i64 (n : Int), .int .i64 (q : Int), .slice a' ys.length cap'] 25)).alloc (.cells #[.int .i64 0, .int .i64 0, .slice none 0 0] 25)).alloc (.cells #[.int .i64 (m : Int), .int .i64 (q : Int), .slice none 0 0] 25))
  rw [hw4] at hb
  rw [hw4]
  obtain ⟨g1, hg1⟩ := at_name w.heap.size
  rw [hg1] at hb
  rw [hg1]
  obtain ⟨g2, hg2⟩ := at_name (g1 + 1)
  rw [hg2] at hb
  rw [hg2]
  obtain ⟨g3, hg3⟩ := at_name (g2 + 1)
  rw [hg3] at hb
  rw [hg3]
  obtain ⟨g4, hg4⟩ := at_name (g3 + 1)
  rw [hg4] at hb
  rw [hg4]
  obtain ⟨hA0, hB0, hZ0, hO0, hx4⟩ := hb
  have n14 : g1 ≠ g4 := by omega
  have n24 : g2 ≠ g4 := by omega
  have n34 : g3 ≠ g4 := by omega
  have hw0 : w.heap.size ≤ g4 := by omega
  have hw3 : w.heap.size ≤ g3 := by omega
  clear hw4 hg1 hg2 hg3 hg4 HB
  have HA0 := hid hA0; have HB0 := hid hB0; have HZ0 := hid hZ0
  have HO0 := hid (show Bld w w4 g4 w4.heap.size m q (.slice none 0 0) 0 G from ⟨hO0, World.ownsRow_nil _ _ _ _, hx4, hx4.size, hw0⟩)
  clear hA0 hB0 hZ0 hO0
  go_loopw [8] (fun iv wr => ∃ (i t : Nat) (rv : Value), iv = .int .i64 i ∧ i ≤ m ∧ Hid (t = i * q) ∧ Hid (Bld w wr g4 w4.heap.size m q rv t G) ∧ Hid (Blk wr g1 25 #[.int .i64 (m : Int), .int .i64 (n : Int), .slice a xs.length cap]) ∧ Hid (Blk wr g2 25 #[.int .i64 (n : Int), .int .i64 (q : Int), .slice a' ys.length cap']) ∧ Hid (Blk wr g3 25 #[.int .i64 0, .int .i64 0, .slice none 0 0]) ∧ w4.heap.size ≤ wr.heap.size) (fun iv _ => m - (intOf iv).toNat)
  case atStart => exact ⟨0, 0, _, rfl, Nat.zero_le _, hid (by simp), HO0, HA0, HB0, HZ0, Nat.le_refl _⟩
  case round =>
    obtain ⟨i, t, rv, rfl, hi', ht, HO, HA, HB, HZ, hsz⟩ := hrel
    obtain ⟨b0, b1, b2⟩ := HA.out.at3
    by_cases hlt : i < m
    · go_wp2_with fail
      go_loopw [9] (fun kv wr => ∃ (k t : Nat) (rv : Value), kv = .int .i64 k ∧ k ≤ q ∧ Hid (t = i * q + k) ∧ Hid (Bld w wr g4 w4.heap.size m q rv t G) ∧ Hid (Blk wr g1 25 #[.int .i64 (m : Int), .int .i64 (n : Int), .slice a xs.length cap]) ∧ Hid (Blk wr g2 25 #[.int .i64 (n : Int), .int .i64 (q : Int), .slice a' ys.length cap']) ∧ Hid (Blk wr g3 25 #[.int .i64 0, .int .i64 0, .slice none 0 0]) ∧ w4.heap.size ≤ wr.heap.size) (fun kv _ => q - (intOf kv).toNat)
      case atStart => exact ⟨0, t, rv, rfl, Nat.zero_le _, ht, HO, HA, HB, HZ, hsz⟩
      case round =>
        clear b0 b1 b2 HO HA HB HZ hsz ht
        obtain ⟨k, t, rv, rfl, hk, ht, HO, HA, HB, HZ, hsz⟩ := hrel
        rename World => wo
        obtain ⟨c0, c1, c2⟩ := HB.out.at3
        by_cases hlk : k < q
        · go_wp2_with fail
          go_loopw [11, 10] (fun jv zv wr => ∃ (j : Nat) (z : Int), jv = .int .i64 j ∧ zv = .int .u64 z ∧ j ≤ n ∧ 0 ≤ z ∧ z < p ∧ Hid (z = dv p j (fun j => xs.getD (i * n + j) 0) fun j => ys.getD (j * q + k) 0) ∧ Ext wo wr) (fun jv _ _ => n - (intOf jv).toNat)
          case atStart => exact ⟨0, 0, rfl, rfl, Nat.zero_le _, by omega, by omega, hid (by rw [dv_zero]), Ext.refl _⟩
          case round =>
            clear c0 c1 c2
            obtain ⟨j, z, rfl, rfl, hj, z0, z1, hz, hxi⟩ := hrel
            rename World => wi
            obtain ⟨b0, b1, b2⟩ := (HA.out.ext hxi).at3
            obtain ⟨c0, c1, c2⟩ := (HB.out.ext hxi).at3
            by_cases hlj : j < n
            · have hat1 := at_lt (r := m) hlt hlj
              have hat2 := at_lt (r := n) hlj hlk
              have rx := Hx.out.getD hp2.1 (i * n + j)
              have ry := Hy.out.getD hp2.1 (j * q + k)
              have hds := dv_succ (p := p) j (fun j => xs.getD (i * n + j) 0) (fun j => ys.getD (j * q + k) 0)
              have hA := fun (W : World) (hW : Ext wi W) => rmAt (m : Int) (n : Int) (.slice a xs.length cap) xs i j n W (Hv.out.ext (HO.out.ext.trans (hxi.trans hW))) rfl (by omega) (by omega) (by omega) (by rw [Hxl.out]; exact hat1)
              have hB := fun (W : World) (hW : Ext wi W) => rmAt (n : Int) (q : Int) (.slice a' ys.length cap') ys j k q W (Hu.out.ext (HO.out.ext.trans (hxi.trans hW))) rfl (by omega) (by omega) (by omega) (by rw [Hyl.out]; exact hat2)
              obtain ⟨x, ex⟩ : ∃ x, xs.getD (i * n + j) 0 = x := ⟨_, rfl⟩
              obtain ⟨y, ey⟩ : ∃ y, ys.getD (j * q + k) 0 = y := ⟨_, rfl⟩
              simp only [ex, ey] at hds
              rw [ex] at rx hA; rw [ey] at ry hB
              rw [← hz.out] at hds
              obtain ⟨r, er, r0, r1⟩ := name_mod (p := p) (x * y) hp2.1
              obtain ⟨z', ez', z'0, z'1⟩ := name_mod (p := p) (z + r) hp2.1
              rw [er, ez'] at hds
              have Er := hid er; have Ez := hid ez'; have Hds := hid hds.symm
              unfold matV at hA hB
              have HA' := hid hA; have HB' := hid hB
              have fs := hid (fun (W : World) (hW : Ext wi W) => And.intro (((HA.out.ext hxi).ext hW).at3) (((HB.out.ext hxi).ext hW).at3))
              clear ex ey er ez' hds hz hat1 hat2 hA hB
              go_wp2_with fail
              go_region_held3 (fun w' => (w'.cell? ⟨g1, 0, none⟩ = some (.int .i64 (m : Int)) ∧ w'.cell? ⟨g1, 1, none⟩ = some (.int .i64 (n : Int)) ∧ w'.cell? ⟨g1, 2, none⟩ = some (.slice a xs.length cap)) ∧ w'.cell? ⟨g2, 0, none⟩ = some (.int .i64 (n : Int)) ∧ w'.cell? ⟨g2, 1, none⟩ = some (.int .i64 (q : Int)) ∧ w'.cell? ⟨g2, 2, none⟩ = some (.slice a' ys.length cap')) (first | assumption | exact fs.out _ ((Ext.refl wi).drew) | exact fs.out _ (by assumption))
                ((first
                  | (go_at_call_of 33 a; refine (HA'.out _ (by first | exact (Ext.refl wi).drew | assumption)).mono ?_; rintro _ w5 ⟨rfl, x5⟩; have y5 : Ext wi w5 := Ext.trans (by first | exact (Ext.refl wi).drew | assumption) x5)
                  | (go_at_call_of 33 a'; refine (HB'.out _ (by first | exact (Ext.refl wi).drew | assumption)).mono ?_; rintro _ w6 ⟨rfl, x6⟩; have y6 : Ext wi w6 := Ext.trans (by first | exact (Ext.refl wi).drew | assumption) x6)
                  | (go_at_call 86; refine (rMul p x y r _ Hp.out rx.1 rx.2 ry.1 (by omega) Er.out).mono ?_; rintro _ _ ⟨rfl, rfl⟩)
                  | (go_at_call 85; refine (rAdd p z r z' _ Hp.out z0 z1 r0 r1 Ez.out).mono ?_; rintro _ _ ⟨rfl, rfl⟩)))
              go_wp2_with fail
              go_roundw
              case rel => exact ⟨j + 1, z', by go_num, rfl, by omega, z'0, z'1, Hds, hxi.trans y6⟩
              case measure => simp [intOf]; omega
            · obtain rfl : j = n := by omega
              have hGt : G t = z := by rw [← HG.out t, ht.out, at_mod hlk, at_div hlk, hz.out]
              have happ := hid (show ((tab t G).map (Value.int .u64)) ++ [Value.int .u64 z] = (tab (t + 1) G).map (Value.int .u64) by rw [tab_succ, List.map_append, hGt]; rfl)
              have htb : t ≤ 4096 := by
                have h1 := at_lt (r := m) hlt hlk
                have h2 := Nat.mul_le_mul hm hq
                have := ht.out
                omega
              have hOi := HO.out.ext' hxi
              obtain ⟨o0, o1, o2⟩ := hOi.box.at3
              have hsi := hxi.size
              have e5 : Ext wo (wi.alloc (.cells #[.int .u64 z] 22)) := hxi.alloc _
              have hB5 := HO.out.ext' e5
              have hs5 := e5.size
              have Hown := hid hOi.own
              clear hGt hOi
              go_wp2_with (first | (at_builtin; refine wpList_append_own _ rfl _ _ 23 rfl w4.heap.size 22 i0 (.int .u64 0) 1 8 Try.underlying23 hi hz0 hz1 hz2 rfl (by decide) rv t _ rfl (Hown.out.alloc _) ⟨wi.heap.size, 0, none⟩ 1 1 [.int .u64 z] rfl rfl (cells_new _ _ _ (by simp)) (by simp [Value.oneCell']) (by simp only [maxLen]; omega) (by omega) (by simp; omega) ?_; intro v6 w6 hown6 hgrow6 hnil6; have hb6 := hB5.box' hgrow6; have o6 := hb6.1; have f6 := hb6.2; rw [happ.out] at hown6; have Hown6 := hid hown6; obtain ⟨a6, c6, rfl, q2, q3, q4, q5⟩ := WRow.of_owns hown6; clear q5 q4 hown6 hb6) | fail)
              have hs6 := hgrow6.size
              go_roundw
              case rel => exact ⟨k + 1, t + 1, _, by go_num, by omega, hid (by rw [ht.out]; omega), hid (hB5.next Hown6.out hgrow6), hid (hB5.other (HA.out.ext e5) (by decide) n14 hgrow6), hid (hB5.other (HB.out.ext e5) (by decide) n24 hgrow6), hid (hB5.other (HZ.out.ext e5) (by decide) n34 hgrow6), by simp only [World.setCell, Array.size_modify]; omega⟩
              case measure => simp [intOf]; omega
        · obtain rfl : k = q := by omega
          go_wp2_with fail
          go_roundw
          case rel => exact ⟨i + 1, t, rv, by go_num, by omega, hid (by rw [ht.out, Nat.succ_mul]), HO, HA, HB, HZ, hsz⟩
          case measure => simp [intOf]; omega
    · obtain rfl : i = m := by omega
      obtain ⟨o0, o1, o2⟩ := HO.out.box.at3
      obtain ⟨z0, z1, z2⟩ := HZ.out.at3
      have zf0 := HZ.out.frozen 0
      have zf1 := HZ.out.frozen 1
      have zf2 := HZ.out.frozen 2
      obtain ⟨a6, c6, rfl, q2, q3, q4, q5⟩ := WRow.of_owns HO.out.own
      clear q5
      have hI := hid (own_set3 HO.out.own HZ.out (.int .i64 (i : Int)) (.int .i64 (q : Int)) (.slice a6 t c6))
      have hE := hid (((HO.out.ext.setCell (p := ⟨g3, 0, none⟩) hw3 (.int .i64 (i : Int))).setCell (p := ⟨g3, 1, none⟩) hw3 (.int .i64 (q : Int))).setCell (p := ⟨g3, 2, none⟩) hw3 (.slice a6 t c6))
      have htt := ht.out
      subst htt
      have hbk2 := hid (show Blk _ g3 25 #[.int .i64 (i : Int), .int .i64 (q : Int), .slice a6 (i * q) c6] from ((HZ.out.set_ 0 (.int .i64 (i : Int))).set_ 1 (.int .i64 (q : Int))).set_ 2 (.slice a6 (i * q) c6))
      go_wp2_with fail
      refine bodyPost_ret (results_cell_row rfl _ _ g3 25 #[.int .i64 (i : Int), .int .i64 (q : Int), .slice a6 (i * q) c6] (0, 0) _ rfl hbk2.out Try.underlying25 rfl (by kernel_rfl)) rfl ?_
      exact ⟨_, rfl, hI.out, hE.out⟩
end Go.Proofs.Ytfpmcajndgkgeaa
/- The document's own answer of layer 7 that later layers ask for: a determinant, by the first row. -/
namespace Go.Proofs.Ytfpmcajndgkgeaa
open Go.RowKit Go.Maps

/-- a matrix's numbers, by row and column -/
def atF (n : Nat) (xs : List Int) : Nat → Nat → Int := fun i j => xs.getD (i * n + j) 0
/-- the minor without the first row and a column, as it is built -/
def minG (N : Nat) (xs : List Int) (k : Nat) : Nat → Int := fun t => atF (N + 1) xs (t / N + 1) (skp k (t % N))
theorem minG_atF (N : Nat) (xs : List Int) (k i j : Nat) (hi : i < N) (hj : j < N) : atF N (tab (N * N) (minG N xs k)) i j = atF (N + 1) xs (i + 1) (skp k j) := by
  unfold atF
  rw [tab_get _ (at_lt hi hj)]
  show atF (N + 1) xs ((i * N + j) / N + 1) (skp k ((i * N + j) % N)) = _
  rw [at_div hj, at_mod hj]
  rfl
/-- the sum over the first row, so far -/
def detTo (N : Nat) (xs : List Int) (p : Int) (k : Nat) : Int := (sm k fun t => sg t * atF (N + 1) xs 0 t * detF N (fun i j => atF (N + 1) xs (i + 1) (skp t j))) % p
theorem detTo_all (N : Nat) (xs : List Int) (p : Int) : detTo N xs p (N + 1) = detF (N + 1) (atF (N + 1) xs) % p := by rw [detF_succ]; rfl
theorem detTo_succ (N : Nat) (xs : List Int) (p : Int) (k : Nat) : detTo N xs p (k + 1) = (if k % 2 = 0 then (detTo N xs p k + (atF (N + 1) xs 0 k * (detF N (fun i j => atF (N + 1) xs (i + 1) (skp k j)) % p)) % p) % p else (detTo N xs p k - (atF (N + 1) xs 0 k * (detF N (fun i j => atF (N + 1) xs (i + 1) (skp k j)) % p)) % p) % p) := by
  obtain ⟨D, hD⟩ : ∃ D, detF N (fun i j => atF (N + 1) xs (i + 1) (skp k j)) = D := ⟨_, rfl⟩
  have e : (sm (k + 1) fun t => sg t * atF (N + 1) xs 0 t * detF N (fun i j => atF (N + 1) xs (i + 1) (skp t j))) = (sm k fun t => sg t * atF (N + 1) xs 0 t * detF N (fun i j => atF (N + 1) xs (i + 1) (skp t j))) + sg k * atF (N + 1) xs 0 k * D := by rw [← hD]; rfl
  unfold detTo
  rw [e, hD, mm_r, ma_l, ms_l]
  by_cases h : k % 2 = 0
  · rw [if_pos h, ma_r, show sg k = 1 by unfold sg; rw [if_pos h]]
    congr 1; grind
  · rw [if_neg h, ms_r, show sg k = -1 by unfold sg; rw [if_neg h]]
    congr 1; grind
set_option maxRecDepth 100000 in
set_option maxHeartbeats 2000000 in
theorem r7Det_step (p : Int) (N : Nat) (hN : 1 ≤ N ∧ N ≤ 63) (hp : rightB p = true)
    (IH : ∀ (v : Value) (ys : List Int) (W : World), Ints .u64 W v ys → Rng p ys → ys.length = N * N → Calls Try.prog 115 #[.int .u64 p, matV N N v] W (Ret (.int .u64 (detF N (atF N ys) % p)) W))
    (v : Value) (xs : List Int) (w : World) (hv : Ints .u64 w v xs) (hx : Rng p xs) (hl : xs.length = (N + 1) * (N + 1)) :
    Calls Try.prog 115 #[.int .u64 p, matV ((N : Int) + 1) ((N : Int) + 1) v] w (Ret (.int .u64 (detF (N + 1) (atF (N + 1) xs) % p)) w) := by
  have hp2 := rightB_true hp
  obtain ⟨i0, hi, hz0, hz1, hz2⟩ := info_parts info_u64p
  have Hp := hid hp; have Hv := hid hv; have Hx := hid hx; have Hl := hid hl; have HIH := hid IH
  rw [← detTo_all]
  obtain ⟨a, cap, rfl, k1, k2, k3⟩ := hv
  have K3 := hid k3
  have b1 : (((N : Int) + 1) == 1) = false := by rw [beq_eq_false_iff_ne]; omega
  clear k3 hp hx hl IH
  unfold matV
  go_enter Try.func115, Try.ntmps115
  go_wp2_with fail
  have hbox := hid (box3 w 25 (.int .i64 ((N : Int) + 1)) (.int .i64 ((N : Int) + 1)) (.slice a xs.length cap))
  have hbox_blk := hid (Blk.new w 25 #[.int .i64 ((N : Int) + 1), .int .i64 ((N : Int) + 1), .slice a xs.length cap])
  have hx1 : Ext w (w.alloc (.cells #[.int .i64 ((N : Int) + 1), .int .i64 ((N : Int) + 1), .slice a xs.length cap] 25)) := (Ext.refl w).alloc _
  obtain ⟨w1, hw1⟩ : ∃ w1, w.alloc (.cells #[.int .i64 ((N : Int) + 1), .int .i64 ((N : Int) + 1), .slice a xs.length cap] 25) = w1 := ⟨_, rfl⟩
  obtain ⟨g, hg⟩ : ∃ g, w.heap.size = g := ⟨_, rfl⟩
  rw [hw1, hg] at hbox hbox_blk
  rw [hw1] at hx1
  rw [hw1, hg]
  clear hw1 hg b1
  go_loopw [6, 5] (fun kv zv wr => ∃ (k : Nat) (z : Int), kv = .int .i64 k ∧ zv = .int .u64 z ∧ k ≤ N + 1 ∧ 0 ≤ z ∧ z < p ∧ Hid (z = detTo N xs p k) ∧ Ext w1 wr) (fun kv _ _ => N + 1 - (intOf kv).toNat)
  case atStart => exact ⟨0, 0, rfl, rfl, Nat.zero_le _, by omega, by omega, hid (by simp [detTo, sm]), Ext.refl _⟩
  case round =>
    obtain ⟨k, z, rfl, rfl, hk, z0, z1, hz, hxr⟩ := hrel
    rename World => wo
    obtain ⟨b0, b1, b2⟩ := hbox.out wo hxr
    by_cases hlt : k < N + 1
    · have hbk : decide ((k : Int) < (N : Int) + 1) = true := decide_eq_true (by omega)
      obtain ⟨G, hG⟩ : ∃ G, minG N xs k = G := ⟨_, rfl⟩
      have HG := hid hG
      clear hG
      go_wp2_with fail
      have hO0 := Blk.new wo 25 #[.int .i64 (N : Int), .int .i64 (N : Int), .slice none 0 0]
      have hx7 : Ext wo (wo.alloc (.cells #[.int .i64 (N : Int), .int .i64 (N : Int), .slice none 0 0] 25)) := (Ext.refl wo).alloc _
      obtain ⟨w7, hw7⟩ : ∃ W, wo.alloc (.cells #[.int .i64 (N : Int), .int .i64 (N : Int), .slice none 0 0] 25) = W := ⟨_, rfl⟩
      obtain ⟨g7, hg7⟩ : ∃ g, wo.heap.size = g := ⟨_, rfl⟩
      rw [hw7, hg7] at hO0
      rw [hw7] at hx7
      rw [hw7, hg7]
      have HB0 := hid (show Bld wo w7 g7 w7.heap.size N N (.slice none 0 0) 0 G from ⟨hO0, World.ownsRow_nil _ _ _ _, hx7, hx7.size, by omega⟩)
      clear hw7 hg7 hO0 b0 b1 b2
      go_loopw [8] (fun iv wr => ∃ (i t : Nat) (rv : Value), iv = .int .i64 i ∧ 1 ≤ i ∧ i ≤ N + 1 ∧ Hid (t = (i - 1) * N) ∧ Hid (Bld wo wr g7 w7.heap.size N N rv t G) ∧ w7.heap.size ≤ wr.heap.size) (fun iv _ => N + 1 - (intOf iv).toNat)
      case atStart => exact ⟨1, 0, _, rfl, by omega, by omega, hid (by simp), HB0, Nat.le_refl _⟩
      case round =>
        obtain ⟨i, t, rv, rfl, hi1, hi2, ht, HB, hsz⟩ := hrel
        rename World => wi
        obtain ⟨b0, b1, b2⟩ := hbox.out wi (hxr.trans HB.out.ext)
        by_cases hli : i < N + 1
        · have hbi : decide ((i : Int) < (N : Int) + 1) = true := decide_eq_true (by omega)
          go_wp2_with fail
          go_loopw [9] (fun jv wr => ∃ (j t' : Nat) (rv' : Value), jv = .int .i64 j ∧ j ≤ N + 1 ∧ Hid (t' = t + (if j ≤ k then j else j - 1)) ∧ Hid (Bld wo wr g7 w7.heap.size N N rv' t' G) ∧ w7.heap.size ≤ wr.heap.size) (fun jv _ => N + 1 - (intOf jv).toNat)
          case atStart => exact ⟨0, t, rv, rfl, Nat.zero_le _, hid (by simp), HB, hsz⟩
          case round =>
            clear HB hsz b0 b1 b2
            obtain ⟨j, t', rv, rfl, hj, ht', HB, hsz⟩ := hrel
            rename World => wj
            obtain ⟨b0, b1, b2⟩ := hbox.out wj (hxr.trans HB.out.ext)
            by_cases hlj : j < N + 1
            · by_cases hjk : j = k
              · have hb : ((j : Int) != (k : Int)) = false := by simp [hjk]
                have e' := hid (show t' = t + (if j + 1 ≤ k then j + 1 else j + 1 - 1) by rw [ht'.out, if_pos (by omega), if_neg (by omega)]; omega)
                clear hjk
                go_wp2_with fail
                go_roundw
                case rel => exact ⟨j + 1, t', rv, by go_num, by omega, e', HB, hsz⟩
                case measure => simp [intOf]; omega
              · have hb : ((j : Int) != (k : Int)) = true := by rw [bne_iff_ne]; omega
                have e' := hid (show t' + 1 = t + (if j + 1 ≤ k then j + 1 else j + 1 - 1) by
                  rw [ht'.out]
                  by_cases c : j < k
                  · rw [if_pos (by omega), if_pos (by omega)]; omega
                  · rw [if_neg (by omega), if_neg (by omega)]; omega)
                obtain ⟨j', hj', hsk⟩ : ∃ j', j' < N ∧ skp k j' = j ∧ t' = (i - 1) * N + j' := by
                  by_cases c : j < k
                  · exact ⟨j, by omega, by unfold skp; rw [if_pos c], by rw [ht'.out, if_pos (by omega), ht.out]⟩
                  · exact ⟨j - 1, by omega, by unfold skp; rw [if_neg (by omega)]; omega, by rw [ht'.out, if_neg (by omega), ht.out]⟩
                have hat := at_lt (r := N + 1) hli hlj
                have hA := hid (fun (W : World) (hW : Ext wj W) => rmAt ((N : Int) + 1) ((N : Int) + 1) (.slice a xs.length cap) xs i j (N + 1) W (Hv.out.ext (hx1.trans (hxr.trans (HB.out.ext.trans hW)))) (by push_cast; rfl) (by omega) (by omega) (by omega) (by rw [Hl.out]; exact hat))
                obtain ⟨y, ey⟩ : ∃ y, xs.getD (i * (N + 1) + j) 0 = y := ⟨_, rfl⟩
                rw [ey] at hA
                have hGt : G t' = y := by
                  rw [← HG.out, hsk.2]
                  show atF (N + 1) xs (((i - 1) * N + j') / N + 1) (skp k (((i - 1) * N + j') % N)) = y
                  rw [at_div hj', at_mod hj', hsk.1, show i - 1 + 1 = i by omega]
                  exact ey
                have happ := hid (show ((tab t' G).map (Value.int .u64)) ++ [Value.int .u64 y] = (tab (t' + 1) G).map (Value.int .u64) by rw [tab_succ, List.map_append, hGt]; rfl)
                have htb : t' ≤ 4096 := by
                  have h1 := at_lt (r := N) (show i - 1 < N by omega) hj'
                  have h2 := Nat.mul_le_mul hN.2 hN.2
                  omega
                obtain ⟨o0, o1, o2⟩ := HB.out.box.at3
                have of := HB.out.box.frozen 2
                have HAb := hid (show Blk wj g 25 #[.int .i64 ((N : Int) + 1), .int .i64 ((N : Int) + 1), .slice a xs.length cap] from hbox_blk.out.ext (hxr.trans HB.out.ext))
                clear ey hGt hat hjk hsk
                unfold matV at hA
                go_wp2_with fail
                go_region_law (first
                  | (refine step_append_at _ rfl (.tmp 47) (.tmp 52) 23 rfl w7.heap.size 22 i0 (.int .u64 0) 1 8 Try.underlying23 hi hz0 hz1 hz2 rfl (by decide) rv t' ((tab t' G).map (Value.int .u64)) (by simp [Act.eval]) (ownsRow_ext HB.out.own ((((Ext.refl wj).drew).trans x5).alloc _)) ⟨w5.heap.size, 0, none⟩ 1 1 [.int .u64 y] (by simp [Act.eval]) rfl (cells_new _ _ _ (by simp)) (by simp [Value.oneCell']) (by simp only [maxLen]; omega) (by omega) (by have := x5.size; simp at this ⊢; omega) ?_
                     intro v6 w6 hown6 hgrow6 hat6
                     have hb6 := (HB.out.ext' ((((Ext.refl wj).drew).trans x5).alloc (.cells #[.int .u64 y] 22))).box' hgrow6
                     have o6 := hb6.1
                     have f6 := hb6.2
                     rw [happ.out] at hown6
                     have Hown6 := hid hown6
                     obtain ⟨a6, c6, rfl, q2, q3, q4, q5⟩ := WRow.of_owns hown6
                     clear q5 q4 hown6 hb6)
                  | (go_simp; go_at_call 33; refine (hA.out _ ((Ext.refl wj).drew)).mono ?_; rintro _ w5 ⟨rfl, x5⟩
                     obtain ⟨p0, p1, p2⟩ := (HB.out.box.ext (((Ext.refl wj).drew).trans x5)).at3
                     obtain ⟨r0, r1, r2⟩ := (HAb.out.ext (((Ext.refl wj).drew).trans x5)).at3
                     obtain ⟨s0, s1, s2⟩ := (HB.out.box.ext ((((Ext.refl wj).drew).trans x5).alloc (.cells #[.int .u64 y] 22))).at3))
                all_goals
                  have e5 : Ext wj (w5.alloc (.cells #[.int .u64 y] 22)) := ((((Ext.refl wj).drew).trans x5).alloc _)
                  have hs5 := e5.size
                  have hs6 := hgrow6.size
                  have hB5 := HB.out.ext' e5
                  go_wp2_with fail
                  go_roundw
                  case rel => exact ⟨j + 1, t' + 1, _, by go_num, by omega, e', hid (hB5.next Hown6.out hgrow6), by simp only [World.setCell, Array.size_modify]; omega⟩
                  case measure => simp [intOf]; omega
            · obtain rfl : j = N + 1 := by omega
              have e' := hid (show t' = (i + 1 - 1) * N by
                rw [ht'.out, if_neg (by omega), ht.out, show i + 1 - 1 = (i - 1) + 1 by omega, Nat.succ_mul]; omega)
              go_wp2_with fail
              go_roundw
              case rel => exact ⟨i + 1, t', rv, by go_num, by omega, by omega, e', HB, hsz⟩
              case measure => simp [intOf]; omega
        · obtain rfl : i = N + 1 := by omega
          have htN := ht.out
          rw [Nat.add_sub_cancel] at htN
          subst htN
          have hxi := HB.out.ext
          have hlk : k < xs.length := by
            rw [Hl.out]
            exact Nat.lt_of_lt_of_le hlt (Nat.le_mul_of_pos_left _ (by omega))
          obtain ⟨b, off, rfl, hb, hc⟩ := K3.out (by omega)
          have gx := ((hx1.trans (hxr.trans hxi)).cells _ _ hb).trans (hc k hlk)
          have rx := Hx.out.get hlk
          have hI := own_ints HB.out.own
          obtain ⟨a6, c6, rfl, q2, q3, q4, q5⟩ := WRow.of_owns HB.out.own
          clear q5 q4 hc
          have HI := hid hI
          have HR := hid (show Rng p (tab (N * N) G) from tab_rng fun t _ => by rw [← HG.out]; exact Hx.out.getD hp2.1 _)
          have hD : detF N (atF N (tab (N * N) G)) = detF N (fun i j => atF (N + 1) xs (i + 1) (skp k j)) := detF_congr N fun i j hi hj => by rw [← HG.out]; exact minG_atF N xs k i j hi hj
          have hsucc := detTo_succ N xs p k
          rw [← hz.out] at hsucc
          have ex0 : atF (N + 1) xs 0 k = xs.getD k 0 := by unfold atF; rw [Nat.zero_mul, Nat.zero_add]
          rw [ex0, ← hD] at hsucc
          obtain ⟨x, ex⟩ : ∃ x, xs.getD k 0 = x := ⟨_, rfl⟩
          rw [ex] at gx rx hsucc
          obtain ⟨y, ey⟩ : ∃ y, detF N (atF N (tab (N * N) G)) % p = y := ⟨_, rfl⟩
          have ry : 0 ≤ y ∧ y < p := by rw [← ey]; exact mod_range _ hp2.1
          have hC := hid (fun (W : World) (hW : Ext wi W) => (ey ▸ HIH.out _ _ W (HI.out.ext hW) HR.out (tab_len _ _) : Calls Try.prog 115 #[.int .u64 p, matV N N (.slice a6 (N * N) c6)] W (Ret (.int .u64 y) W)))
          rw [ey] at hsucc
          obtain ⟨q, eq, q0, q1⟩ := name_mod (p := p) (x * y) hp2.1
          rw [eq] at hsucc
          have Eq := hid eq; have Hs := hid hsucc
          obtain ⟨b0', b1', b2'⟩ := hbox.out wi (hxr.trans hxi)
          have fs := hid (fun (W : World) (hW : Ext wi W) => And.intro ((hbox.out W ((hxr.trans hxi).trans hW))) (And.intro ((HB.out.box.ext hW).at3) ((hW.cells _ _ (cell_lt gx)).trans gx)))
          obtain ⟨o0, o1, o2⟩ := HB.out.box.at3
          clear ex ex0 ey eq hsucc hD hI
          unfold matV at hC
          go_wp2_with fail
          go_region_held3 (fun w' => (w'.cell? ⟨g, 0, none⟩ = some (.int .i64 ((N : Int) + 1)) ∧ w'.cell? ⟨g, 1, none⟩ = some (.int .i64 ((N : Int) + 1)) ∧ w'.cell? ⟨g, 2, none⟩ = some (.slice (some ⟨b, off, none⟩) xs.length cap)) ∧ (w'.cell? ⟨g7, 0, none⟩ = some (.int .i64 (N : Int)) ∧ w'.cell? ⟨g7, 1, none⟩ = some (.int .i64 (N : Int)) ∧ w'.cell? ⟨g7, 2, none⟩ = some (.slice a6 (N * N) c6)) ∧ w'.cell? ⟨b, off + k, none⟩ = some (.int .u64 x)) (first | assumption | exact fs.out _ ((Ext.refl wi).drew) | exact fs.out _ (((Ext.refl wi).drew).trans x5))
            ((first
              | (go_at_call 115; refine (hC.out _ ((Ext.refl wi).drew)).mono ?_; rintro _ w5 ⟨rfl, x5⟩)
              | (go_at_call 86; refine (rMul p x y q _ Hp.out rx.1 rx.2 ry.1 (by omega) Eq.out).mono ?_; rintro _ _ ⟨rfl, rfl⟩)))
          have e5 : Ext wi w5 := ((Ext.refl wi).drew).trans x5
          by_cases hk2 : k % 2 = 0
          · have hb2 : ((k : Int) % 2 == 0) = true := by rw [beq_iff_eq]; omega
            obtain ⟨t, et, t0, t1⟩ := name_mod (p := p) (z + q) hp2.1
            have Et := hid et
            have e' := hid (show t = detTo N xs p (k + 1) by rw [Hs.out, if_pos hk2, et])
            clear et hk2
            go_wp2_with (go_at_call 85; refine (rAdd p z q t _ Hp.out z0 z1 q0 q1 Et.out).mono ?_; rintro _ _ ⟨rfl, rfl⟩)
            go_roundw
            case rel => exact ⟨k + 1, t, by go_num, rfl, by omega, t0, t1, e', hxr.trans (hxi.trans e5)⟩
            case measure => simp [intOf]; omega
          · have hb2 : ((k : Int) % 2 == 0) = false := by rw [beq_eq_false_iff_ne]; omega
            obtain ⟨t, et, t0, t1⟩ := name_mod (p := p) (z - q) hp2.1
            have Et := hid et
            have e' := hid (show t = detTo N xs p (k + 1) by rw [Hs.out, if_neg hk2, et])
            clear et hk2
            go_wp2_with (go_at_call 32; refine (rSub p z q t _ Hp.out z0 z1 q0 q1 Et.out).mono ?_; rintro _ _ ⟨rfl, rfl⟩)
            go_roundw
            case rel => exact ⟨k + 1, t, by go_num, rfl, by omega, t0, t1, e', hxr.trans (hxi.trans e5)⟩
            case measure => simp [intOf]; omega
    · obtain rfl : k = N + 1 := by omega
      have hz' := hid hz.out
      clear hz
      go_wp2_with fail
      go_ret
      exact ⟨ret_int hz'.out, hx1.trans hxr⟩

set_option maxHeartbeats 1000000 in
theorem r7Det_one (p : Int) (v : Value) (xs : List Int) (w : World) (hv : Ints .u64 w v xs) (hx : Rng p xs) (hl : xs.length = 1) :
    Calls Try.prog 115 #[.int .u64 p, matV 1 1 v] w (Ret (.int .u64 (detF 1 (atF 1 xs) % p)) w) := by
  have e : detF 1 (atF 1 xs) % p = xs.getD 0 0 := by
    have h1 : detF 1 (atF 1 xs) = xs.getD 0 0 := by
      rw [detF_succ]
      show 0 + sg 0 * xs.getD (0 * 1 + 0) 0 * 1 = _
      simp [sg]
    rw [h1]
    have := hx.get (k := 0) (by omega)
    exact mod_small this.1 this.2
  rw [e]
  clear e hx
  obtain ⟨a, cap, rfl, k1, k2, k3⟩ := hv
  obtain ⟨b, off, rfl, hb, hc⟩ := k3 (by omega)
  have g0 := hc 0 (by omega)
  obtain ⟨x, ex⟩ : ∃ x, xs.getD 0 0 = x := ⟨_, rfl⟩
  rw [ex, Nat.add_zero] at g0
  rw [ex, hl]
  have hx1 : Ext w (w.alloc (.cells #[.int .i64 1, .int .i64 1, .slice (some ⟨b, off, none⟩) 1 cap] 25)) := (Ext.refl w).alloc _
  have hbox := hid (box3 w 25 (.int .i64 1) (.int .i64 1) (.slice (some ⟨b, off, none⟩) 1 cap))
  have g1 := (hx1.cells _ _ hb).trans g0
  have HX := hid hx1
  clear hc k3 ex hl g0 k1
  unfold matV
  go_enter Try.func115, Try.ntmps115
  go_wp2_with fail
  go_ret
  exact ⟨rfl, HX.out⟩
/-- the determinant, by the first row: at most 64 rows -/
theorem r7Det (p : Int) (hp : rightB p = true) : ∀ (n : Nat), 1 ≤ n → n ≤ 64 → ∀ (v : Value) (xs : List Int) (w : World), Ints .u64 w v xs → Rng p xs → xs.length = n * n →
    Calls Try.prog 115 #[.int .u64 p, matV n n v] w (Ret (.int .u64 (detF n (atF n xs) % p)) w)
  | 0, h, _, _, _, _, _, _, _ => absurd h (by omega)
  | 1, _, _, v, xs, w, hv, hx, hl => r7Det_one p v xs w hv hx (by omega)
  | N + 2, _, h2, v, xs, w, hv, hx, hl => by
    have := r7Det_step p (N + 1) ⟨by omega, by omega⟩ hp (fun v' ys W h3 h4 h5 => r7Det p hp (N + 1) (by omega) (by omega) v' ys W h3 h4 h5) v xs w hv hx hl
    exact this
end Go.Proofs.Ytfpmcajndgkgeaa
