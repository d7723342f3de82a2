/- What the texts Mat3, Mat4 show, in one text. -/
import Derived.Test.YtjdbkbbhjiemdaaMat2
import Derived.Test.YtjdbkbbhjiemdaaStep
import Derived.Deep.RegionLaw
/- The document's own answers of layer 5 that make matrices: Turn, Mul. -/
namespace Go.Proofs.Ytjdbkbbhjiemdaa
open Go.RowKit Go.Maps

theorem alloc_size (w : World) (o : Obj) : (w.alloc o).heap.size = w.heap.size + 1 := by simp
/-- what a call answers: a matrix -/
def RetM (r c : Int) (l : List Int) (w : World) (e : Ending) (w' : World) : Prop := ∃ u, e = .returned (matV r c u) ∧ Ints .u64 w' u l ∧ Ext w w'
theorem setCell_grown (w : World) (p : Addr) (u : Value) : w.grownBy (w.setCell p u) (some p.block) :=
  ⟨rfl, rfl, rfl, by simp [World.setCell], fun k _ hk => heap_setCell_other w p k u (fun e => hk (by rw [e]))⟩
theorem Blk.grown {w w' : World} {g : Nat} {t : TypeId} {cs : Array Value} {row : Option Nat} (h : Blk w g t cs) (hg : w.grownBy w' row) (hr : row ≠ some g) : Blk w' g t cs :=
  (hg.block g h.lt (fun e => hr e.symm)).trans h
/-- a matrix that is built: its box, and its cells so far -/
structure Bld (w0 w : World) (h base : Nat) (r c : Int) (rv : Value) (t : Nat) (G : Nat → Int) : Prop where
  box : Blk w h 25 #[.int .i64 r, .int .i64 c, rv]
  own : w.ownsRow base 22 1 rv t ((tab t G).map (Value.int .u64))
  ext : Ext w0 w
  hb : w0.heap.size ≤ base
  hh : w0.heap.size ≤ h
theorem Bld.ext' {w0 w w' : World} {h base : Nat} {r c : Int} {rv : Value} {t : Nat} {G : Nat → Int} (b : Bld w0 w h base r c rv t G) (y : Ext w w') : Bld w0 w' h base r c rv t G :=
  ⟨b.box.ext y, ownsRow_ext b.own y, b.ext.trans y, b.hb, b.hh⟩
/-- a number is appended, and the box told -/
theorem Bld.next {w0 w w' : World} {h base : Nat} {r c : Int} {rv v' : Value} {t : Nat} {G : Nat → Int} (b : Bld w0 w h base r c rv t G) (hown : w'.ownsRow base 22 1 v' (t + 1) ((tab (t + 1) G).map (Value.int .u64))) (hg : w.grownBy w' rv.ownBlock) :
    Bld w0 (w'.setCell ⟨h, 2, none⟩ v') h base r c v' (t + 1) G := by
  have hne : rv.ownBlock ≠ some h := by
    rcases ownsRow_blk b.own b.box (by decide) with e | e
    · rw [e]; simp
    · exact e
  have hb := b.box.grown hg hne
  have hne2 : v'.ownBlock ≠ some h := by
    rcases ownsRow_blk hown hb (by decide) with e | e
    · rw [e]; simp
    · exact e
  exact ⟨hb.set_ 2 v', hown.kept (setCell_grown _ _ _) (.inr hne2), (b.ext.grown hg fun k e => Nat.le_trans b.hb (b.own.lt k e).1).setCell b.hh _, b.hb, b.hh⟩
theorem Bld.box' {w0 w w' : World} {h base : Nat} {r c : Int} {rv : Value} {t : Nat} {G : Nat → Int} (b : Bld w0 w h base r c rv t G) (hg : w.grownBy w' rv.ownBlock) : w'.cell? ⟨h, 2, none⟩ = some rv ∧ w'.frozen? ⟨h, 2, none⟩ = false := by
  have hne : rv.ownBlock ≠ some h := by
    rcases ownsRow_blk b.own b.box (by decide) with e | e
    · rw [e]; simp
    · exact e
  exact ⟨(b.box.grown hg hne).cell 2, (b.box.grown hg hne).frozen 2⟩
theorem own_set {w : World} {base g n : Nat} {v : Value} {xs : List Value} {ty : TypeId} {cs : Array Value} (h : w.ownsRow base 22 1 v n xs) (hB : Blk w g ty cs) (hty : 22 ≠ ty) (i : Nat) (u : Value) : (w.setCell ⟨g, i, none⟩ u).ownsRow base 22 1 v n xs :=
  h.kept (setCell_grown _ _ _) (ownsRow_blk h hB hty)
theorem own_ints {w : World} {base n : Nat} {v : Value} {xs : List Int} (h : w.ownsRow base 22 1 v n (xs.map (Value.int .u64))) : Ints .u64 w v xs := by
  obtain ⟨a, c, rfl, h1, h2, h3, h4⟩ := WRow.of_owns h
  rcases Nat.eq_zero_or_pos n with h0 | h0
  · exact ⟨a, c, by rw [h3], by omega, h2, fun h => by omega⟩
  · obtain ⟨g4, rfl, hg4, hw4⟩ := h4 h0
    exact hw4.ints' h3 h1 h2
/-- a box is told its three cells -/
theorem own_set3 {w : World} {base g n : Nat} {v : Value} {xs : List Int} {cs : Array Value} (h : w.ownsRow base 22 1 v n (xs.map (Value.int .u64))) (hB : Blk w g 25 cs) (a b c : Value) :
    Ints .u64 (((w.setCell ⟨g, 0, none⟩ a).setCell ⟨g, 1, none⟩ b).setCell ⟨g, 2, none⟩ c) v xs :=
  own_ints (own_set (own_set (own_set h hB (by decide) 0 a) (hB.set_ 0 a) (by decide) 1 b) ((hB.set_ 0 a).set_ 1 b) (by decide) 2 c)
/-- other boxes stay -/
theorem Bld.other {w0 w w' : World} {h base g : Nat} {r c : Int} {rv v' : Value} {t : Nat} {G : Nat → Int} {ty : TypeId} {cs : Array Value} (b : Bld w0 w h base r c rv t G) (hB : Blk w g ty cs) (hty : 22 ≠ ty) (hgh : g ≠ h) (hg : w.grownBy w' rv.ownBlock) :
    Blk (w'.setCell ⟨h, 2, none⟩ v') g ty cs := by
  have hne : rv.ownBlock ≠ some g := by
    rcases ownsRow_blk b.own hB hty with e | e
    · rw [e]; simp
    · exact e
  exact (hB.grown hg hne).grown (setCell_grown _ _ _) (fun e => hgh (by injection e with e; exact e.symm))
theorem Blk.at3 {w : World} {g : Nat} {t : TypeId} {a b c : Value} (h : Blk w g t #[a, b, c]) : w.cell? ⟨g, 0, none⟩ = some a ∧ w.cell? ⟨g, 1, none⟩ = some b ∧ w.cell? ⟨g, 2, none⟩ = some c :=
  ⟨h.cell 0, h.cell 1, h.cell 2⟩

set_option maxRecDepth 100000 in
set_option maxHeartbeats 2000000 in
theorem rmTurn (m n : Nat) (v : Value) (xs : List Int) (w : World) (hv : Ints .u64 w v xs) (hm : m ≤ 64) (hn : n ≤ 64) (hxl : xs.length = m * n) :
    Calls Try.prog 54 #[matV m n v] w (RetM n m (grid n m fun k i => xs.getD (i * n + k) 0) w) := by
  obtain ⟨i0, hi, hz0, hz1, hz2⟩ := info_parts info_u64p
  have Hv := hid hv; have Hxl := hid hxl
  obtain ⟨a, cap, rfl, k1, k2, k3⟩ := hv
  clear k3 hxl
  obtain ⟨G, hG⟩ : ∃ G : Nat → Int, (fun t => xs.getD ((t % m) * n + t / m) 0) = G := ⟨_, rfl⟩
  have HG := hid (fun t => (congrFun hG t : xs.getD ((t % m) * n + t / m) 0 = G t))
  have hgrid : grid n m (fun k i => xs.getD (i * n + k) 0) = tab (n * m) G := by rw [← hG]; rfl
  rw [hgrid]
  clear hG hgrid
  unfold matV
  go_enter Try.func54, Try.ntmps54
  go_wp2_with fail
  have hA0 := (Blk.new w 25 #[.int .i64 (m : Int), .int .i64 (n : Int), .slice a xs.length cap]).ext (((Ext.refl _).alloc (.cells #[.int .i64 0, .int .i64 0, .slice none 0 0] 25)).alloc (.cells #[.int .i64 (n : Int), .int .i64 (m : Int), .slice none 0 0] 25))
  have hZ0 := (Blk.new (w.alloc (.cells #[.int .i64 (m : Int), .int .i64 (n : Int), .slice a xs.length cap] 25)) 25 #[.int .i64 0, .int .i64 0, .slice none 0 0]).ext ((Ext.refl _).alloc (.cells #[.int .i64 (n : Int), .int .i64 (m : Int), .slice none 0 0] 25))
  have hO0 := Blk.new ((w.alloc (.cells #[.int .i64 (m : Int), .int .i64 (n : Int), .slice a xs.length cap] 25)).alloc (.cells #[.int .i64 0, .int .i64 0, .slice none 0 0] 25)) 25 #[.int .i64 (n : Int), .int .i64 (m : Int), .slice none 0 0]
  have hx3 : Ext w (((w.alloc (.cells #[.int .i64 (m : Int), .int .i64 (n : Int), .slice a xs.length cap] 25)).alloc (.cells #[.int .i64 0, .int .i64 0, .slice none 0 0] 25)).alloc (.cells #[.int .i64 (n : Int), .int .i64 (m : Int), .slice none 0 0] 25)) := (((Ext.refl w).alloc _).alloc _).alloc _
  obtain ⟨w3, hw3⟩ : ∃ w3, ((w.alloc (.cells #[.int .i64 (m : Int), .int .i64 (n : Int), .slice a xs.length cap] 25)).alloc (.cells #[.int .i64 0, .int .i64 0, .slice none 0 0] 25)).alloc (.cells #[.int .i64 (n : Int), .int .i64 (m : Int), .slice none 0 0] 25) = w3 := ⟨_, rfl⟩
  obtain ⟨g1, hg1⟩ : ∃ g, w.heap.size = g := ⟨_, rfl⟩
  have e2 : (w.alloc (.cells #[.int .i64 (m : Int), .int .i64 (n : Int), .slice a xs.length cap] 25)).heap.size = g1 + 1 := by rw [alloc_size, hg1]
  have e3 : ((w.alloc (.cells #[.int .i64 (m : Int), .int .i64 (n : Int), .slice a xs.length cap] 25)).alloc (.cells #[.int .i64 0, .int .i64 0, .slice none 0 0] 25)).heap.size = g1 + 1 + 1 := by rw [alloc_size, alloc_size, hg1]
  rw [hw3, hg1] at hA0
  rw [hw3, e2] at hZ0
  rw [hw3, e3] at hO0
  rw [hw3] at hx3
  rw [hw3, hg1]
  obtain ⟨g2, hg2⟩ : ∃ g, g1 + 1 = g := ⟨_, rfl⟩
  obtain ⟨g3, hg3⟩ : ∃ g, g2 + 1 = g := ⟨_, rfl⟩
  rw [hg2] at hZ0 hO0
  rw [hg3] at hO0
  rw [hg2, hg3]
  have n13 : g1 ≠ g3 := by omega
  have n23 : g2 ≠ g3 := by omega
  have hw1 : w.heap.size ≤ g3 := by omega
  have hw2 : w.heap.size ≤ g2 := by omega
  clear hw3 e2 e3 hg1 hg2 hg3
  have HA0 := hid hA0; have HZ0 := hid hZ0
  have HB0 := hid (show Bld w w3 g3 w3.heap.size n m (.slice none 0 0) 0 G from ⟨hO0, World.ownsRow_nil _ _ _ _, hx3, hx3.size, hw1⟩)
  clear hA0 hZ0 hO0
  go_loopw [4] (fun iv wr => ∃ (i t : Nat) (rv : Value), iv = .int .i64 i ∧ i ≤ n ∧ Hid (t = i * m) ∧ Hid (Bld w wr g3 w3.heap.size n m rv t G) ∧ Hid (Blk wr g1 25 #[.int .i64 (m : Int), .int .i64 (n : Int), .slice a xs.length cap]) ∧ Hid (Blk wr g2 25 #[.int .i64 0, .int .i64 0, .slice none 0 0]) ∧ w3.heap.size ≤ wr.heap.size) (fun iv _ => n - (intOf iv).toNat)
  case atStart => exact ⟨0, 0, _, rfl, Nat.zero_le _, hid (by simp), HB0, HA0, HZ0, Nat.le_refl _⟩
  case round =>
    obtain ⟨i, t, rv, rfl, hi', ht, HB, HA, HZ, hsz⟩ := hrel
    obtain ⟨b0, b1, b2⟩ := HA.out.at3
    by_cases hlt : i < n
    · go_wp2_with fail
      go_loopw [5] (fun kv wr => ∃ (k t : Nat) (rv : Value), kv = .int .i64 k ∧ k ≤ m ∧ Hid (t = i * m + k) ∧ Hid (Bld w wr g3 w3.heap.size n m rv t G) ∧ Hid (Blk wr g1 25 #[.int .i64 (m : Int), .int .i64 (n : Int), .slice a xs.length cap]) ∧ Hid (Blk wr g2 25 #[.int .i64 0, .int .i64 0, .slice none 0 0]) ∧ w3.heap.size ≤ wr.heap.size) (fun kv _ => m - (intOf kv).toNat)
      case atStart => exact ⟨0, t, rv, rfl, Nat.zero_le _, ht, HB, HA, HZ, hsz⟩
      case round =>
        clear b0 b1 b2 HB HA HZ hsz ht
        obtain ⟨k, t, rv, rfl, hk, ht, HB, HA, HZ, hsz⟩ := hrel
        rename World => wi
        obtain ⟨b0, b1, b2⟩ := HA.out.at3
        by_cases hlk : k < m
        · have hat := at_lt (r := m) hlk hlt
          have hA := hid (fun (W : World) (hW : Ext wi W) => rmAt (m : Int) (n : Int) (.slice a xs.length cap) xs k i n W (Hv.out.ext (HB.out.ext.trans hW)) rfl (by omega) (by omega) (by omega) (by rw [Hxl.out]; exact hat))
          obtain ⟨y, ey⟩ : ∃ y, xs.getD (k * n + i) 0 = y := ⟨_, rfl⟩
          rw [ey] at hA
          have hGt : G t = y := by rw [← HG.out t, ht.out, at_mod hlk, at_div hlk, ey]
          have happ := hid (show ((tab t G).map (Value.int .u64)) ++ [Value.int .u64 y] = (tab (t + 1) G).map (Value.int .u64) by rw [tab_succ, List.map_append, hGt]; rfl)
          have htb : t ≤ 4096 := by
            have h1 := at_lt (r := n) hlt hlk
            have h2 := Nat.mul_le_mul hn hm
            have := ht.out
            omega
          obtain ⟨o0, o1, o2⟩ := HB.out.box.at3
          have of := HB.out.box.frozen 2
          clear ey hGt hat
          unfold matV at hA
          go_wp2_with fail
          go_region_law (first
            | (refine step_append_at _ rfl (.tmp 24) (.tmp 29) 23 rfl w3.heap.size 22 i0 (.int .u64 0) 1 8 Try.underlying23 hi hz0 hz1 hz2 rfl (by decide) rv t ((tab t G).map (Value.int .u64)) (by simp [Act.eval]) (ownsRow_ext HB.out.own ((((Ext.refl wi).drew).trans x5).alloc _)) ⟨w5.heap.size, 0, none⟩ 1 1 [.int .u64 y] (by simp [Act.eval]) rfl (cells_new _ _ _ (by simp)) (by simp [Value.oneCell']) (by simp only [maxLen]; omega) (by omega) (by have := x5.size; simp at this ⊢; omega) ?_
               intro v6 w6 hown6 hgrow6 hat6
               have hb6 := (HB.out.ext' ((((Ext.refl wi).drew).trans x5).alloc (.cells #[.int .u64 y] 22))).box' hgrow6
               have o6 := hb6.1
               have f6 := hb6.2
               rw [happ.out] at hown6
               have Hown6 := hid hown6
               obtain ⟨a6, c6, rfl, q2, q3, q4, q5⟩ := WRow.of_owns hown6
               clear q5 q4 hown6 hb6)
            | (go_simp; go_at_call 53; refine (hA.out _ ((Ext.refl wi).drew)).mono ?_; rintro _ w5 ⟨rfl, x5⟩
               obtain ⟨p0, p1, p2⟩ := (HB.out.box.ext (((Ext.refl wi).drew).trans x5)).at3
               obtain ⟨r0, r1, r2⟩ := (HA.out.ext (((Ext.refl wi).drew).trans x5)).at3
               obtain ⟨s0, s1, s2⟩ := (HB.out.box.ext ((((Ext.refl wi).drew).trans x5).alloc (.cells #[.int .u64 y] 22))).at3))
          all_goals
            have e5 : Ext wi (w5.alloc (.cells #[.int .u64 y] 22)) := ((((Ext.refl wi).drew).trans x5).alloc _)
            have hs5 := e5.size
            have hs6 := hgrow6.size
            have hB5 := HB.out.ext' e5
            go_wp2_with fail
            go_roundw
            case rel => exact ⟨k + 1, t + 1, _, by go_num, by omega, hid (by rw [ht.out]; omega), hid (hB5.next Hown6.out hgrow6), hid (hB5.other (HA.out.ext e5) (by decide) n13 hgrow6), hid (hB5.other (HZ.out.ext e5) (by decide) n23 hgrow6), by simp only [World.setCell, Array.size_modify]; omega⟩
            case measure => simp [intOf]; omega
        · obtain rfl : k = m := by omega
          go_wp2_with fail
          go_roundw
          case rel => exact ⟨i + 1, t, rv, by go_num, by omega, hid (by rw [ht.out, Nat.succ_mul]), HB, HA, HZ, hsz⟩
          case measure => simp [intOf]; omega
    · obtain rfl : i = n := by omega
      obtain ⟨o0, o1, o2⟩ := HB.out.box.at3
      obtain ⟨z0, z1, z2⟩ := HZ.out.at3
      have zf0 := HZ.out.frozen 0
      have zf1 := HZ.out.frozen 1
      have zf2 := HZ.out.frozen 2
      obtain ⟨a6, c6, rfl, q2, q3, q4, q5⟩ := WRow.of_owns HB.out.own
      clear q5
      have hI := hid (own_set3 HB.out.own HZ.out (.int .i64 (i : Int)) (.int .i64 (m : Int)) (.slice a6 t c6))
      have hE := hid (((HB.out.ext.setCell (p := ⟨g2, 0, none⟩) hw2 (.int .i64 (i : Int))).setCell (p := ⟨g2, 1, none⟩) hw2 (.int .i64 (m : Int))).setCell (p := ⟨g2, 2, none⟩) hw2 (.slice a6 t c6))
      have htt := ht.out
      subst htt
      have hbk := ((HZ.out.set_ 0 (.int .i64 (i : Int))).set_ 1 (.int .i64 (m : Int))).set_ 2 (.slice a6 (i * m) c6)
      have hbk2 := hid (show Blk _ g2 25 #[.int .i64 (i : Int), .int .i64 (m : Int), .slice a6 (i * m) c6] from hbk)
      clear hbk
      go_wp2_with fail
      refine bodyPost_ret (results_cell_row rfl _ _ g2 25 #[.int .i64 (i : Int), .int .i64 (m : Int), .slice a6 (i * m) c6] (0, 0) _ rfl hbk2.out Try.underlying25 rfl (by kernel_rfl)) rfl ?_
      exact ⟨_, rfl, hI.out, hE.out⟩
end Go.Proofs.Ytjdbkbbhjiemdaa
/- The document's own answer of layer 5 to a product of matrices: Mul. -/
namespace Go.Proofs.Ytjdbkbbhjiemdaa
open Go.RowKit Go.Maps

/-- four boxes, one behind the other -/
theorem boxes4 (w : World) (t : TypeId) (A B C D : Array Value) :
    Blk ((((w.alloc (.cells A t)).alloc (.cells B t)).alloc (.cells C t)).alloc (.cells D t)) w.heap.size t A ∧ Blk ((((w.alloc (.cells A t)).alloc (.cells B t)).alloc (.cells C t)).alloc (.cells D t)) (w.heap.size + 1) t B ∧
    Blk ((((w.alloc (.cells A t)).alloc (.cells B t)).alloc (.cells C t)).alloc (.cells D t)) (w.heap.size + 1 + 1) t C ∧ Blk ((((w.alloc (.cells A t)).alloc (.cells B t)).alloc (.cells C t)).alloc (.cells D t)) (w.heap.size + 1 + 1 + 1) t D ∧
    Ext w ((((w.alloc (.cells A t)).alloc (.cells B t)).alloc (.cells C t)).alloc (.cells D t)) :=
  ⟨(Blk.new w t A).ext ((((Ext.refl _).alloc _).alloc _).alloc _), (Blk.at_ (by rw [alloc_size])).ext (((Ext.refl _).alloc _).alloc _), (Blk.at_ (by rw [alloc_size, alloc_size])).ext ((Ext.refl _).alloc _), Blk.at_ (by rw [alloc_size, alloc_size, alloc_size]), ((((Ext.refl w).alloc _).alloc _).alloc _).alloc _⟩
/-- a call's own world, by its boxes alone -/
theorem at_name {α : Type} (x : α) : ∃ y, x = y := ⟨_, rfl⟩

end Go.Proofs.Ytjdbkbbhjiemdaa
