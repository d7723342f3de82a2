/- What the texts Mx6, Mx4, MxW, Mat4O show, in one text. -/
import Derived.Test.YthmmakkldkjnlaaBun17
import Derived.Deep.RegionHeld3
import Derived.Test.YthmmakkldkjnlaaBun14
/- Package matrix: One; the least and the greatest of a list; whether rows and columns may be picked. -/
namespace Go.Proofs.Ythmmakkldkjnlaa
open Go.RowKit Go.Maps

set_option maxHeartbeats 400000 in
theorem mxOne_no (n : Int) (w : World) (h : sideB n = false) : Calls Try.prog 38 #[.int .i64 n] w (Ret noMat w) := by
  have HR := Blk.new w 25 #[.int .i64 0, .int .i64 0, .slice none 0 0]
  have HE : Ext w (w.alloc (.cells #[.int .i64 0, .int .i64 0, .slice none 0 0] 25)) := (Ext.refl w).alloc _
  have F := hid (And.intro HR HE)
  obtain ⟨b0, b1, b2⟩ := HR.at3
  have f0 := HR.frozen 0
  have f1 := HR.frozen 1
  have f2 := HR.frozen 2
  clear HR HE
  unfold noMat
  go_enter Try.func38, Try.ntmps38
  go_wp2_with (go_at_call 67; refine (mxSide _ _).mono ?_; rintro _ _ ⟨rfl, rfl⟩)
  refine bodyPost_ret (results_cell_row_tmp rfl _ _ w.heap.size 25 _ (0, 0) _ rfl F.out.1 Try.underlying25 rfl (by kernel_rfl)) rfl ?_
  exact ⟨rfl, F.out.2⟩

set_option maxRecDepth 100000 in
set_option maxHeartbeats 1000000 in
theorem mxOne_yes (n : Nat) (w : World) (hn : 1 ≤ n ∧ n ≤ 64) : Calls Try.prog 38 #[.int .i64 n] w (RetN n n (oneL n) w) := by
  have hs : sideB n = true := decide_eq_true (by omega)
  obtain ⟨Q, hQ⟩ : ∃ Q, n * n = Q := ⟨_, rfl⟩
  have hQb : Q ≤ 4096 := by rw [← hQ]; exact Nat.mul_le_mul hn.2 hn.2
  have HN := hid fun W : World => mxNoughts n n W hn.2 hn.2
  rw [hQ] at HN
  have HQ := hid hQ
  clear hQ
  have HR := hid (Blk.new w 25 #[.int .i64 0, .int .i64 0, .slice none 0 0])
  have hx0 : Ext w (w.alloc (.cells #[.int .i64 0, .int .i64 0, .slice none 0 0] 25)) := (Ext.refl w).alloc _
  have hR1 := HR.out.lt
  go_enter Try.func38, Try.ntmps38
  go_wp2_with (first | (go_at_call 67; refine (mxSide _ _).mono ?_; rintro _ _ ⟨rfl, rfl⟩) | fail)
  refine (HN.out _).mono ?_
  rintro _ w2 ⟨g, rfl, hg, hrow, x2⟩
  have HU := hid (Und.start (Q := Q) (r := (n : Int)) (c := (n : Int)) hg hrow List.length_replicate x2)
  unfold matV
  go_wp2_with fail
  obtain ⟨h, hh⟩ : ∃ h, w2.heap.size = h := ⟨_, rfl⟩
  obtain ⟨w3, hw3⟩ : ∃ w3, w2.alloc (.cells #[.int .i64 (n : Int), .int .i64 (n : Int), .slice (some ⟨g, 0, none⟩) Q Q] 25) = w3 := ⟨_, rfl⟩
  obtain ⟨w1, hw1⟩ : ∃ w1, w.alloc (.cells #[.int .i64 0, .int .i64 0, .slice none 0 0] 25) = w1 := ⟨_, rfl⟩
  rw [hw3, hh, hw1] at HU
  rw [hw1] at HR hx0 hR1
  rw [hw3, hh]
  obtain ⟨gR, hgR⟩ : ∃ gR, w.heap.size = gR := ⟨_, rfl⟩
  have hgw : w.heap.size ≤ gR := by omega
  rw [hgR] at HR hR1
  rw [hgR]
  clear hh hw3 hw1 hrow x2 hg hgR
  have HE := hid hx0
  go_loopw [14] (fun iv wr => ∃ (i : Nat) (l : List Int), iv = .int .i64 i ∧ i ≤ n ∧ Hid (Und w1 wr h g Q n n l) ∧ Hid (∀ a b, b < n → l.getD (a * n + b) 0 = if a = b ∧ a < i then 1 else 0)) (fun iv _ => n - (intOf iv).toNat)
  case atStart => exact ⟨0, _, rfl, Nat.zero_le _, HU, hid fun a b _ => by rw [replicate_get, if_neg (by omega)]⟩
  case round =>
    clear HU
    obtain ⟨i, l, rfl, hi, HU, hl⟩ := hrel
    obtain ⟨o0, o1, o2⟩ := HU.out.box.at3
    by_cases hlt : i < n
    · have hoQ : i * n + n ≤ Q := by rw [← HQ.out, ← Nat.succ_mul]; exact Nat.mul_le_mul_right _ hlt
      go_wp2_with fail
      refine (mxRow (n : Int) (n : Int) n i g 0 Q Q wr rfl hn (by omega) hoQ (by omega)).mono ?_
      rintro _ w5 ⟨rfl, x5⟩
      rw [Nat.zero_add]
      obtain ⟨o, ho⟩ : ∃ o, i * n = o := ⟨_, rfl⟩
      obtain ⟨cp, hcp⟩ : ∃ cp, Q - o = cp := ⟨_, rfl⟩
      rw [ho] at hoQ
      rw [ho, hcp]
      have hcpn : n ≤ cp := by omega
      have hcpb : cp ≤ 9223372036854775807 := by omega
      obtain ⟨t, ht⟩ : ∃ t, o + i = t := ⟨_, rfl⟩
      have htQ : t < Q := by omega
      have Ht := hid (show i * n + i = t by omega)
      clear ho hcp o0 o1 o2
      obtain ⟨gt, ft⟩ := (HU.out.ext' x5).at_ htQ
      go_wp2_with fail
      go_roundw
      case rel =>
        refine ⟨i + 1, l.set t 1, by go_num, by omega, hid ((HU.out.ext' x5).put htQ 1), hid fun a b hb => ?_⟩
        rw [← Ht.out, put_at 1 hlt hb (by rw [Ht.out, HU.out.len]; exact htQ), hl.out a b hb]
        by_cases e : a = i ∧ b = i
        · rw [if_pos e, if_pos (by omega)]
        · rw [if_neg e]
          by_cases e2 : a = b ∧ a < i
          · rw [if_pos e2, if_pos (by omega)]
          · rw [if_neg e2, if_neg (by omega)]
      case measure => simp [intOf]; omega
    · obtain rfl : n = i := by omega
      have hRr := HR.out.ext HU.out.ext
      obtain ⟨r0, r1, r2⟩ := hRr.at3
      have f0 := hRr.frozen 0
      have f1 := hRr.frozen 1
      have f2 := hRr.frozen 2
      have FF := hid (HU.out.fin hRr hR1 (HE.out.trans HU.out.ext) hgw (by omega))
      clear hRr
      go_wp2_with fail
      refine bodyPost_ret (results_cell_row_tmp rfl _ _ gR 25 _ (0, 0) _ rfl FF.out.1 Try.underlying25 rfl (by kernel_rfl)) rfl ?_
      have e : l = oneL n := grid_of (by rw [HU.out.len, HQ.out]) fun a b ha hb => by
        rw [hl.out a b hb]
        by_cases e : a = b
        · rw [if_pos e, if_pos ⟨e, ha⟩]
        · rw [if_neg e, if_neg (fun h => e h.1)]
      exact ⟨_, rfl, e ▸ FF.out.2.1, FF.out.2.2⟩

/-- may these be picked? -/
def picksB (many : Int) (l : List Int) : Bool := decide (1 ≤ l.length ∧ l.length ≤ 64) && l.all fun x => decide (0 ≤ x ∧ x < many)
end Go.Proofs.Ythmmakkldkjnlaa
/- Package matrix: Left, Mul, One. -/
namespace Go.Proofs.Ythmmakkldkjnlaa
open Go.RowKit Go.Maps

theorem MatOk.turn {p : Int} {m n : Nat} {xs : List Int} (h : MatOk p m n xs) : MatOk p n m (turnL m n xs) :=
  ⟨h.hp, turnL_rng (rightB_true h.hp).1 h.hx m n, h.hn, h.hm, turnL_len m n xs⟩
theorem times_turn (p : Int) (m n : Nat) (xs ys : List Int) : timesL p n m (turnL m n xs) ys = leftL p m n xs ys := by
  unfold timesL leftL
  refine tab_congr fun k hk => dv_congr (fun i hi => ?_) fun _ _ => rfl
  rw [turnL, grid_get _ hk hi]
theorem boxesM3 (w : World) (t : TypeId) (A B C : Array Value) :
    Blk (((w.alloc (.cells A t)).alloc (.cells B t)).alloc (.cells C t)) w.heap.size t A ∧ Blk (((w.alloc (.cells A t)).alloc (.cells B t)).alloc (.cells C t)) (w.heap.size + 1) t B ∧
    Blk (((w.alloc (.cells A t)).alloc (.cells B t)).alloc (.cells C t)) (w.heap.size + 1 + 1) t C ∧ Ext w (((w.alloc (.cells A t)).alloc (.cells B t)).alloc (.cells C t)) :=
  ⟨(Blk.new w t A).ext (((Ext.refl _).alloc _).alloc _), (Blk.at_ (by rw [alloc_size])).ext ((Ext.refl _).alloc _), Blk.at_ (by rw [alloc_size, alloc_size]), (((Ext.refl w).alloc _).alloc _).alloc _⟩

end Go.Proofs.Ythmmakkldkjnlaa
/- Package matrix: Times' answer is a row of its own, that may be written. -/
namespace Go.Proofs.Ythmmakkldkjnlaa
open Go.RowKit Go.Maps

set_option maxRecDepth 100000 in
set_option maxHeartbeats 1000000 in
theorem mxTimesW (p : Int) (m n : Nat) (v u : Value) (xs ys : List Int) (w : World) (ok : MatOk p m n xs) (hv : Ints .u64 w v xs) (hu : Ints .u64 w u ys) (hy : Rng p ys) (hyl : ys.length = n) :
    Calls Try.prog 26 #[.int .u64 p, matV m n v, u] w fun e w' => ∃ g, e = .returned (.tuple #[.slice (some ⟨g, 0, none⟩) m m, .int .i64 0]) ∧ w.heap.size ≤ g ∧ WRow w' g 0 (timesL p m n xs ys) ∧ Ext w w' := by
  have hp2 := rightB_true ok.hp
  have C1 := hid fun (W : World) (hW : Ext w W) => mxRight p m n v xs W (by omega) (by omega) (hv.ext hW) ok.u64
  have C2 := hid fun (W : World) (hW : Ext w W) => mxVector p n u ys W (by omega) (by omega) (hu.ext hW) (hy.u64 hp2.2)
  rw [ok.b] at C1
  rw [vecB_yes ok.hp hy hyl] at C2
  have Ok := hid ok; have Hv := hid hv; have Hu := hid hu; have Hy := hid hy; have Hyl := hid hyl
  have hm := ok.hm; have hn := ok.hn
  obtain ⟨a, cap, rfl, k1, k2, k3⟩ := hv
  obtain ⟨b, off, rfl, hb, k4⟩ := k3 ok.pos
  have hcap := hid fun (i : Nat) (h : i < m) => Nat.le_trans (ok.at_ h) k1
  clear k3 k4 hu hy hyl ok
  obtain ⟨F, hF⟩ : ∃ F : Nat → Int, (fun i => dv p n (fun k => xs.getD (i * n + k) 0) fun k => ys.getD k 0) = F := ⟨_, rfl⟩
  have HF := hid (fun i => (congrFun hF i : dv p n (fun k => xs.getD (i * n + k) 0) (fun k => ys.getD k 0) = F i))
  unfold timesL
  rw [hF]
  clear hF
  have hmk := make_ints (P := Try.prog) 23 22 .u64 8 (by omega) (by kernel_rfl) (by kernel_rfl) m m (Nat.le_refl _) (by omega)
  have hbox := hid (box3 w 25 (.int .i64 (m : Int)) (.int .i64 (n : Int)) (.slice (some ⟨b, off, none⟩) xs.length cap))
  have hx0 : Ext w (w.alloc (.cells #[.int .i64 (m : Int), .int .i64 (n : Int), .slice (some ⟨b, off, none⟩) xs.length cap] 25)) := (Ext.refl w).alloc _
  have hrl := hid (List.length_replicate (n := m) (a := (0 : Int)))
  unfold matV at C1
  unfold matV
  go_enter Try.func26, Try.ntmps26
  go_wp2_with (first
    | (go_at_call 48; refine (C1.out _ (by repeat (first | exact Ext.refl _ | assumption | refine Ext.drew ?_ | refine Ext.drewN ?_ _ | refine Ext.alloc ?_ _ | refine Ext.trans ?_ (by assumption)))).mono ?_; rintro _ w1 ⟨rfl, x1⟩; obtain ⟨b0, b1, b2⟩ := hbox.out w1 x1)
    | (go_at_call 49; refine (C2.out _ (hx0.trans x1)).mono ?_; rintro _ _ ⟨rfl, rfl⟩))
  have hrow := hid (WRow.made (w := w1) (t := 22) (n := m) rfl)
  obtain ⟨g, hg⟩ : ∃ g, w1.heap.size = g := ⟨_, rfl⟩
  have hgw : w1.heap.size ≤ g := by omega
  obtain ⟨w2, hw2⟩ : ∃ w2, w1.alloc (.cells (madeCells #[Value.int .u64 0] m) 22) = w2 := ⟨_, rfl⟩
  have hx2 : Ext w1 w2 := hw2 ▸ (Ext.refl w1).alloc _
  rw [hg, hw2] at hrow
  rw [hg, hw2]
  clear hg hw2 hmk b0 b1 b2
  go_loopw [27] (fun i wr => ∃ (k : Nat) (l : List Int), i = .int .i64 k ∧ k ≤ m ∧ Hid (l.length = m) ∧ Hid (∀ j, l.getD j 0 = if j < k then F j else 0) ∧ Hid (WRow wr g 0 l) ∧ Ext w1 wr) (fun i _ => m - (intOf i).toNat)
  case atStart => exact ⟨0, _, rfl, Nat.zero_le _, hrl, hid (fun j => by rw [replicate_get]; simp), hrow, hx2⟩
  case round =>
    obtain ⟨k, l, rfl, hk, hln, hl2, Hrw, hxw⟩ := hrel
    clear hx2
    obtain ⟨b0, b1, b2⟩ := hbox.out wr (x1.trans hxw)
    by_cases hlt : k < m
    · have hck := hcap.out k hlt
      have hfk := HF.out k
      obtain ⟨z, hz⟩ : ∃ z, F k = z := ⟨_, rfl⟩
      rw [hz] at hfk
      have hdot := hid ((dot_piece (p := p) (Ok.out.at_ hlt) Hyl.out).trans hfk)
      have Hz := hid hz
      clear hz hfk
      go_wp2_with fail
      refine (mxRow (m : Int) (n : Int) n k b off xs.length cap wr rfl hn (by omega) hck k2).mono ?_
      rintro _ w3 ⟨rfl, x3⟩
      go_wp2_with fail
      refine (dot_as p z _ u (piece xs k n) ys w3 ((Hv.out.ext ((hx0.trans x1).trans (hxw.trans x3))).sub (k * n) n (Ok.out.at_ hlt) hn.1) (Hu.out.ext ((hx0.trans x1).trans (hxw.trans x3))) ((piece_rng Ok.out.hx k n).u64 hp2.2) (Hy.out.u64 hp2.2) (by rw [piece_len (Ok.out.at_ hlt), Hyl.out]) ((piece_rng Ok.out.hx k n).has Ok.out.hp) (Hy.out.has Ok.out.hp) hdot.out).mono ?_
      rintro _ w4 ⟨rfl, x4⟩
      have g2 := ((Hrw.out.ext (x3.trans x4)).2 k (by rw [hln.out]; omega)).1
      have f2 := ((Hrw.out.ext (x3.trans x4)).2 k (by rw [hln.out]; omega)).2
      rw [Nat.zero_add] at g2 f2
      go_wp2_with fail
      go_roundw
      case rel =>
        have hs := (Hrw.out.ext (x3.trans x4)).set_ (i := k) (by rw [hln.out]; omega) z
        rw [Nat.zero_add] at hs
        refine ⟨k + 1, l.set k z, by go_num, by omega, hid (by rw [List.length_set]; exact hln.out), hid (fun j => ?_), hid hs, (hxw.trans (x3.trans x4)).setCell (p := ⟨g, k, none⟩) hgw _⟩
        rw [set_get l k j z (by rw [hln.out]; omega), hl2.out]
        by_cases e : k = j
        · subst e
          rw [if_pos rfl, if_pos (by omega), Hz.out]
        · rw [if_neg e]
          by_cases e2 : j < k
          · rw [if_pos e2, if_pos (by omega)]
          · rw [if_neg e2, if_neg (by omega)]
      case measure => simp [intOf]; omega
    · obtain rfl : m = k := by omega
      go_wp2_with fail
      go_ret2
      have e : l = tab m F := tab_of hln.out fun j hj => by rw [hl2.out, if_pos hj]
      exact ⟨g, rfl, by have := (hx0.trans x1).size; omega, e ▸ Hrw.out, hx0.trans (x1.trans hxw)⟩
end Go.Proofs.Ythmmakkldkjnlaa
/- The document's own product of matrices: its numbers lie in memory of its own. -/
namespace Go.Proofs.Ythmmakkldkjnlaa
open Go.RowKit Go.Maps

/-- what a call answers: a matrix, in memory of its own -/
def RetMA (r c : Int) (l : List Int) (w : World) (e : Ending) (w' : World) : Prop := ∃ a k, e = .returned (matV r c (.slice a l.length k)) ∧ Ints .u64 w' (.slice a l.length k) l ∧ (0 < l.length → ∃ g, a = some ⟨g, 0, none⟩ ∧ w.heap.size ≤ g) ∧ Ext w w'
theorem RetMA.plain {r c : Int} {l : List Int} {w w' : World} {e : Ending} (h : RetMA r c l w e w') : RetM r c l w e w' := by
  obtain ⟨a, k, he, hi, -, hx⟩ := h
  exact ⟨_, he, hi, hx⟩
set_option maxRecDepth 100000 in
set_option maxHeartbeats 4000000 in
theorem rmMulA (p : Int) (m n q : Nat) (v u : Value) (xs ys : List Int) (w : World) (hp : rightB p = true) (hv : Ints .u64 w v xs) (hu : Ints .u64 w u ys) (hx : Rng p xs) (hy : Rng p ys) (hm : m ≤ 64) (hn : n ≤ 64) (hq : q ≤ 64) (hxl : xs.length = m * n) (hyl : ys.length = n * q) :
    Calls Try.prog 74 #[.int .u64 p, matV m n v, matV n q u] w (RetMA m q (grid m q fun i k => dv p n (fun j => xs.getD (i * n + j) 0) fun j => ys.getD (j * q + k) 0) w) := by
  have hp2 := rightB_true hp
  obtain ⟨i0, hi, hz0, hz1, hz2⟩ := info_parts info_u64p
  have Hp := hid hp; have Hx := hid hx; have Hy := hid hy; have Hv := hid hv; have Hu := hid hu; have Hxl := hid hxl; have Hyl := hid hyl
  obtain ⟨a, cap, rfl, k1, k2, k3⟩ := hv
  obtain ⟨a', cap', rfl, m1, m2, m3⟩ := hu
  clear k3 m3 hxl hyl hp hx hy
  obtain ⟨G, hG⟩ : ∃ G : Nat → Int, (fun t => dv p n (fun j => xs.getD (t / q * n + j) 0) fun j => ys.getD (j * q + t % q) 0) = G := ⟨_, rfl⟩
  have HG := hid (fun t => (congrFun hG t : dv p n (fun j => xs.getD (t / q * n + j) 0) (fun j => ys.getD (j * q + t % q) 0) = G t))
  have hgrid : grid m q (fun i k => dv p n (fun j => xs.getD (i * n + j) 0) fun j => ys.getD (j * q + k) 0) = tab (m * q) G := by rw [← hG]; rfl
  rw [hgrid]
  clear hG hgrid
  unfold matV
  have HB := hid (boxes4 w 25 #[.int .i64 (m : Int), .int .i64 (n : Int), .slice a xs.length cap] #[.int .i64 (n : Int), .int .i64 (q : Int), .slice a' ys.length cap'] #[.int .i64 0, .int .i64 0, .slice none 0 0] #[.int .i64 (m : Int), .int .i64 (q : Int), .slice none 0 0])
  go_enter Try.func74, Try.ntmps74
  go_wp2_with fail
  have hb := HB.out
  obtain ⟨w4, hw4⟩ := at_name ((((w.alloc (.cells #[.int .i64 (m : Int), .int .i64 (n : Int), .slice a xs.length cap] 25)).alloc (.cells #[.int .i64 (n : Int), .int .i64 (q : Int), .slice a' ys.length cap'] 25)).alloc (.cells #[.int .i64 0, .int .i64 0, .slice none 0 0] 25)).alloc (.cells #[.int .i64 (m : Int), .int .i64 (q : Int), .slice none 0 0] 25))
  rw [hw4] at hb
  rw [hw4]
  obtain ⟨g1, hg1⟩ := at_name w.heap.size
  rw [hg1] at hb
  rw [hg1]
  obtain ⟨g2, hg2⟩ := at_name (g1 + 1)
  rw [hg2] at hb
  rw [hg2]
  obtain ⟨g3, hg3⟩ := at_name (g2 + 1)
  rw [hg3] at hb
  rw [hg3]
  obtain ⟨g4, hg4⟩ := at_name (g3 + 1)
  rw [hg4] at hb
  rw [hg4]
  obtain ⟨hA0, hB0, hZ0, hO0, hx4⟩ := hb
  have n14 : g1 ≠ g4 := by omega
  have n24 : g2 ≠ g4 := by omega
  have n34 : g3 ≠ g4 := by omega
  have hw0 : w.heap.size ≤ g4 := by omega
  have hw3 : w.heap.size ≤ g3 := by omega
  clear hw4 hg1 hg2 hg3 hg4 HB
  have HA0 := hid hA0; have HB0 := hid hB0; have HZ0 := hid hZ0
  have HO0 := hid (show Bld w w4 g4 w4.heap.size m q (.slice none 0 0) 0 G from ⟨hO0, World.ownsRow_nil _ _ _ _, hx4, hx4.size, hw0⟩)
  clear hA0 hB0 hZ0 hO0
  go_loopw [8] (fun iv wr => ∃ (i t : Nat) (rv : Value), iv = .int .i64 i ∧ i ≤ m ∧ Hid (t = i * q) ∧ Hid (Bld w wr g4 w4.heap.size m q rv t G) ∧ Hid (Blk wr g1 25 #[.int .i64 (m : Int), .int .i64 (n : Int), .slice a xs.length cap]) ∧ Hid (Blk wr g2 25 #[.int .i64 (n : Int), .int .i64 (q : Int), .slice a' ys.length cap']) ∧ Hid (Blk wr g3 25 #[.int .i64 0, .int .i64 0, .slice none 0 0]) ∧ w4.heap.size ≤ wr.heap.size) (fun iv _ => m - (intOf iv).toNat)
  case atStart => exact ⟨0, 0, _, rfl, Nat.zero_le _, hid (by simp), HO0, HA0, HB0, HZ0, Nat.le_refl _⟩
  case round =>
    obtain ⟨i, t, rv, rfl, hi', ht, HO, HA, HB, HZ, hsz⟩ := hrel
    obtain ⟨b0, b1, b2⟩ := HA.out.at3
    by_cases hlt : i < m
    · go_wp2_with fail
      go_loopw [9] (fun kv wr => ∃ (k t : Nat) (rv : Value), kv = .int .i64 k ∧ k ≤ q ∧ Hid (t = i * q + k) ∧ Hid (Bld w wr g4 w4.heap.size m q rv t G) ∧ Hid (Blk wr g1 25 #[.int .i64 (m : Int), .int .i64 (n : Int), .slice a xs.length cap]) ∧ Hid (Blk wr g2 25 #[.int .i64 (n : Int), .int .i64 (q : Int), .slice a' ys.length cap']) ∧ Hid (Blk wr g3 25 #[.int .i64 0, .int .i64 0, .slice none 0 0]) ∧ w4.heap.size ≤ wr.heap.size) (fun kv _ => q - (intOf kv).toNat)
      case atStart => exact ⟨0, t, rv, rfl, Nat.zero_le _, ht, HO, HA, HB, HZ, hsz⟩
      case round =>
        clear b0 b1 b2 HO HA HB HZ hsz ht
        obtain ⟨k, t, rv, rfl, hk, ht, HO, HA, HB, HZ, hsz⟩ := hrel
        rename World => wo
        obtain ⟨c0, c1, c2⟩ := HB.out.at3
        by_cases hlk : k < q
        · go_wp2_with fail
          go_loopw [11, 10] (fun jv zv wr => ∃ (j : Nat) (z : Int), jv = .int .i64 j ∧ zv = .int .u64 z ∧ j ≤ n ∧ 0 ≤ z ∧ z < p ∧ Hid (z = dv p j (fun j => xs.getD (i * n + j) 0) fun j => ys.getD (j * q + k) 0) ∧ Ext wo wr) (fun jv _ _ => n - (intOf jv).toNat)
          case atStart => exact ⟨0, 0, rfl, rfl, Nat.zero_le _, by omega, by omega, hid (by rw [dv_zero]), Ext.refl _⟩
          case round =>
            clear c0 c1 c2
            obtain ⟨j, z, rfl, rfl, hj, z0, z1, hz, hxi⟩ := hrel
            rename World => wi
            obtain ⟨b0, b1, b2⟩ := (HA.out.ext hxi).at3
            obtain ⟨c0, c1, c2⟩ := (HB.out.ext hxi).at3
            by_cases hlj : j < n
            · have hat1 := at_lt (r := m) hlt hlj
              have hat2 := at_lt (r := n) hlj hlk
              have rx := Hx.out.getD hp2.1 (i * n + j)
              have ry := Hy.out.getD hp2.1 (j * q + k)
              have hds := dv_succ (p := p) j (fun j => xs.getD (i * n + j) 0) (fun j => ys.getD (j * q + k) 0)
              have hA := fun (W : World) (hW : Ext wi W) => rmAt (m : Int) (n : Int) (.slice a xs.length cap) xs i j n W (Hv.out.ext (HO.out.ext.trans (hxi.trans hW))) rfl (by omega) (by omega) (by omega) (by rw [Hxl.out]; exact hat1)
              have hB := fun (W : World) (hW : Ext wi W) => rmAt (n : Int) (q : Int) (.slice a' ys.length cap') ys j k q W (Hu.out.ext (HO.out.ext.trans (hxi.trans hW))) rfl (by omega) (by omega) (by omega) (by rw [Hyl.out]; exact hat2)
              obtain ⟨x, ex⟩ : ∃ x, xs.getD (i * n + j) 0 = x := ⟨_, rfl⟩
              obtain ⟨y, ey⟩ : ∃ y, ys.getD (j * q + k) 0 = y := ⟨_, rfl⟩
              simp only [ex, ey] at hds
              rw [ex] at rx hA; rw [ey] at ry hB
              rw [← hz.out] at hds
              obtain ⟨r, er, r0, r1⟩ := name_mod (p := p) (x * y) hp2.1
              obtain ⟨z', ez', z'0, z'1⟩ := name_mod (p := p) (z + r) hp2.1
              rw [er, ez'] at hds
              have Er := hid er; have Ez := hid ez'; have Hds := hid hds.symm
              unfold matV at hA hB
              have HA' := hid hA; have HB' := hid hB
              have fs := hid (fun (W : World) (hW : Ext wi W) => And.intro (((HA.out.ext hxi).ext hW).at3) (((HB.out.ext hxi).ext hW).at3))
              clear ex ey er ez' hds hz hat1 hat2 hA hB
              go_wp2_with fail
              go_region_held3 (fun w' => (w'.cell? ⟨g1, 0, none⟩ = some (.int .i64 (m : Int)) ∧ w'.cell? ⟨g1, 1, none⟩ = some (.int .i64 (n : Int)) ∧ w'.cell? ⟨g1, 2, none⟩ = some (.slice a xs.length cap)) ∧ w'.cell? ⟨g2, 0, none⟩ = some (.int .i64 (n : Int)) ∧ w'.cell? ⟨g2, 1, none⟩ = some (.int .i64 (q : Int)) ∧ w'.cell? ⟨g2, 2, none⟩ = some (.slice a' ys.length cap')) (first | assumption | exact fs.out _ ((Ext.refl wi).drew) | exact fs.out _ (by assumption))
                ((first
                  | (go_at_call_of 15 a; refine (HA'.out _ (by first | exact (Ext.refl wi).drew | assumption)).mono ?_; rintro _ w5 ⟨rfl, x5⟩; have y5 : Ext wi w5 := Ext.trans (by first | exact (Ext.refl wi).drew | assumption) x5)
                  | (go_at_call_of 15 a'; refine (HB'.out _ (by first | exact (Ext.refl wi).drew | assumption)).mono ?_; rintro _ w6 ⟨rfl, x6⟩; have y6 : Ext wi w6 := Ext.trans (by first | exact (Ext.refl wi).drew | assumption) x6)
                  | (go_at_call 46; refine (rMul p x y r _ Hp.out rx.1 rx.2 ry.1 (by omega) Er.out).mono ?_; rintro _ _ ⟨rfl, rfl⟩)
                  | (go_at_call 45; refine (rAdd p z r z' _ Hp.out z0 z1 r0 r1 Ez.out).mono ?_; rintro _ _ ⟨rfl, rfl⟩)))
              go_wp2_with fail
              go_roundw
              case rel => exact ⟨j + 1, z', by go_num, rfl, by omega, z'0, z'1, Hds, hxi.trans y6⟩
              case measure => simp [intOf]; omega
            · obtain rfl : j = n := by omega
              have hGt : G t = z := by rw [← HG.out t, ht.out, at_mod hlk, at_div hlk, hz.out]
              have happ := hid (show ((tab t G).map (Value.int .u64)) ++ [Value.int .u64 z] = (tab (t + 1) G).map (Value.int .u64) by rw [tab_succ, List.map_append, hGt]; rfl)
              have htb : t ≤ 4096 := by
                have h1 := at_lt (r := m) hlt hlk
                have h2 := Nat.mul_le_mul hm hq
                have := ht.out
                omega
              have hOi := HO.out.ext' hxi
              obtain ⟨o0, o1, o2⟩ := hOi.box.at3
              have hsi := hxi.size
              have e5 : Ext wo (wi.alloc (.cells #[.int .u64 z] 22)) := hxi.alloc _
              have hB5 := HO.out.ext' e5
              have hs5 := e5.size
              have Hown := hid hOi.own
              clear hGt hOi
              go_wp2_with (first | (at_builtin; refine wpList_append_own _ rfl _ _ 23 rfl w4.heap.size 22 i0 (.int .u64 0) 1 8 Try.underlying23 hi hz0 hz1 hz2 rfl (by decide) rv t _ rfl (Hown.out.alloc _) ⟨wi.heap.size, 0, none⟩ 1 1 [.int .u64 z] rfl rfl (cells_new _ _ _ (by simp)) (by simp [Value.oneCell']) (by simp only [maxLen]; omega) (by omega) (by simp; omega) ?_; intro v6 w6 hown6 hgrow6 hnil6; have hb6 := hB5.box' hgrow6; have o6 := hb6.1; have f6 := hb6.2; rw [happ.out] at hown6; have Hown6 := hid hown6; obtain ⟨a6, c6, rfl, q2, q3, q4, q5⟩ := WRow.of_owns hown6; clear q5 q4 hown6 hb6) | fail)
              have hs6 := hgrow6.size
              go_roundw
              case rel => exact ⟨k + 1, t + 1, _, by go_num, by omega, hid (by rw [ht.out]; omega), hid (hB5.next Hown6.out hgrow6), hid (hB5.other (HA.out.ext e5) (by decide) n14 hgrow6), hid (hB5.other (HB.out.ext e5) (by decide) n24 hgrow6), hid (hB5.other (HZ.out.ext e5) (by decide) n34 hgrow6), by simp only [World.setCell, Array.size_modify]; omega⟩
              case measure => simp [intOf]; omega
        · obtain rfl : k = q := by omega
          go_wp2_with fail
          go_roundw
          case rel => exact ⟨i + 1, t, rv, by go_num, by omega, hid (by rw [ht.out, Nat.succ_mul]), HO, HA, HB, HZ, hsz⟩
          case measure => simp [intOf]; omega
    · obtain rfl : i = m := by omega
      obtain ⟨o0, o1, o2⟩ := HO.out.box.at3
      obtain ⟨z0, z1, z2⟩ := HZ.out.at3
      have zf0 := HZ.out.frozen 0
      have zf1 := HZ.out.frozen 1
      have zf2 := HZ.out.frozen 2
      obtain ⟨a6, c6, rfl, q2, q3, q4, q5⟩ := WRow.of_owns HO.out.own
      have Q5 := hid q5
      clear q5
      have hI := hid (own_set3 HO.out.own HZ.out (.int .i64 (i : Int)) (.int .i64 (q : Int)) (.slice a6 t c6))
      have hE := hid (((HO.out.ext.setCell (p := ⟨g3, 0, none⟩) hw3 (.int .i64 (i : Int))).setCell (p := ⟨g3, 1, none⟩) hw3 (.int .i64 (q : Int))).setCell (p := ⟨g3, 2, none⟩) hw3 (.slice a6 t c6))
      have htt := ht.out
      subst htt
      have hbk2 := hid (show Blk _ g3 25 #[.int .i64 (i : Int), .int .i64 (q : Int), .slice a6 (i * q) c6] from ((HZ.out.set_ 0 (.int .i64 (i : Int))).set_ 1 (.int .i64 (q : Int))).set_ 2 (.slice a6 (i * q) c6))
      go_wp2_with fail
      refine bodyPost_ret (results_cell_row rfl _ _ g3 25 #[.int .i64 (i : Int), .int .i64 (q : Int), .slice a6 (i * q) c6] (0, 0) _ rfl hbk2.out Try.underlying25 rfl (by kernel_rfl)) rfl ?_
      refine ⟨a6, c6, by rw [tab_len]; rfl, by rw [tab_len]; exact hI.out, fun h => ?_, hE.out⟩
      rw [tab_len] at h
      obtain ⟨g0, h1, h2, -⟩ := Q5.out h
      exact ⟨g0, h1, Nat.le_trans HO.out.hb h2⟩
end Go.Proofs.Ythmmakkldkjnlaa
