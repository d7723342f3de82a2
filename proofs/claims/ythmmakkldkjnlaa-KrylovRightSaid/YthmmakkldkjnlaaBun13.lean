/- What the texts Mat2, Ref06b, Ref06d, Prod, PolyOps show, in one text. -/
import Derived.Test.YthmmakkldkjnlaaBun12
import Derived.Deep.RegionHeld3
import Derived.Deep.DrawnRows
import Derived.Test.YthmmakkldkjnlaaBun05
import Derived.Test.YthmmakkldkjnlaaBun10
import Derived.Test.YthmmakkldkjnlaaBun06
import Derived.Test.YthmmakkldkjnlaaBun09
/- The document's own answers of layer 5: a matrix times a vector, a vector times a matrix. -/
namespace Go.Proofs.Ythmmakkldkjnlaa
open Go.RowKit Go.Maps

/-- a value that was boxed keeps its cells -/
theorem box_cell {w W : World} {t : TypeId} {cs : Array Value} (hW : Ext (w.alloc (.cells cs t)) W) (j : Nat) : W.cell? ⟨w.heap.size, j, none⟩ = cs[j]? :=
  (hW.cells _ _ (by simp)).trans (cell_new w cs t j)
theorem box3 (w : World) (t : TypeId) (a b c : Value) : ∀ W, Ext (w.alloc (.cells #[a, b, c] t)) W → W.cell? ⟨w.heap.size, 0, none⟩ = some a ∧ W.cell? ⟨w.heap.size, 1, none⟩ = some b ∧ W.cell? ⟨w.heap.size, 2, none⟩ = some c :=
  fun _ hW => ⟨box_cell hW 0, box_cell hW 1, box_cell hW 2⟩
/-- what a call answers: numbers, in memory of its own or not -/
def RetL (l : List Int) (w : World) (e : Ending) (w' : World) : Prop := ∃ v, e = .returned v ∧ Ints .u64 w' v l ∧ Ext w w'

/-- .. in memory of its own -/
def RetLO (l : List Int) (w : World) (e : Ending) (w' : World) : Prop := ∃ a c, e = .returned (.slice a l.length c) ∧ Ints .u64 w' (.slice a l.length c) l ∧ (0 < l.length → ∃ g, a = some ⟨g, 0, none⟩ ∧ w.heap.size ≤ g) ∧ Ext w w'
set_option maxRecDepth 100000 in
set_option maxHeartbeats 2000000 in
theorem rmTimesO (p : Int) (m n : Nat) (v u : Value) (xs ys : List Int) (w : World) (hp : rightB p = true) (hv : Ints .u64 w v xs) (hu : Ints .u64 w u ys) (hx : Rng p xs) (hy : Rng p ys) (hm : m ≤ 64) (hn : n ≤ 64) (hxl : xs.length = m * n) (hyl : ys.length = n) :
    Calls Try.prog 21 #[.int .u64 p, matV m n v, u] w (RetLO (tab m fun i => dv p n (fun k => xs.getD (i * n + k) 0) fun k => ys.getD k 0) w) := by
  have hp2 := rightB_true hp
  obtain ⟨i0, hi, hz0, hz1, hz2'⟩ := info_parts info_u64p
  have Hp := hid hp; have Hv := hid hv; have Hx := hid hx; have Hy := hid hy; have Hxl := hid hxl; have Hyl := hid hyl
  obtain ⟨a, cap, rfl, k1, k2, k3⟩ := hv
  obtain ⟨a', cap', rfl, m1, m2, m3⟩ := hu
  have M3 := hid m3
  clear k3 m3 hp hx hy hxl
  rw [hyl] at m1 M3 ⊢
  clear hyl
  obtain ⟨F, hF⟩ : ∃ F : Nat → Int, (fun i => dv p n (fun k => xs.getD (i * n + k) 0) fun k => ys.getD k 0) = F := ⟨_, rfl⟩
  have HF := hid (fun i => (congrFun hF i : dv p n (fun k => xs.getD (i * n + k) 0) (fun k => ys.getD k 0) = F i))
  rw [hF]
  clear hF
  unfold matV
  go_enter Try.func21, Try.ntmps21
  go_wp2_with fail
  have hbox := hid (box3 w 25 (.int .i64 (m : Int)) (.int .i64 (n : Int)) (.slice a xs.length cap))
  have hx1 : Ext w (w.alloc (.cells #[.int .i64 (m : Int), .int .i64 (n : Int), .slice a xs.length cap] 25)) := (Ext.refl w).alloc _
  obtain ⟨w1, hw1⟩ : ∃ w1, w.alloc (.cells #[.int .i64 (m : Int), .int .i64 (n : Int), .slice a xs.length cap] 25) = w1 := ⟨_, rfl⟩
  obtain ⟨g, hg⟩ : ∃ g, w.heap.size = g := ⟨_, rfl⟩
  rw [hw1, hg] at hbox
  rw [hw1] at hx1
  rw [hw1, hg]
  clear hw1 hg
  go_loopw [8, 7] (fun i rv wr => ∃ k : Nat, i = .int .i64 k ∧ k ≤ m ∧ Hid (wr.ownsRow w1.heap.size 22 1 rv k ((tab k F).map (Value.int .u64))) ∧ Ext w1 wr) (fun i _ _ => m - (intOf i).toNat)
  case atStart => exact ⟨0, rfl, Nat.zero_le _, hid (World.ownsRow_nil _ _ _ _), Ext.refl _⟩
  case round =>
    obtain ⟨i, rfl, hi', hown, hxr⟩ := hrel
    obtain ⟨b0, b1, b2⟩ := hbox.out wr hxr
    by_cases hlt : i < m
    · rename World => wo
      go_wp2_with fail
      go_loopw [10, 9] (fun j zv wr => ∃ (k : Nat) (z : Int), j = .int .i64 k ∧ zv = .int .u64 z ∧ k ≤ n ∧ 0 ≤ z ∧ z < p ∧ Hid (z = dv p k (fun k => xs.getD (i * n + k) 0) fun k => ys.getD k 0) ∧ Ext wo wr) (fun j _ _ => n - (intOf j).toNat)
      case atStart => exact ⟨0, 0, rfl, rfl, Nat.zero_le _, by omega, by omega, hid (by rw [dv_zero]), Ext.refl _⟩
      case round =>
        obtain ⟨k, z, rfl, rfl, hk, z0, z1, hz, hxi⟩ := hrel
        rename World => wi
        obtain ⟨b0, b1, b2⟩ := hbox.out wi (hxr.trans hxi)
        by_cases hlk : k < n
        · obtain ⟨b', off', rfl, hb', hcell'⟩ := M3.out (by omega)
          have gy := ((hx1.trans (hxr.trans hxi)).cells _ _ hb').trans (hcell' k hlk)
          have hat := at_lt (r := m) hlt hlk
          have ry := Hy.out.getD hp2.1 k
          have rx := Hx.out.getD hp2.1 (i * n + k)
          have hds := dv_succ (p := p) k (fun k => xs.getD (i * n + k) 0) (fun k => ys.getD k 0)
          have hA := hid (fun (W : World) (hW : Ext wi W) => rmAt (m : Int) (n : Int) (.slice a xs.length cap) xs i k n W (Hv.out.ext (hx1.trans (hxr.trans (hxi.trans hW)))) rfl (by omega) (by omega) (by omega) (by rw [Hxl.out]; exact hat))
          obtain ⟨y, ey⟩ : ∃ y, ys.getD k 0 = y := ⟨_, rfl⟩
          obtain ⟨x, ex⟩ : ∃ x, xs.getD (i * n + k) 0 = x := ⟨_, rfl⟩
          simp only [ex, ey] at hds
          rw [ey] at gy ry; rw [ex] at rx hA
          rw [← hz.out] at hds
          obtain ⟨q, eq, q0, q1⟩ := name_mod (p := p) (x * y) hp2.1
          obtain ⟨t, et, t0, t1⟩ := name_mod (p := p) (z + q) hp2.1
          rw [eq, et] at hds
          have Eq := hid eq; have Et := hid et; have Hds := hid hds.symm
          have fs := hid (fun (W : World) (hW : Ext wi W) => And.intro ((hW.cells _ _ (cell_lt b0)).trans b0) (And.intro ((hW.cells _ _ (cell_lt b1)).trans b1) (And.intro ((hW.cells _ _ (cell_lt b2)).trans b2) ((hW.cells _ _ (cell_lt gy)).trans gy))))
          clear ex ey eq et hds hz hcell' hat
          unfold matV at hA
          go_wp2_with fail
          go_region_held3 (fun w' => w'.cell? ⟨g, 0, none⟩ = some (.int .i64 (m : Int)) ∧ w'.cell? ⟨g, 1, none⟩ = some (.int .i64 (n : Int)) ∧ w'.cell? ⟨g, 2, none⟩ = some (.slice a xs.length cap) ∧ w'.cell? ⟨b', off' + k, none⟩ = some (.int .u64 y)) (first | assumption | exact fs.out _ ((Ext.refl wi).drew) | exact fs.out _ (((Ext.refl wi).drew).trans x5))
            ((first
              | (go_at_call 15; refine (hA.out _ ((Ext.refl wi).drew)).mono ?_; rintro _ w5 ⟨rfl, x5⟩)
              | (go_at_call 46; refine (rMul p x y q _ Hp.out rx.1 rx.2 ry.1 (by omega) Eq.out).mono ?_; rintro _ _ ⟨rfl, rfl⟩)
              | (go_at_call 45; refine (rAdd p z q t _ Hp.out z0 z1 q0 q1 Et.out).mono ?_; rintro _ _ ⟨rfl, rfl⟩)))
          have e5 : Ext wi w5 := ((Ext.refl wi).drew).trans x5
          go_wp2_with fail
          go_roundw
          case rel => exact ⟨k + 1, t, by go_num, rfl, by omega, t0, t1, Hds, hxi.trans e5⟩
          case measure => simp [intOf]; omega
        · obtain rfl : k = n := by omega
          have hxw : Ext w1 wi := hxr.trans hxi
          have hsz := hxw.size
          have hz2 : z = F i := by rw [hz.out]; exact HF.out i
          have happ := hid (show ((tab i F).map (Value.int .u64)) ++ [Value.int .u64 z] = (tab (i + 1) F).map (Value.int .u64) by rw [tab_succ, List.map_append, hz2]; rfl)
          have hown2 := hid (ownsRow_ext hown.out hxi)
          clear hz2 hz
          go_wp2_with (first | (at_builtin; refine wpList_append_own _ rfl _ _ 23 rfl w1.heap.size 22 i0 (.int .u64 0) 1 8 Try.underlying23 hi hz0 hz1 hz2' rfl (by decide) _ _ _ rfl (hown2.out.alloc _) ⟨wi.heap.size, 0, none⟩ 1 1 [.int .u64 z] rfl rfl (cells_new _ _ _ (by simp)) (by simp [Value.oneCell']) (by simp only [maxLen]; omega) (by omega) (by simp; omega) ?_; intro v' w6 hown6 hgrow6 hnil6) | fail)
          go_roundw
          case rel => exact ⟨i + 1, by go_num, by omega, hid (by rw [← happ.out]; exact hown6), (hxw.alloc _).grown hgrow6 (fun t e => (hown2.out.lt t e).1)⟩
          case measure => simp [intOf]; omega
    · obtain rfl : i = m := by omega
      obtain ⟨a5, c5, rfl, c52, c53, c54, c55⟩ := WRow.of_owns hown.out
      have hI : Hid (Ints .u64 wr (.slice a5 i c5) (tab i F)) := hid (by
        rcases Nat.eq_zero_or_pos i with h0 | h0
        · exact ⟨a5, c5, by rw [tab_len], by rw [tab_len]; omega, c53, fun h => by rw [tab_len] at h; omega⟩
        · obtain ⟨g4, rfl, hg4, hw4⟩ := c55 h0
          exact hw4.ints' (tab_len _ _) c52 c53)
      have hO := hid (show 0 < (tab i F).length → ∃ g, a5 = some ⟨g, 0, none⟩ ∧ w.heap.size ≤ g from fun h0 => by
        rw [tab_len] at h0
        obtain ⟨g4, e4, hg4, _⟩ := c55 h0
        exact ⟨g4, e4, Nat.le_trans hx1.size hg4⟩)
      clear c55 c54 hown
      go_wp2_with fail
      go_ret
      exact ⟨a5, c5, (show _ = Ending.returned (.slice a5 i c5) from rfl).trans (by rw [tab_len]), by rw [tab_len]; exact hI.out, hO.out, hx1.trans hxr⟩

theorem rmTimes (p : Int) (m n : Nat) (v u : Value) (xs ys : List Int) (w : World) (hp : rightB p = true) (hv : Ints .u64 w v xs) (hu : Ints .u64 w u ys) (hx : Rng p xs) (hy : Rng p ys) (hm : m ≤ 64) (hn : n ≤ 64) (hxl : xs.length = m * n) (hyl : ys.length = n) :
    Calls Try.prog 21 #[.int .u64 p, matV m n v, u] w (RetL (tab m fun i => dv p n (fun k => xs.getD (i * n + k) 0) fun k => ys.getD k 0) w) := by
  refine (rmTimesO p m n v u xs ys w hp hv hu hx hy hm hn hxl hyl).mono ?_
  rintro _ w' ⟨a, c, rfl, h, -, hx'⟩
  exact ⟨_, rfl, h, hx'⟩

end Go.Proofs.Ythmmakkldkjnlaa
/- The document's own answers of layer 6: Back, Do, Sign, Same. -/
namespace Go.Proofs.Ythmmakkldkjnlaa
open Go.RowKit Go.Maps

/-- how many of the first k stand wrong ahead of the i-th -/
def gtTo (p : List Int) (i k : Nat) : Nat := (p.take k).countP fun x => decide (p.getD i 0 < x)
theorem gtTo_le (p : List Int) (i k : Nat) : gtTo p i k ≤ k := Nat.le_trans List.countP_le_length (by simp; omega)
theorem take_snoc_getD {p : List Int} {k : Nat} (h : k < p.length) : p.take (k + 1) = p.take k ++ [p.getD k 0] := by
  rw [List.take_succ_eq_append_getElem h]; simp [List.getD, h]
theorem gtTo_succ {p : List Int} {i k : Nat} (h : k < p.length) : gtTo p i (k + 1) = gtTo p i k + if p.getD i 0 < p.getD k 0 then 1 else 0 := by
  unfold gtTo
  rw [take_snoc_getD h, List.countP_append, List.countP_cons, List.countP_nil]
  simp
theorem inv_take_succ {p : List Int} {i : Nat} (h : i < p.length) : invL (p.take (i + 1)) = invL (p.take i) + gtTo p i i := by
  rw [take_snoc_getD h, inv_snoc]; rfl
theorem inv_take_le (p : List Int) : ∀ i, i ≤ p.length → invL (p.take i) ≤ i * p.length
  | 0, _ => by simp [invL]
  | i + 1, h => by
    have := inv_take_le p i (by omega)
    have := gtTo_le p i i
    rw [inv_take_succ (by omega), Nat.succ_mul]
    omega
end Go.Proofs.Ythmmakkldkjnlaa
/- The document's own answer of layer 6 on rings: Rings; rows of rows of whole numbers. -/
namespace Go.Proofs.Ythmmakkldkjnlaa
open Go.RowKit Go.Maps

/-- in the world w the slice v reads as rows of whole numbers -/
def IntsL (w : World) (v : Value) (ls : List (List Int)) : Prop :=
  ∃ (a : Option Addr) (cap : Nat), v = .slice a ls.length cap ∧ ls.length ≤ cap ∧ cap ≤ 9223372036854775807 ∧
    (0 < ls.length → ∃ b off, a = some ⟨b, off, none⟩ ∧ b < w.heap.size ∧ ∀ j, j < ls.length → ∃ u, w.cell? ⟨b, off + j, none⟩ = some u ∧ Ints .i64 w u (ls.getD j []))
theorem IntsL.ext {w w' : World} {v : Value} {ls : List (List Int)} (h : IntsL w v ls) (he : Ext w w') : IntsL w' v ls := by
  obtain ⟨a, cap, h1, h2, h3, h4⟩ := h
  refine ⟨a, cap, h1, h2, h3, fun hp => ?_⟩
  obtain ⟨b, off, ha, hb, hc⟩ := h4 hp
  refine ⟨b, off, ha, Nat.lt_of_lt_of_le hb he.size, fun j hj => ?_⟩
  obtain ⟨u, c1, c2⟩ := hc j hj
  exact ⟨u, (he.cells _ _ hb).trans c1, c2.ext he⟩
theorem IntsL.nil {w : World} : IntsL w (.slice none 0 0) [] := ⟨none, 0, rfl, by simp, by omega, by simp⟩
/-- what a call answers: rows of whole numbers -/
def RetII (ls : List (List Int)) (w : World) (e : Ending) (w' : World) : Prop := ∃ v, e = .returned v ∧ IntsL w' v ls ∧ Ext w w'

/-- rows that are gathered: the row of them, and each one's own -/
structure RowsI (w0 w : World) (rv : Value) (us : List Value) (ls : List (List Int)) : Prop where
  own : w.ownsRow w0.heap.size 76 1 rv us.length us
  len : us.length = ls.length
  row : ∀ j, j < ls.length → w.ownsRow w0.heap.size 3 1 (us.getD j undef) (ls.getD j []).length ((ls.getD j []).map (Value.int .i64))
  ext : Ext w0 w
theorem RowsI.start (w : World) : RowsI w w (.slice none 0 0) [] [] := ⟨World.ownsRow_nil _ _ _ _, rfl, fun _ h => absurd h (Nat.not_lt_zero _), Ext.refl _⟩
theorem RowsI.ext' {w0 w w' : World} {rv : Value} {us : List Value} {ls : List (List Int)} (h : RowsI w0 w rv us ls) (y : Ext w w') : RowsI w0 w' rv us ls :=
  ⟨ownsRow_ext h.own y, h.len, fun j hj => ownsRow_ext (h.row j hj) y, h.ext.trans y⟩
/-- a row of another kind grows: all stays -/
theorem RowsI.grown {w0 w w' : World} {rv v : Value} {us xs : List Value} {ls : List (List Int)} (h : RowsI w0 w rv us ls) {base n : Nat} (hv : w.ownsRow base 3 1 v n xs) (hb : w0.heap.size ≤ base)
    (ha : ∀ j, j < ls.length → (us.getD j undef).ownBlock = none ∨ (us.getD j undef).ownBlock ≠ v.ownBlock) (hg : w.grownBy w' v.ownBlock) : RowsI w0 w' rv us ls :=
  ⟨h.own.kept hg (ownsRow_apart h.own hv (by decide)), h.len, fun j hj => (h.row j hj).kept hg (ha j hj), h.ext.grown hg fun k e => Nat.le_trans hb (hv.lt k e).1⟩
theorem getD_snoc {α : Type} (l : List α) (x d : α) (j : Nat) : (l ++ [x]).getD j d = if j < l.length then l.getD j d else if j = l.length then x else d := by
  simp only [List.getD, List.getElem?_append]
  split
  · rfl
  · split
    · rename_i h; rw [h, Nat.sub_self]; rfl
    · rw [List.getElem?_eq_none (by simp; omega)]; rfl
/-- a row is put behind -/
theorem RowsI.next {w0 w w' : World} {rv v' u : Value} {us : List Value} {ls : List (List Int)} {l : List Int} (h : RowsI w0 w rv us ls) (hu : w.ownsRow w0.heap.size 3 1 u l.length (l.map (Value.int .i64)))
    (ho : w'.ownsRow w0.heap.size 76 1 v' (us.length + 1) (us ++ [u])) (hg : w.grownBy w' rv.ownBlock) : RowsI w0 w' v' (us ++ [u]) (ls ++ [l]) := by
  refine ⟨by rw [List.length_append]; exact ho, by simp [h.len], fun j hj => ?_, h.ext.grown hg fun k e => (h.own.lt k e).1⟩
  have hlen := h.len
  rw [List.length_append, List.length_cons, List.length_nil] at hj
  rw [getD_snoc, getD_snoc]
  by_cases e : j < ls.length
  · rw [if_pos (by omega), if_pos e]
    exact (h.row j e).kept hg (ownsRow_apart (h.row j e) h.own (by decide))
  · rw [if_neg (by omega), if_neg e, if_pos (by omega), if_pos (by omega)]
    exact hu.kept hg (ownsRow_apart hu h.own (by decide))
theorem RowsI.ints {w0 w : World} {rv : Value} {us : List Value} {ls : List (List Int)} (h : RowsI w0 w rv us ls) : IntsL w rv ls := by
  have hlen := h.len
  have ho := h.own
  obtain ⟨_, ⟨rfl, h1⟩ | ⟨g, cap, cur, rfl, hg, hb, hc1, hc2, hs, ht⟩⟩ := h.own
  · obtain rfl : ls = [] := List.eq_nil_of_length_eq_zero (by omega)
    exact IntsL.nil
  · refine ⟨_, cap, by rw [hlen], by omega, by unfold maxLen at hc2; omega, fun _ => ⟨g, 0, rfl, Blk.lt (t := 76) (cs := cur) hb, fun j hj => ⟨us.getD j undef, ?_, ?_⟩⟩⟩
    · rw [Nat.zero_add, ho.cellAt j (by omega), List.getD, List.getElem?_eq_getElem (show j < us.length by omega)]; rfl
    · obtain ⟨_, _, _, _, hI⟩ := owns_ints (h.row j hj)
      exact hI
theorem info_sip : (Try.prog.info? 76).map (fun i => (i.zero, i.size, i.bytes)) = some (some (.slice none 0 0), 1, 24) := by kernel_rfl

/-- the least of the first so many of a ring? -/
def leastTo (p : List Int) (s j : Nat) : Bool := (List.range j).all fun i => decide (s ≤ itL p i s)
theorem leastTo_succ (p : List Int) (s j : Nat) : leastTo p s (j + 1) = (leastTo p s j && decide (s ≤ itL p j s)) := by
  unfold leastTo
  rw [List.range_succ, List.all_append]
  simp
theorem leastTo_all (p : List Int) (s : Nat) : leastTo p s (perL p s) = leastB p s := by
  unfold leastTo leastB ringL tab
  rw [List.all_map]
  congr 1
  funext i
  simp [Function.comp]
theorem ringsTo_none {p : List Int} {k : Nat} (h : leastB p k = false) : ringsTo p (k + 1) = ringsTo p k := by rw [ringsTo_succ, h]; rfl
theorem ringsTo_some {p : List Int} {k : Nat} (h : leastB p k = true) : ringsTo p (k + 1) = ringsTo p k ++ [ringL p k] := by rw [ringsTo_succ, h]; rfl

def lenV : Value → Nat
  | .slice _ n _ => n
  | _ => 0
end Go.Proofs.Ythmmakkldkjnlaa
/- Products of polynomials. -/
namespace Go.Proofs.Ythmmakkldkjnlaa
open Go.RowKit

attribute [local go_sem ↓] Go.wp_at_zero Go.wp_at_succ

/-- a product's number, by the pieces that meet there -/
theorem prod_at {p : Int} {xs ys : List Int} (hx : Rng p xs) (hy : Rng p ys) (k low m : Nat) (h1 : low + m ≤ xs.length) (h2 : k + 1 ≤ low + ys.length) (h3 : low + m ≤ k + 1) (h4 : low = 0 ∨ k + 1 = low + ys.length) (h5 : low + m = k + 1 ∨ low + m = xs.length) :
    dotZ ((xs.drop low).take m) ((ys.reverse.drop (ys.length + low - (k + 1))).take m) % p = (pol p xs * pol p ys).co k := by
  have l1 : ((xs.drop low).take m).length = m := by simp; omega
  have l3 : ys.reverse.length = ys.length := List.length_reverse
  have l2 : ((ys.reverse.drop (ys.length + low - (k + 1))).take m).length = m := by rw [List.length_take, List.length_drop, l3]; omega
  rw [Ser.mul_co, cv, sm_congr (g := fun i => xs.getD i 0 * ys.getD (k - i) 0) (fun i _ => by rw [hx.co, hy.co]), dotZ_sm _ _ (by rw [l1, l2]), l1]
  congr 1
  refine Eq.trans (sm_congr fun i hi => ?_) (sm_piece low m (by omega) (fun i hi => by
      rcases h4 with h | h
      · omega
      · rw [getD_over (xs := ys) (by omega), Int.mul_zero]) (fun i a b => by
      rcases h5 with h | h
      · omega
      · rw [getD_over (xs := xs) (by omega), Int.zero_mul])).symm
  rw [sub_get _ _ _ _ hi, sub_get _ _ _ _ hi, rev_get ys (by omega), show ys.length - 1 - (ys.length + low - (k + 1) + i) = k - (low + i) by omega]

set_option maxRecDepth 100000 in
set_option maxHeartbeats 2000000 in
theorem product_any (p : Int) (v u : Value) (xs ys : List Int) (w : World) (hp : rightB p = true) (hv : Ints .u64 w v xs) (hu : Ints .u64 w u ys) (hx : Rng p xs) (hy : Rng p ys) (hl : xs.length ≤ 1000000 ∧ ys.length ≤ 1000000) :
    Calls Try.prog 88 #[.int .u64 p, v, u] w (RetP p (pol p xs * pol p ys) w) := by
  have hp2 := rightB_true hp
  by_cases hx0 : xs.length = 0
  · obtain rfl : xs = [] := List.eq_nil_of_length_eq_zero hx0
    obtain ⟨a, cap, rfl, hc1, hc2, hc⟩ := hv
    clear hc
    obtain ⟨f, hf⟩ : ∃ f, pol p [] * pol p ys = f := ⟨_, rfl⟩
    have hz : pol p [] = f := by rw [← hf, pol_nil, Ser.zero_mul]
    have Hz := hid hz
    rw [hf]
    clear hz hf hu hx hy
    go_enter Try.func88, Try.ntmps88
    go_wp2_with fail
    go_ret
    exact ⟨_, [], rfl, Ints.nil, Pol.nil, Hz.out, (by repeat (first | exact Ext.refl _ | assumption | refine Ext.drew ?_ | refine Ext.drewN ?_ _ | refine Ext.alloc ?_ _ | refine Ext.trans ?_ (by assumption)))⟩
  by_cases hy0 : ys.length = 0
  · obtain rfl : ys = [] := List.eq_nil_of_length_eq_zero hy0
    obtain ⟨a, cap, rfl, hc1, hc2, hc⟩ := hv
    obtain ⟨a', cap', rfl, hd1, hd2, hd⟩ := hu
    clear hc hd
    have b1 : ((xs.length : Int) == 0) = false := by rw [beq_eq_false_iff_ne]; omega
    obtain ⟨f, hf⟩ : ∃ f, pol p xs * pol p [] = f := ⟨_, rfl⟩
    have hz : pol p [] = f := by rw [← hf, pol_nil, Ser.mul_zero]
    have Hz := hid hz
    rw [hf]
    clear hz hf hx hy hx0
    go_enter Try.func88, Try.ntmps88
    go_wp2_with fail
    go_ret
    exact ⟨_, [], rfl, Ints.nil, Pol.nil, Hz.out, (by repeat (first | exact Ext.refl _ | assumption | refine Ext.drew ?_ | refine Ext.drewN ?_ _ | refine Ext.alloc ?_ _ | refine Ext.trans ?_ (by assumption)))⟩
  have Hv := hid hv; have Hu := hid hu
  obtain ⟨a, cap, rfl, hc1, hc2, hc⟩ := hv
  obtain ⟨a', cap', rfl, hd1, hd2, hd⟩ := hu
  have hpos : 0 < xs.length := Nat.pos_of_ne_zero hx0
  obtain ⟨b, off, rfl, hb, hcell⟩ := hc hpos
  clear hc hd hcell
  have hcl := clone_any _ ys w Hu.out hl.2
  have Hx := hid hx; have Hy := hid hy; have Hp := hid hp
  obtain ⟨la, hla⟩ : ∃ la, xs.length = la := ⟨_, rfl⟩
  obtain ⟨lb, hlb⟩ : ∃ lb, ys.length = lb := ⟨_, rfl⟩
  obtain ⟨f, hf⟩ : ∃ f, pol p xs * pol p ys = f := ⟨_, rfl⟩
  rw [hlb] at hcl
  rw [hla] at Hv hl hx0 hc1 ⊢
  rw [hlb] at Hu hl hy0 hd1 ⊢
  rw [hf]
  have Hla := hid hla; have Hlb := hid hlb; have Hf := hid hf
  have Hcl := hid hcl
  obtain ⟨n, hn⟩ : ∃ n, la + lb = n + 1 := ⟨la + lb - 1, by omega⟩
  have hmk := make_ints (P := Try.prog) 23 22 .u64 8 (by omega) (by kernel_rfl) (by kernel_rfl) n n (Nat.le_refl _) (by omega)
  have b1 : ((la : Int) == 0) = false := by rw [beq_eq_false_iff_ne]; omega
  have b2 : ((lb : Int) == 0) = false := by rw [beq_eq_false_iff_ne]; omega
  have hln : (la : Int) + (lb : Int) - 1 = (n : Int) := by omega
  clear hpos hp hx hy hla hlb hcl hf
  go_enter Try.func88, Try.ntmps88
  go_wp2_with fail
  refine Hcl.out.mono ?_
  rintro _ w1 ⟨a1, cap1, rfl, e1, e2, e3, e4⟩
  obtain ⟨g, rfl, hg, hr⟩ := e3 (by omega)
  have hrev := reverse_any g lb cap1 ys w1 w Hlb.out (by omega) (by omega) hr e4 hg
  have Hrev := hid hrev
  clear hrev hr e3
  go_wp2_with (go_at_call 96; refine Hrev.out.mono ?_; rintro _ w2 ⟨⟨_, rfl⟩, hr2, hx2⟩)
  have hsz2 := hx2.size
  obtain ⟨g2, hg2⟩ : ∃ g2, w2.heap.size = g2 := ⟨_, rfl⟩
  have hrow := WRow.made (w := w2) (t := 22) (n := n) rfl
  obtain ⟨w3, hw3⟩ : ∃ w3, w2.alloc (.cells (madeCells #[Value.int .u64 0] n) 22) = w3 := ⟨_, rfl⟩
  have hx3 : Ext w2 w3 := by rw [← hw3]; exact (Ext.refl w2).alloc _
  rw [hw3, hg2] at hrow ⊢
  have hg3 : w2.heap.size ≤ g2 := by omega
  have Hrow := hid hrow; have Hr2 := hid hr2
  clear hw3 hrow hg2 hmk hr2 Hrev Hcl
  go_loopw [34] (fun i wr => ∃ (k : Nat) (l : List Int), i = .int .i64 k ∧ k ≤ n ∧ Hid (l.length = n) ∧ Hid (∀ j, l.getD j 0 = if j < k then f.co j else 0) ∧ WRow wr g2 0 l ∧ Ext w2 wr) (fun i _ => n - (intOf i).toNat)
  case atStart => exact ⟨0, _, rfl, Nat.zero_le _, hid (by simp), hid (fun j => by rw [replicate_get]; simp), Hrow.out, hx3⟩
  case round =>
    obtain ⟨k, l, rfl, hk, hln2, hl2, hrw, hxw⟩ := hrel
    clear hx3 Hrow
    have Hrw := hid hrw
    clear hrw
    by_cases hlt : k < n
    · obtain ⟨low, hlow⟩ : ∃ low, k + 1 - lb = low := ⟨_, rfl⟩
      obtain ⟨high, hhigh⟩ : ∃ high, min k (la - 1) = high := ⟨_, rfl⟩
      obtain ⟨m, hm⟩ : ∃ m, high + 1 - low = m := ⟨_, rfl⟩
      obtain ⟨st, hst⟩ : ∃ st, lb + low - (k + 1) = st := ⟨_, rfl⟩
      have hlh : low ≤ high ∧ high < la ∧ low + m = high + 1 ∧ 0 < m ∧ st + m ≤ lb ∧ high ≤ k := by omega
      have hv1 := (Hv.out.ext (hx2.trans hxw)).sub low m (by rw [Hla.out]; omega) hlh.2.2.2.1
      have hu1 := ((Hr2.out.ext hxw).ints' (n := lb) (cap := cap1) (by rw [List.length_reverse]; exact Hlb.out) e1 e2).sub st m (by rw [List.length_reverse, Hlb.out]; omega) hlh.2.2.2.1
      rw [Nat.zero_add] at hu1
      have hat := prod_at Hx.out Hy.out k low m (by rw [Hla.out]; omega) (by rw [Hlb.out]; omega) (by omega) (by rw [Hlb.out]; omega) (by rw [Hla.out]; omega)
      rw [Hlb.out, hst, Hf.out] at hat
      have Hv1 := hid hv1; have Hu1 := hid hu1; have Hat := hid hat
      clear hv1 hu1 hat
      have hq1 : (k : Int) - (lb : Int) + 1 ≤ (low : Int) := by omega
      have hq2 : (lb : Int) - 1 - (k : Int) + (low : Int) = (st : Int) := by omega
      go_upto_region 9 with fail
      go_cut [10, 11] (fun lo hi w' => lo = .int .i64 low ∧ hi = .int .i64 high ∧ w' = wr)
      case first =>
        go_wp2_with fail
        all_goals (go_meet; exact ⟨by refine congrArg _ ?_; omega, by refine congrArg _ ?_; omega, rfl⟩)
      case rest =>
        obtain ⟨rfl, rfl, rfl⟩ := hcut
        obtain ⟨hi1, hhi1⟩ : ∃ hi1, high + 1 = hi1 := ⟨_, rfl⟩
        obtain ⟨s1, hs1⟩ : ∃ s1, st + high = s1 := ⟨_, rfl⟩
        obtain ⟨s2, hs2⟩ : ∃ s2, s1 - low = s2 := ⟨_, rfl⟩
        obtain ⟨s3, hs3⟩ : ∃ s3, s2 + 1 = s3 := ⟨_, rfl⟩
        have w1e : IntKind.i64.wrap (hi1 : Int) = (hi1 : Int) := by rw [IntKind.wrap_i64]; omega
        have w2e : IntKind.i64.wrap (s1 : Int) = (s1 : Int) := by rw [IntKind.wrap_i64]; omega
        have w3e : IntKind.i64.wrap (s2 : Int) = (s2 : Int) := by rw [IntKind.wrap_i64]; omega
        have w4e : IntKind.i64.wrap (s3 : Int) = (s3 : Int) := by rw [IntKind.wrap_i64]; omega
        have v1e : (high : Int) + 1 = (hi1 : Int) := by omega
        have v2e : (st : Int) + (high : Int) = (s1 : Int) := by omega
        have v3e : (s1 : Int) - (low : Int) = (s2 : Int) := by omega
        have v4e : (s2 : Int) + 1 = (s3 : Int) := by omega
        have i5 : (k : Int) < (n : Int) := by omega
        have i8 : (0 : Int) ≤ (k : Int) := by omega
        have t1 := fun w => slice_run b off la cap low hi1 (by omega) (by omega) (by omega) w
        have t2 := fun w => slice_run' b off la cap low hi1 (by omega) (by omega) (by omega) w
        have t3 := fun w => slice_run g 0 lb cap1 st s3 (by omega) (by omega) (by omega) w
        have t4 := fun w => slice_run' g 0 lb cap1 st s3 (by omega) (by omega) (by omega) w
        rw [show hi1 - low = m by omega] at t1 t2
        rw [show s3 - st = m by omega, Nat.zero_add] at t3 t4
        have g3 := (Hrw.out.2 k (by rw [hln2.out]; omega)).1
        have f3 := (Hrw.out.2 k (by rw [hln2.out]; omega)).2
        rw [Nat.zero_add, hl2.out, if_neg (Nat.lt_irrefl _)] at g3
        rw [Nat.zero_add] at f3
        obtain ⟨r, hr⟩ : ∃ r, f.co k = r := ⟨_, rfl⟩
        rw [hr] at Hat
        have Hre := hid hr
        clear hr
        go_upto_region 11 with fail
        have hl1 : Hid (((xs.drop low).take m).length = ((ys.reverse.drop st).take m).length) := hid (by rw [List.length_take, List.length_drop, List.length_take, List.length_drop, List.length_reverse, Hla.out, Hlb.out]; omega)
        have hh1 : Hid (Rng p ((xs.drop low).take m)) := hid (fun x hx => Hx.out x (List.mem_of_mem_drop (List.mem_of_mem_take hx)))
        have hh2 : Hid (Rng p ((ys.reverse.drop st).take m)) := hid (fun x hx => Hy.out x (List.mem_reverse.1 (List.mem_of_mem_drop (List.mem_of_mem_take hx))))
        go_region_held3 (fun w' => w'.frozen? ⟨g2, k, none⟩ = false) (first | go_keep | exact f3)
          ((go_at_call 50; refine (dotD_as p r _ _ ((xs.drop low).take m) ((ys.reverse.drop st).take m) _ (Hv1.out.ext (by repeat (first | exact Ext.refl _ | assumption | refine Ext.drew ?_ | refine Ext.drewN ?_ _ | refine Ext.alloc ?_ _ | refine Ext.trans ?_ (by assumption)))) (Hu1.out.ext (by repeat (first | exact Ext.refl _ | assumption | refine Ext.drew ?_ | refine Ext.drewN ?_ _ | refine Ext.alloc ?_ _ | refine Ext.trans ?_ (by assumption)))) (hh1.out.u64 hp2.2) (hh2.out.u64 hp2.2) hl1.out (hh1.out.has Hp.out) (hh2.out.has Hp.out) Hat.out).mono ?_; rintro _ w4 ⟨rfl, q, rfl⟩))
        go_wp2_with fail
        go_roundw
        case rel => 
          have hs := (Hrw.out.ext (show Ext wc (wc.drewN q) from (Ext.refl wc).drewN q)).set_ (i := k) (by rw [hln2.out]; omega) r
          rw [Nat.zero_add] at hs
          exact ⟨k + 1, l.set k r, by go_num, by omega, hid (by rw [List.length_set]; exact hln2.out), hid (fun j => by
            rw [set_get l k j r (by rw [hln2.out]; omega), hl2.out]
            by_cases e : k = j
            · subst e
              rw [if_pos rfl, if_pos (by omega), Hre.out]
            · rw [if_neg e]
              by_cases e2 : j < k
              · rw [if_pos e2, if_pos (by omega)]
              · rw [if_neg e2, if_neg (by omega)]), hs, (hxw.drewN _).setCell hg3 _⟩
        case measure => simp [intOf]; omega
    · obtain rfl : n = k := by omega
      have hi := Hrw.out.ints' hln2.out (Nat.le_refl n) (by omega)
      have ht := trimmed_any (some ⟨g2, 0, none⟩) n l _ (by rw [hln2.out]; exact hi)
      rw [hln2.out] at ht
      have Ht := hid ht
      have Hi := hid hi
      clear ht hi
      go_wp2_with (go_at_call 63; refine Ht.out.mono ?_; rintro _ _ ⟨rfl, rfl⟩)
      go_ret
      have hrng : Rng p l := Rng.of_get fun j hj => by
        rw [hl2.out]
        split
        · exact Ser.co_range f hp2.1 j
        · omega
      have htl : trimN l n = trimN l l.length := by rw [hln2.out]
      refine ⟨_, trimL l, rfl, ?_, (trimL_pol hrng).1, (trimL_pol hrng).2.trans (Ser.ext_ fun j => ?_), hx2.trans hxw⟩
      · rw [htl]
        exact (Hi.out.take' _ (by rw [← htl, hln2.out]; exact trimN_le _ _))
      · rw [hrng.co, hl2.out]
        split
        · rfl
        · rw [← Hf.out]
          have := (pol_low (p := p) xs).mul (pol_low ys)
          exact (this j (by rw [Hla.out, Hlb.out]; omega)).symm
end Go.Proofs.Ythmmakkldkjnlaa
/- What poly.Add, Sub, Mul and Monic answer to what is right. -/
namespace Go.Proofs.Ythmmakkldkjnlaa
open Go.RowKit

set_option maxHeartbeats 400000 in
theorem pMul_yes (p : Int) (v u : Value) (xs ys : List Int) (w : World) (hp : rightB p = true) (hv : Ints .u64 w v xs) (hu : Ints .u64 w u ys) (hx : Pol p xs) (hy : Pol p ys) (hl : xs.length ≤ 512 ∧ ys.length ≤ 512) (hm : (pol p xs * pol p ys).low 512) :
    Calls Try.prog 71 #[.int .u64 p, v, u] w (RetT p (pol p xs * pol p ys) w) := by
  have c1 := hid (polRight_yes p v xs w hp hv hx hl.1)
  have c2 := hid (polRight_yes p u ys w hp hu hy hl.2)
  have c3 := hid (product_any p v u xs ys w hp hv hu hx.rng hy.rng (by omega))
  have Hm := hid hm
  clear hp hv hu hx hy hm
  go_enter Try.func71, Try.ntmps71
  go_wp2_with (first
    | (go_at_call_of 27 v; refine c1.out.mono ?_; rintro _ _ ⟨rfl, rfl⟩)
    | (go_at_call_of 27 u; refine c2.out.mono ?_; rintro _ _ ⟨rfl, rfl⟩)
    | fail)
  refine c3.out.mono ?_
  rintro _ w1 ⟨v1, zs, rfl, h1, h2, h3, h4⟩
  have H1 := hid h1
  have hzl := h2.len_le (h3 ▸ Hm.out)
  have H2 := hid h2; have H3 := hid h3
  obtain ⟨a1, cap1, rfl, k1, k2, k3⟩ := h1
  clear k3 h2 h3
  go_wp2_with fail
  go_ret2
  exact ⟨_, zs, rfl, H1.out, H2.out, H3.out, h4⟩
set_option maxHeartbeats 400000 in
theorem pMonic_nil (p : Int) (v : Value) (w : World) (hp : rightB p = true) (hv : Ints .u64 w v []) :
    Calls Try.prog 72 #[.int .u64 p, v] w (RetT p 0 w) := by
  have c1 := hid (polRight_yes p v [] w hp hv Pol.nil (by simp))
  have hz := hid (pol_nil (p := p))
  obtain ⟨a, cap, rfl, k1, k2, k3⟩ := hv
  clear hp k3
  go_enter Try.func72, Try.ntmps72
  go_wp2_with (go_at_call 27; refine c1.out.mono ?_; rintro _ _ ⟨rfl, rfl⟩)
  go_ret2
  exact ⟨_, [], rfl, Ints.nil, Pol.nil, hz.out, (by repeat (first | exact Ext.refl _ | assumption | refine Ext.drew ?_ | refine Ext.drewN ?_ _ | refine Ext.alloc ?_ _ | refine Ext.trans ?_ (by assumption)))⟩
set_option maxHeartbeats 400000 in
theorem pMonic_yes (p : Int) (v : Value) (xs : List Int) (w : World) (hp : rightB p = true) (hv : Ints .u64 w v xs) (hx : Pol p xs) (h0 : xs ≠ []) (hl : xs.length ≤ 512) (hu : unitB p (lead xs) = true) :
    Calls Try.prog 72 #[.int .u64 p, v] w (RetT p (pol p xs * Ser.C p (minv p (lead xs))) w) := by
  have hp2 := rightB_true hp
  have hpos := List.length_pos_iff.2 h0
  have hr := hx.lead_range h0
  have c1 := hid (polRight_yes p v xs w hp hv hx hl)
  have c2 := hid (invLast_yes p v xs w hp hv hpos (by omega) hu)
  have hm := minv_range p (lead xs) hp2.1
  obtain ⟨m, em⟩ : ∃ m, minv p (lead xs) = m := ⟨_, rfl⟩
  rw [em] at c2 hm ⊢
  have Hv := hid hv; have Hx := hid hx; have Hp := hid hp
  obtain ⟨a, cap, rfl, k1, k2, k3⟩ := hv
  have b1 : ((xs.length : Int) == 0) = false := by rw [beq_eq_false_iff_ne]; omega
  rw [← pol_single]
  obtain ⟨f, hf⟩ : ∃ f, pol p xs * pol p [m] = f := ⟨_, rfl⟩
  rw [hf]
  have Hf := hid hf
  clear hp hx k3 hr em hu h0 hf
  go_enter Try.func72, Try.ntmps72
  go_wp2_with (first
    | (go_at_call 27; refine c1.out.mono ?_; rintro _ _ ⟨rfl, rfl⟩)
    | (go_at_call 85; refine c2.out.mono ?_; rintro _ w1 ⟨rfl, h1⟩)
    | (go_at_call 88; refine (product_any p _ _ xs [m] _ Hp.out (Hv.out.ext (show Ext w _ from (by repeat (first | exact Ext.refl _ | assumption | refine Ext.drew ?_ | refine Ext.drewN ?_ _ | refine Ext.alloc ?_ _ | refine Ext.trans ?_ (by assumption))))) Ints.new1 Hx.out.rng (Rng.one hm.1 hm.2) (by simp; omega)).mono ?_; rintro _ w2 ⟨v1, zs, rfl, h2, h3, h4, h5⟩))
  go_ret2
  exact ⟨v1, zs, rfl, h2, h3, h4.trans Hf.out, (by repeat (first | exact Ext.refl _ | assumption | refine Ext.drew ?_ | refine Ext.drewN ?_ _ | refine Ext.alloc ?_ _ | refine Ext.trans ?_ (by assumption)))⟩
end Go.Proofs.Ythmmakkldkjnlaa
