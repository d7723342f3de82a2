/- What the texts Mat2, Ref06b, Ref06d show, in one text. -/
import Derived.Test.YtfpmcajndgkgeaaBun09
import Derived.Deep.RegionHeld3
import Derived.Deep.DrawnRows
/- The document's own answers of layer 5: a matrix times a vector, a vector times a matrix. -/
namespace Go.Proofs.Ytfpmcajndgkgeaa
open Go.RowKit Go.Maps

/-- a value that was boxed keeps its cells -/
theorem box_cell {w W : World} {t : TypeId} {cs : Array Value} (hW : Ext (w.alloc (.cells cs t)) W) (j : Nat) : W.cell? ⟨w.heap.size, j, none⟩ = cs[j]? :=
  (hW.cells _ _ (by simp)).trans (cell_new w cs t j)
theorem box3 (w : World) (t : TypeId) (a b c : Value) : ∀ W, Ext (w.alloc (.cells #[a, b, c] t)) W → W.cell? ⟨w.heap.size, 0, none⟩ = some a ∧ W.cell? ⟨w.heap.size, 1, none⟩ = some b ∧ W.cell? ⟨w.heap.size, 2, none⟩ = some c :=
  fun _ hW => ⟨box_cell hW 0, box_cell hW 1, box_cell hW 2⟩
/-- what a call answers: numbers, in memory of its own or not -/
def RetL (l : List Int) (w : World) (e : Ending) (w' : World) : Prop := ∃ v, e = .returned v ∧ Ints .u64 w' v l ∧ Ext w w'

set_option maxRecDepth 100000 in
set_option maxHeartbeats 2000000 in
theorem rmTimes (p : Int) (m n : Nat) (v u : Value) (xs ys : List Int) (w : World) (hp : rightB p = true) (hv : Ints .u64 w v xs) (hu : Ints .u64 w u ys) (hx : Rng p xs) (hy : Rng p ys) (hm : m ≤ 64) (hn : n ≤ 64) (hxl : xs.length = m * n) (hyl : ys.length = n) :
    Calls Try.prog 38 #[.int .u64 p, matV m n v, u] w (RetL (tab m fun i => dv p n (fun k => xs.getD (i * n + k) 0) fun k => ys.getD k 0) w) := by
  have hp2 := rightB_true hp
  obtain ⟨i0, hi, hz0, hz1, hz2'⟩ := info_parts info_u64p
  have Hp := hid hp; have Hv := hid hv; have Hx := hid hx; have Hy := hid hy; have Hxl := hid hxl; have Hyl := hid hyl
  obtain ⟨a, cap, rfl, k1, k2, k3⟩ := hv
  obtain ⟨a', cap', rfl, m1, m2, m3⟩ := hu
  have M3 := hid m3
  clear k3 m3 hp hx hy hxl
  rw [hyl] at m1 M3 ⊢
  clear hyl
  obtain ⟨F, hF⟩ : ∃ F : Nat → Int, (fun i => dv p n (fun k => xs.getD (i * n + k) 0) fun k => ys.getD k 0) = F := ⟨_, rfl⟩
  have HF := hid (fun i => (congrFun hF i : dv p n (fun k => xs.getD (i * n + k) 0) (fun k => ys.getD k 0) = F i))
  rw [hF]
  clear hF
  unfold matV
  go_enter Try.func38, Try.ntmps38
  go_wp2_with fail
  have hbox := hid (box3 w 25 (.int .i64 (m : Int)) (.int .i64 (n : Int)) (.slice a xs.length cap))
  have hx1 : Ext w (w.alloc (.cells #[.int .i64 (m : Int), .int .i64 (n : Int), .slice a xs.length cap] 25)) := (Ext.refl w).alloc _
  obtain ⟨w1, hw1⟩ : ∃ w1, w.alloc (.cells #[.int .i64 (m : Int), .int .i64 (n : Int), .slice a xs.length cap] 25) = w1 := ⟨_, rfl⟩
  obtain ⟨g, hg⟩ : ∃ g, w.heap.size = g := ⟨_, rfl⟩
  rw [hw1, hg] at hbox
  rw [hw1] at hx1
  rw [hw1, hg]
  clear hw1 hg
  go_loopw [8, 7] (fun i rv wr => ∃ k : Nat, i = .int .i64 k ∧ k ≤ m ∧ Hid (wr.ownsRow w1.heap.size 22 1 rv k ((tab k F).map (Value.int .u64))) ∧ Ext w1 wr) (fun i _ _ => m - (intOf i).toNat)
  case atStart => exact ⟨0, rfl, Nat.zero_le _, hid (World.ownsRow_nil _ _ _ _), Ext.refl _⟩
  case round =>
    obtain ⟨i, rfl, hi', hown, hxr⟩ := hrel
    obtain ⟨b0, b1, b2⟩ := hbox.out wr hxr
    by_cases hlt : i < m
    · rename World => wo
      go_wp2_with fail
      go_loopw [10, 9] (fun j zv wr => ∃ (k : Nat) (z : Int), j = .int .i64 k ∧ zv = .int .u64 z ∧ k ≤ n ∧ 0 ≤ z ∧ z < p ∧ Hid (z = dv p k (fun k => xs.getD (i * n + k) 0) fun k => ys.getD k 0) ∧ Ext wo wr) (fun j _ _ => n - (intOf j).toNat)
      case atStart => exact ⟨0, 0, rfl, rfl, Nat.zero_le _, by omega, by omega, hid (by rw [dv_zero]), Ext.refl _⟩
      case round =>
        obtain ⟨k, z, rfl, rfl, hk, z0, z1, hz, hxi⟩ := hrel
        rename World => wi
        obtain ⟨b0, b1, b2⟩ := hbox.out wi (hxr.trans hxi)
        by_cases hlk : k < n
        · obtain ⟨b', off', rfl, hb', hcell'⟩ := M3.out (by omega)
          have gy := ((hx1.trans (hxr.trans hxi)).cells _ _ hb').trans (hcell' k hlk)
          have hat := at_lt (r := m) hlt hlk
          have ry := Hy.out.getD hp2.1 k
          have rx := Hx.out.getD hp2.1 (i * n + k)
          have hds := dv_succ (p := p) k (fun k => xs.getD (i * n + k) 0) (fun k => ys.getD k 0)
          have hA := hid (fun (W : World) (hW : Ext wi W) => rmAt (m : Int) (n : Int) (.slice a xs.length cap) xs i k n W (Hv.out.ext (hx1.trans (hxr.trans (hxi.trans hW)))) rfl (by omega) (by omega) (by omega) (by rw [Hxl.out]; exact hat))
          obtain ⟨y, ey⟩ : ∃ y, ys.getD k 0 = y := ⟨_, rfl⟩
          obtain ⟨x, ex⟩ : ∃ x, xs.getD (i * n + k) 0 = x := ⟨_, rfl⟩
          simp only [ex, ey] at hds
          rw [ey] at gy ry; rw [ex] at rx hA
          rw [← hz.out] at hds
          obtain ⟨q, eq, q0, q1⟩ := name_mod (p := p) (x * y) hp2.1
          obtain ⟨t, et, t0, t1⟩ := name_mod (p := p) (z + q) hp2.1
          rw [eq, et] at hds
          have Eq := hid eq; have Et := hid et; have Hds := hid hds.symm
          have fs := hid (fun (W : World) (hW : Ext wi W) => And.intro ((hW.cells _ _ (cell_lt b0)).trans b0) (And.intro ((hW.cells _ _ (cell_lt b1)).trans b1) (And.intro ((hW.cells _ _ (cell_lt b2)).trans b2) ((hW.cells _ _ (cell_lt gy)).trans gy))))
          clear ex ey eq et hds hz hcell' hat
          unfold matV at hA
          go_wp2_with fail
          go_region_held3 (fun w' => w'.cell? ⟨g, 0, none⟩ = some (.int .i64 (m : Int)) ∧ w'.cell? ⟨g, 1, none⟩ = some (.int .i64 (n : Int)) ∧ w'.cell? ⟨g, 2, none⟩ = some (.slice a xs.length cap) ∧ w'.cell? ⟨b', off' + k, none⟩ = some (.int .u64 y)) (first | assumption | exact fs.out _ ((Ext.refl wi).drew) | exact fs.out _ (((Ext.refl wi).drew).trans x5))
            ((first
              | (go_at_call 33; refine (hA.out _ ((Ext.refl wi).drew)).mono ?_; rintro _ w5 ⟨rfl, x5⟩)
              | (go_at_call 86; refine (rMul p x y q _ Hp.out rx.1 rx.2 ry.1 (by omega) Eq.out).mono ?_; rintro _ _ ⟨rfl, rfl⟩)
              | (go_at_call 85; refine (rAdd p z q t _ Hp.out z0 z1 q0 q1 Et.out).mono ?_; rintro _ _ ⟨rfl, rfl⟩)))
          have e5 : Ext wi w5 := ((Ext.refl wi).drew).trans x5
          go_wp2_with fail
          go_roundw
          case rel => exact ⟨k + 1, t, by go_num, rfl, by omega, t0, t1, Hds, hxi.trans e5⟩
          case measure => simp [intOf]; omega
        · obtain rfl : k = n := by omega
          have hxw : Ext w1 wi := hxr.trans hxi
          have hsz := hxw.size
          have hz2 : z = F i := by rw [hz.out]; exact HF.out i
          have happ := hid (show ((tab i F).map (Value.int .u64)) ++ [Value.int .u64 z] = (tab (i + 1) F).map (Value.int .u64) by rw [tab_succ, List.map_append, hz2]; rfl)
          have hown2 := hid (ownsRow_ext hown.out hxi)
          clear hz2 hz
          go_wp2_with (first | (at_builtin; refine wpList_append_own _ rfl _ _ 23 rfl w1.heap.size 22 i0 (.int .u64 0) 1 8 Try.underlying23 hi hz0 hz1 hz2' rfl (by decide) _ _ _ rfl (hown2.out.alloc _) ⟨wi.heap.size, 0, none⟩ 1 1 [.int .u64 z] rfl rfl (cells_new _ _ _ (by simp)) (by simp [Value.oneCell']) (by simp only [maxLen]; omega) (by omega) (by simp; omega) ?_; intro v' w6 hown6 hgrow6 hnil6) | fail)
          go_roundw
          case rel => exact ⟨i + 1, by go_num, by omega, hid (by rw [← happ.out]; exact hown6), (hxw.alloc _).grown hgrow6 (fun t e => (hown2.out.lt t e).1)⟩
          case measure => simp [intOf]; omega
    · obtain rfl : i = m := by omega
      obtain ⟨a5, c5, rfl, c52, c53, c54, c55⟩ := WRow.of_owns hown.out
      have hI : Hid (Ints .u64 wr (.slice a5 i c5) (tab i F)) := hid (by
        rcases Nat.eq_zero_or_pos i with h0 | h0
        · exact ⟨a5, c5, by rw [tab_len], by rw [tab_len]; omega, c53, fun h => by rw [tab_len] at h; omega⟩
        · obtain ⟨g4, rfl, hg4, hw4⟩ := c55 h0
          exact hw4.ints' (tab_len _ _) c52 c53)
      clear c55 c54 hown
      go_wp2_with fail
      go_ret
      exact ⟨_, rfl, hI.out, hx1.trans hxr⟩

end Go.Proofs.Ytfpmcajndgkgeaa
/- The document's own answers of layer 6: Back, Do, Sign, Same. -/
namespace Go.Proofs.Ytfpmcajndgkgeaa
open Go.RowKit Go.Maps

/-- how many of the first k stand wrong ahead of the i-th -/
def gtTo (p : List Int) (i k : Nat) : Nat := (p.take k).countP fun x => decide (p.getD i 0 < x)
theorem gtTo_le (p : List Int) (i k : Nat) : gtTo p i k ≤ k := Nat.le_trans List.countP_le_length (by simp; omega)
theorem take_snoc_getD {p : List Int} {k : Nat} (h : k < p.length) : p.take (k + 1) = p.take k ++ [p.getD k 0] := by
  rw [List.take_succ_eq_append_getElem h]; simp [List.getD, h]
theorem gtTo_succ {p : List Int} {i k : Nat} (h : k < p.length) : gtTo p i (k + 1) = gtTo p i k + if p.getD i 0 < p.getD k 0 then 1 else 0 := by
  unfold gtTo
  rw [take_snoc_getD h, List.countP_append, List.countP_cons, List.countP_nil]
  simp
theorem inv_take_succ {p : List Int} {i : Nat} (h : i < p.length) : invL (p.take (i + 1)) = invL (p.take i) + gtTo p i i := by
  rw [take_snoc_getD h, inv_snoc]; rfl
theorem inv_take_le (p : List Int) : ∀ i, i ≤ p.length → invL (p.take i) ≤ i * p.length
  | 0, _ => by simp [invL]
  | i + 1, h => by
    have := inv_take_le p i (by omega)
    have := gtTo_le p i i
    rw [inv_take_succ (by omega), Nat.succ_mul]
    omega
end Go.Proofs.Ytfpmcajndgkgeaa
/- The document's own answer of layer 6 on rings: Rings; rows of rows of whole numbers. -/
namespace Go.Proofs.Ytfpmcajndgkgeaa
open Go.RowKit Go.Maps

/-- in the world w the slice v reads as rows of whole numbers -/
def IntsL (w : World) (v : Value) (ls : List (List Int)) : Prop :=
  ∃ (a : Option Addr) (cap : Nat), v = .slice a ls.length cap ∧ ls.length ≤ cap ∧ cap ≤ 9223372036854775807 ∧
    (0 < ls.length → ∃ b off, a = some ⟨b, off, none⟩ ∧ b < w.heap.size ∧ ∀ j, j < ls.length → ∃ u, w.cell? ⟨b, off + j, none⟩ = some u ∧ Ints .i64 w u (ls.getD j []))
theorem IntsL.ext {w w' : World} {v : Value} {ls : List (List Int)} (h : IntsL w v ls) (he : Ext w w') : IntsL w' v ls := by
  obtain ⟨a, cap, h1, h2, h3, h4⟩ := h
  refine ⟨a, cap, h1, h2, h3, fun hp => ?_⟩
  obtain ⟨b, off, ha, hb, hc⟩ := h4 hp
  refine ⟨b, off, ha, Nat.lt_of_lt_of_le hb he.size, fun j hj => ?_⟩
  obtain ⟨u, c1, c2⟩ := hc j hj
  exact ⟨u, (he.cells _ _ hb).trans c1, c2.ext he⟩
theorem IntsL.nil {w : World} : IntsL w (.slice none 0 0) [] := ⟨none, 0, rfl, by simp, by omega, by simp⟩
/-- what a call answers: rows of whole numbers -/
def RetII (ls : List (List Int)) (w : World) (e : Ending) (w' : World) : Prop := ∃ v, e = .returned v ∧ IntsL w' v ls ∧ Ext w w'

/-- rows that are gathered: the row of them, and each one's own -/
structure RowsI (w0 w : World) (rv : Value) (us : List Value) (ls : List (List Int)) : Prop where
  own : w.ownsRow w0.heap.size 69 1 rv us.length us
  len : us.length = ls.length
  row : ∀ j, j < ls.length → w.ownsRow w0.heap.size 3 1 (us.getD j undef) (ls.getD j []).length ((ls.getD j []).map (Value.int .i64))
  ext : Ext w0 w
theorem RowsI.start (w : World) : RowsI w w (.slice none 0 0) [] [] := ⟨World.ownsRow_nil _ _ _ _, rfl, fun _ h => absurd h (Nat.not_lt_zero _), Ext.refl _⟩
theorem RowsI.ext' {w0 w w' : World} {rv : Value} {us : List Value} {ls : List (List Int)} (h : RowsI w0 w rv us ls) (y : Ext w w') : RowsI w0 w' rv us ls :=
  ⟨ownsRow_ext h.own y, h.len, fun j hj => ownsRow_ext (h.row j hj) y, h.ext.trans y⟩
/-- a row of another kind grows: all stays -/
theorem RowsI.grown {w0 w w' : World} {rv v : Value} {us xs : List Value} {ls : List (List Int)} (h : RowsI w0 w rv us ls) {base n : Nat} (hv : w.ownsRow base 3 1 v n xs) (hb : w0.heap.size ≤ base)
    (ha : ∀ j, j < ls.length → (us.getD j undef).ownBlock = none ∨ (us.getD j undef).ownBlock ≠ v.ownBlock) (hg : w.grownBy w' v.ownBlock) : RowsI w0 w' rv us ls :=
  ⟨h.own.kept hg (ownsRow_apart h.own hv (by decide)), h.len, fun j hj => (h.row j hj).kept hg (ha j hj), h.ext.grown hg fun k e => Nat.le_trans hb (hv.lt k e).1⟩
theorem getD_snoc {α : Type} (l : List α) (x d : α) (j : Nat) : (l ++ [x]).getD j d = if j < l.length then l.getD j d else if j = l.length then x else d := by
  simp only [List.getD, List.getElem?_append]
  split
  · rfl
  · split
    · rename_i h; rw [h, Nat.sub_self]; rfl
    · rw [List.getElem?_eq_none (by simp; omega)]; rfl
/-- a row is put behind -/
theorem RowsI.next {w0 w w' : World} {rv v' u : Value} {us : List Value} {ls : List (List Int)} {l : List Int} (h : RowsI w0 w rv us ls) (hu : w.ownsRow w0.heap.size 3 1 u l.length (l.map (Value.int .i64)))
    (ho : w'.ownsRow w0.heap.size 69 1 v' (us.length + 1) (us ++ [u])) (hg : w.grownBy w' rv.ownBlock) : RowsI w0 w' v' (us ++ [u]) (ls ++ [l]) := by
  refine ⟨by rw [List.length_append]; exact ho, by simp [h.len], fun j hj => ?_, h.ext.grown hg fun k e => (h.own.lt k e).1⟩
  have hlen := h.len
  rw [List.length_append, List.length_cons, List.length_nil] at hj
  rw [getD_snoc, getD_snoc]
  by_cases e : j < ls.length
  · rw [if_pos (by omega), if_pos e]
    exact (h.row j e).kept hg (ownsRow_apart (h.row j e) h.own (by decide))
  · rw [if_neg (by omega), if_neg e, if_pos (by omega), if_pos (by omega)]
    exact hu.kept hg (ownsRow_apart hu h.own (by decide))
theorem RowsI.ints {w0 w : World} {rv : Value} {us : List Value} {ls : List (List Int)} (h : RowsI w0 w rv us ls) : IntsL w rv ls := by
  have hlen := h.len
  have ho := h.own
  obtain ⟨_, ⟨rfl, h1⟩ | ⟨g, cap, cur, rfl, hg, hb, hc1, hc2, hs, ht⟩⟩ := h.own
  · obtain rfl : ls = [] := List.eq_nil_of_length_eq_zero (by omega)
    exact IntsL.nil
  · refine ⟨_, cap, by rw [hlen], by omega, by unfold maxLen at hc2; omega, fun _ => ⟨g, 0, rfl, Blk.lt (t := 69) (cs := cur) hb, fun j hj => ⟨us.getD j undef, ?_, ?_⟩⟩⟩
    · rw [Nat.zero_add, ho.cellAt j (by omega), List.getD, List.getElem?_eq_getElem (show j < us.length by omega)]; rfl
    · obtain ⟨_, _, _, _, hI⟩ := owns_ints (h.row j hj)
      exact hI
theorem info_sip : (Try.prog.info? 69).map (fun i => (i.zero, i.size, i.bytes)) = some (some (.slice none 0 0), 1, 24) := by kernel_rfl

/-- the least of the first so many of a ring? -/
def leastTo (p : List Int) (s j : Nat) : Bool := (List.range j).all fun i => decide (s ≤ itL p i s)
theorem leastTo_succ (p : List Int) (s j : Nat) : leastTo p s (j + 1) = (leastTo p s j && decide (s ≤ itL p j s)) := by
  unfold leastTo
  rw [List.range_succ, List.all_append]
  simp
theorem leastTo_all (p : List Int) (s : Nat) : leastTo p s (perL p s) = leastB p s := by
  unfold leastTo leastB ringL tab
  rw [List.all_map]
  congr 1
  funext i
  simp [Function.comp]
theorem ringsTo_none {p : List Int} {k : Nat} (h : leastB p k = false) : ringsTo p (k + 1) = ringsTo p k := by rw [ringsTo_succ, h]; rfl
theorem ringsTo_some {p : List Int} {k : Nat} (h : leastB p k = true) : ringsTo p (k + 1) = ringsTo p k ++ [ringL p k] := by rw [ringsTo_succ, h]; rfl

def lenV : Value → Nat
  | .slice _ n _ => n
  | _ => 0
end Go.Proofs.Ytfpmcajndgkgeaa
