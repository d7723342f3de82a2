/- The document's own answers of layer 5: a matrix times a vector, a vector times a matrix. -/
import Derived.Test.YtjdbkbbhjiemdaaMat1
import Derived.Deep.RegionHeld3
import Derived.Deep.DrawnRows
namespace Go.Proofs.Ytjdbkbbhjiemdaa
open Go.RowKit Go.Maps

/-- a value that was boxed keeps its cells -/
theorem box_cell {w W : World} {t : TypeId} {cs : Array Value} (hW : Ext (w.alloc (.cells cs t)) W) (j : Nat) : W.cell? ⟨w.heap.size, j, none⟩ = cs[j]? :=
  (hW.cells _ _ (by simp)).trans (cell_new w cs t j)
theorem box3 (w : World) (t : TypeId) (a b c : Value) : ∀ W, Ext (w.alloc (.cells #[a, b, c] t)) W → W.cell? ⟨w.heap.size, 0, none⟩ = some a ∧ W.cell? ⟨w.heap.size, 1, none⟩ = some b ∧ W.cell? ⟨w.heap.size, 2, none⟩ = some c :=
  fun _ hW => ⟨box_cell hW 0, box_cell hW 1, box_cell hW 2⟩
/-- what a call answers: numbers, in memory of its own or not -/
def RetL (l : List Int) (w : World) (e : Ending) (w' : World) : Prop := ∃ v, e = .returned v ∧ Ints .u64 w' v l ∧ Ext w w'

set_option maxRecDepth 100000 in
set_option maxHeartbeats 2000000 in
theorem rmTimes (p : Int) (m n : Nat) (v u : Value) (xs ys : List Int) (w : World) (hp : rightB p = true) (hv : Ints .u64 w v xs) (hu : Ints .u64 w u ys) (hx : Rng p xs) (hy : Rng p ys) (hm : m ≤ 64) (hn : n ≤ 64) (hxl : xs.length = m * n) (hyl : ys.length = n) :
    Calls Try.prog 49 #[.int .u64 p, matV m n v, u] w (RetL (tab m fun i => dv p n (fun k => xs.getD (i * n + k) 0) fun k => ys.getD k 0) w) := by
  have hp2 := rightB_true hp
  obtain ⟨i0, hi, hz0, hz1, hz2'⟩ := info_parts info_u64p
  have Hp := hid hp; have Hv := hid hv; have Hx := hid hx; have Hy := hid hy; have Hxl := hid hxl; have Hyl := hid hyl
  obtain ⟨a, cap, rfl, k1, k2, k3⟩ := hv
  obtain ⟨a', cap', rfl, m1, m2, m3⟩ := hu
  have M3 := hid m3
  clear k3 m3 hp hx hy hxl
  rw [hyl] at m1 M3 ⊢
  clear hyl
  obtain ⟨F, hF⟩ : ∃ F : Nat → Int, (fun i => dv p n (fun k => xs.getD (i * n + k) 0) fun k => ys.getD k 0) = F := ⟨_, rfl⟩
  have HF := hid (fun i => (congrFun hF i : dv p n (fun k => xs.getD (i * n + k) 0) (fun k => ys.getD k 0) = F i))
  rw [hF]
  clear hF
  unfold matV
  go_enter Try.func49, Try.ntmps49
  go_wp2_with fail
  have hbox := hid (box3 w 25 (.int .i64 (m : Int)) (.int .i64 (n : Int)) (.slice a xs.length cap))
  have hx1 : Ext w (w.alloc (.cells #[.int .i64 (m : Int), .int .i64 (n : Int), .slice a xs.length cap] 25)) := (Ext.refl w).alloc _
  obtain ⟨w1, hw1⟩ : ∃ w1, w.alloc (.cells #[.int .i64 (m : Int), .int .i64 (n : Int), .slice a xs.length cap] 25) = w1 := ⟨_, rfl⟩
  obtain ⟨g, hg⟩ : ∃ g, w.heap.size = g := ⟨_, rfl⟩
  rw [hw1, hg] at hbox
  rw [hw1] at hx1
  rw [hw1, hg]
  clear hw1 hg
  go_loopw [8, 7] (fun i rv wr => ∃ k : Nat, i = .int .i64 k ∧ k ≤ m ∧ Hid (wr.ownsRow w1.heap.size 22 1 rv k ((tab k F).map (Value.int .u64))) ∧ Ext w1 wr) (fun i _ _ => m - (intOf i).toNat)
  case atStart => exact ⟨0, rfl, Nat.zero_le _, hid (World.ownsRow_nil _ _ _ _), Ext.refl _⟩
  case round =>
    obtain ⟨i, rfl, hi', hown, hxr⟩ := hrel
    obtain ⟨b0, b1, b2⟩ := hbox.out wr hxr
    by_cases hlt : i < m
    · rename World => wo
      go_wp2_with fail
      go_loopw [10, 9] (fun j zv wr => ∃ (k : Nat) (z : Int), j = .int .i64 k ∧ zv = .int .u64 z ∧ k ≤ n ∧ 0 ≤ z ∧ z < p ∧ Hid (z = dv p k (fun k => xs.getD (i * n + k) 0) fun k => ys.getD k 0) ∧ Ext wo wr) (fun j _ _ => n - (intOf j).toNat)
      case atStart => exact ⟨0, 0, rfl, rfl, Nat.zero_le _, by omega, by omega, hid (by rw [dv_zero]), Ext.refl _⟩
      case round =>
        obtain ⟨k, z, rfl, rfl, hk, z0, z1, hz, hxi⟩ := hrel
        rename World => wi
        obtain ⟨b0, b1, b2⟩ := hbox.out wi (hxr.trans hxi)
        by_cases hlk : k < n
        · obtain ⟨b', off', rfl, hb', hcell'⟩ := M3.out (by omega)
          have gy := ((hx1.trans (hxr.trans hxi)).cells _ _ hb').trans (hcell' k hlk)
          have hat := at_lt (r := m) hlt hlk
          have ry := Hy.out.getD hp2.1 k
          have rx := Hx.out.getD hp2.1 (i * n + k)
          have hds := dv_succ (p := p) k (fun k => xs.getD (i * n + k) 0) (fun k => ys.getD k 0)
          have hA := hid (fun (W : World) (hW : Ext wi W) => rmAt (m : Int) (n : Int) (.slice a xs.length cap) xs i k n W (Hv.out.ext (hx1.trans (hxr.trans (hxi.trans hW)))) rfl (by omega) (by omega) (by omega) (by rw [Hxl.out]; exact hat))
          obtain ⟨y, ey⟩ : ∃ y, ys.getD k 0 = y := ⟨_, rfl⟩
          obtain ⟨x, ex⟩ : ∃ x, xs.getD (i * n + k) 0 = x := ⟨_, rfl⟩
          simp only [ex, ey] at hds
          rw [ey] at gy ry; rw [ex] at rx hA
          rw [← hz.out] at hds
          obtain ⟨q, eq, q0, q1⟩ := name_mod (p := p) (x * y) hp2.1
          obtain ⟨t, et, t0, t1⟩ := name_mod (p := p) (z + q) hp2.1
          rw [eq, et] at hds
          have Eq := hid eq; have Et := hid et; have Hds := hid hds.symm
          have fs := hid (fun (W : World) (hW : Ext wi W) => And.intro ((hW.cells _ _ (cell_lt b0)).trans b0) (And.intro ((hW.cells _ _ (cell_lt b1)).trans b1) (And.intro ((hW.cells _ _ (cell_lt b2)).trans b2) ((hW.cells _ _ (cell_lt gy)).trans gy))))
          clear ex ey eq et hds hz hcell' hat
          unfold matV at hA
          go_wp2_with fail
          go_region_held3 (fun w' => w'.cell? ⟨g, 0, none⟩ = some (.int .i64 (m : Int)) ∧ w'.cell? ⟨g, 1, none⟩ = some (.int .i64 (n : Int)) ∧ w'.cell? ⟨g, 2, none⟩ = some (.slice a xs.length cap) ∧ w'.cell? ⟨b', off' + k, none⟩ = some (.int .u64 y)) (first | assumption | exact fs.out _ ((Ext.refl wi).drew) | exact fs.out _ (((Ext.refl wi).drew).trans x5))
            ((first
              | (go_at_call 53; refine (hA.out _ ((Ext.refl wi).drew)).mono ?_; rintro _ w5 ⟨rfl, x5⟩)
              | (go_at_call 77; refine (rMul p x y q _ Hp.out rx.1 rx.2 ry.1 (by omega) Eq.out).mono ?_; rintro _ _ ⟨rfl, rfl⟩)
              | (go_at_call 79; refine (rAdd p z q t _ Hp.out z0 z1 q0 q1 Et.out).mono ?_; rintro _ _ ⟨rfl, rfl⟩)))
          have e5 : Ext wi w5 := ((Ext.refl wi).drew).trans x5
          go_wp2_with fail
          go_roundw
          case rel => exact ⟨k + 1, t, by go_num, rfl, by omega, t0, t1, Hds, hxi.trans e5⟩
          case measure => simp [intOf]; omega
        · obtain rfl : k = n := by omega
          have hxw : Ext w1 wi := hxr.trans hxi
          have hsz := hxw.size
          have hz2 : z = F i := by rw [hz.out]; exact HF.out i
          have happ := hid (show ((tab i F).map (Value.int .u64)) ++ [Value.int .u64 z] = (tab (i + 1) F).map (Value.int .u64) by rw [tab_succ, List.map_append, hz2]; rfl)
          have hown2 := hid (ownsRow_ext hown.out hxi)
          clear hz2 hz
          go_wp2_with (first | (at_builtin; refine wpList_append_own _ rfl _ _ 23 rfl w1.heap.size 22 i0 (.int .u64 0) 1 8 Try.underlying23 hi hz0 hz1 hz2' rfl (by decide) _ _ _ rfl (hown2.out.alloc _) ⟨wi.heap.size, 0, none⟩ 1 1 [.int .u64 z] rfl rfl (cells_new _ _ _ (by simp)) (by simp [Value.oneCell']) (by simp only [maxLen]; omega) (by omega) (by simp; omega) ?_; intro v' w6 hown6 hgrow6 hnil6) | fail)
          go_roundw
          case rel => exact ⟨i + 1, by go_num, by omega, hid (by rw [← happ.out]; exact hown6), (hxw.alloc _).grown hgrow6 (fun t e => (hown2.out.lt t e).1)⟩
          case measure => simp [intOf]; omega
    · obtain rfl : i = m := by omega
      obtain ⟨a5, c5, rfl, c52, c53, c54, c55⟩ := WRow.of_owns hown.out
      have hI : Hid (Ints .u64 wr (.slice a5 i c5) (tab i F)) := hid (by
        rcases Nat.eq_zero_or_pos i with h0 | h0
        · exact ⟨a5, c5, by rw [tab_len], by rw [tab_len]; omega, c53, fun h => by rw [tab_len] at h; omega⟩
        · obtain ⟨g4, rfl, hg4, hw4⟩ := c55 h0
          exact hw4.ints' (tab_len _ _) c52 c53)
      clear c55 c54 hown
      go_wp2_with fail
      go_ret
      exact ⟨_, rfl, hI.out, hx1.trans hxr⟩

end Go.Proofs.Ytjdbkbbhjiemdaa
