/- Package perm: an order done to things of any kind; Then, Do. -/
import Derived.Test.YtalkbmnbggclpaaPm1
import Derived.Test.YtalkbmnbggclpaaPiece
namespace Go.Proofs.Ytalkbmnbggclpaa
open Go.RowKit Go.Maps

/-- in the world w the slice u reads as the values us -/
def Vals (w : World) (u : Value) (us : List Value) : Prop :=
  ∃ (a : Option Addr) (cap : Nat), u = .slice a us.length cap ∧ us.length ≤ cap ∧ cap ≤ 9223372036854775807 ∧
    (0 < us.length → ∃ b off, a = some ⟨b, off, none⟩ ∧ b < w.heap.size ∧ ∀ j x, us[j]? = some x → w.cell? ⟨b, off + j, none⟩ = some x)
theorem Vals.ext {w w' : World} {u : Value} {us : List Value} (h : Vals w u us) (he : Ext w w') : Vals w' u us := by
  obtain ⟨a, cap, h1, h2, h3, h4⟩ := h
  refine ⟨a, cap, h1, h2, h3, fun hp => ?_⟩
  obtain ⟨b, off, ha, hb, hc⟩ := h4 hp
  exact ⟨b, off, ha, Nat.lt_of_lt_of_le hb he.size, fun j x hj => (he.cells _ _ hb).trans (hc j x hj)⟩
theorem getD_some {α : Type} {l : List α} {j : Nat} {x : α} (d : α) (h : l[j]? = some x) : l.getD j d = x := by rw [List.getD, h]; rfl
theorem Ints.vals {k : IntKind} {w : World} {v : Value} {xs : List Int} (h : Ints k w v xs) : Vals w v (xs.map (Value.int k)) := by
  obtain ⟨a, cap, h1, h2, h3, h4⟩ := h
  refine ⟨a, cap, by rw [h1, List.length_map], by rw [List.length_map]; exact h2, h3, fun hp => ?_⟩
  rw [List.length_map] at hp
  obtain ⟨b, off, ha, hb, hc⟩ := h4 hp
  refine ⟨b, off, ha, hb, fun j x hj => ?_⟩
  rw [List.getElem?_map] at hj
  obtain ⟨y, hy, rfl⟩ := Option.map_eq_some_iff.1 hj
  rw [hc j (List.getElem?_eq_some_iff.1 hy).1, getD_some 0 hy]
theorem Vals.ints {k : IntKind} {w : World} {v : Value} {xs : List Int} (h : Vals w v (xs.map (Value.int k))) : Ints k w v xs := by
  obtain ⟨a, cap, h1, h2, h3, h4⟩ := h
  rw [List.length_map] at h1 h2 h4
  refine ⟨a, cap, h1, h2, h3, fun hp => ?_⟩
  obtain ⟨b, off, ha, hb, hc⟩ := h4 hp
  refine ⟨b, off, ha, hb, fun j hj => hc j _ ?_⟩
  simp [List.getD, hj]
/-- what an order does to things of any kind -/
def doG {α : Type} (d : α) (p : List Int) (x : List α) : List α := p.map fun k => x.getD k.toNat d
theorem doG_len {α : Type} (d : α) (p : List Int) (x : List α) : (doG d p x).length = p.length := by simp [doG]
theorem doG_get {α : Type} {d : α} {p : List Int} {x : List α} {k : Nat} (hk : k < p.length) : (doG d p x)[k]? = some (x.getD (p.getD k 0).toNat d) := by
  simp [doG, List.getD, hk]
/-- a block whose first so many cells are known -/
theorem Blk.vals {w : World} {g n : Nat} {t : TypeId} {cs : Array Value} {us : List Value} (h : Blk w g t cs) (hl : us.length = n) (hn : n ≤ 9223372036854775807) (hc : ∀ j, j < n → cs[j]? = us[j]?) : Vals w (.slice (some ⟨g, 0, none⟩) n n) us := by
  subst hl
  refine ⟨_, _, rfl, Nat.le_refl _, hn, fun _ => ⟨g, 0, rfl, h.lt, fun j x hj => ?_⟩⟩
  rw [Nat.zero_add, h.cell j, hc j (List.getElem?_eq_some_iff.1 hj).1]; exact hj
/-- things that a call answers, or that something isn't right -/
def RetVals (ok : Bool) (us : List Value) (w : World) (e : Ending) (w' : World) : Prop :=
  ∃ (v : Value) (l' : List Value) (ee : Int), e = .returned (.tuple #[v, .int .i64 ee]) ∧ Vals w' v l' ∧ ee = (if ok = true then 0 else 1) ∧ l' = (if ok = true then us else []) ∧ Ext w w'
theorem Vals.nil {w : World} : Vals w (.slice none 0 0) [] := ⟨none, 0, rfl, by simp, by omega, by simp⟩
theorem make_rows {P : Program} (t e : TypeId) (bytes : Nat) (hb : bytes ≤ 24) (ht : P.underlying t = some (.slice e)) (hi : (P.info? e).map (fun i => (i.zero, i.size, i.bytes)) = some (some (.slice none 0 0), 1, bytes))
    (n c : Nat) (hnc : n ≤ c) (hc : c ≤ 1000000) (w : World) :
    (Instr.makeSlice t (.int .i64 n) (.int .i64 c)).run P w = .ok (.slice (some ⟨w.heap.size, 0, none⟩) n c) (w.alloc (.cells (madeCells #[Value.slice none 0 0] c) e)) := by
  obtain ⟨i, h1, h2, h3, h4⟩ := info_parts hi
  have hbc : i.bytes * c ≤ 24 * c := Nat.mul_le_mul_right _ (by omega)
  have hbi : (i.bytes : Int) * (c : Int) ≤ 281474976710656 := by rw [← Int.natCast_mul]; omega
  have := run_make (P := P) w t e i _ ht h1 h2 .i64 .i64 n c (by omega) (by omega) hbi (by omega)
  rw [this, h3]
  simp [Value.cells]

set_option maxRecDepth 100000 in
set_option maxHeartbeats 1000000 in
theorem doneI (v u : Value) (p : List Int) (us : List (Int)) (w : World) (hv : Ints .i64 w v p) (hu : Vals w u (us.map (Value.int .i64))) :
    Calls Try.prog 30 #[v, u] w (RetVals (ordB p && decide (us.length = p.length)) ((doG 0 p us).map (Value.int .i64)) w) := by
  have CR := hid fun (W : World) (hW : Ext w W) => qmRight v p W (hv.ext hW)
  obtain ⟨O, hO⟩ : ∃ O, ordB p = O := ⟨_, rfl⟩
  rw [hO] at CR ⊢
  have HO := hid hO
  obtain ⟨a', cap', rfl, m1, m2, m3⟩ := hu
  rw [List.length_map] at m1 m3 ⊢
  obtain ⟨a, cap, rfl, k1, k2, k3⟩ := hv
  have K3 := hid k3; have M3 := hid m3
  clear k3 m3 hO
  cases O with
  | false =>
    rw [Bool.false_and]
    clear K3 M3
    go_enter Try.func30, Try.ntmps30
    go_wp2_with (go_at_call 16; refine (CR.out _ (by repeat (first | exact Ext.refl _ | assumption | refine Ext.drew ?_ | refine Ext.drewN ?_ _ | refine Ext.alloc ?_ _ | refine Ext.trans ?_ (by assumption)))).mono ?_; rintro _ w1 ⟨rfl, x1⟩)
    go_ret2
    exact ⟨_, _, _, rfl, Vals.nil, rfl, rfl, x1⟩
  | true =>
    rw [Bool.true_and]
    obtain ⟨n, en⟩ : ∃ n, p.length = n := ⟨_, rfl⟩
    obtain ⟨m, em⟩ : ∃ m, us.length = m := ⟨_, rfl⟩
    have En := hid en; have Em := hid em
    rw [en] at CR K3 k1 ⊢
    rw [em] at M3 m1 ⊢
    have ho := ordB_iff.1 HO.out
    rw [en] at ho
    have Ho := hid ho.2.2
    have hn : 0 < n ∧ n ≤ 64 := ⟨ho.1, ho.2.1⟩
    clear ho en em
    by_cases hmn : m = n
    · subst hmn
      rw [decide_eq_true rfl]
      obtain ⟨b, off, rfl, hb, hc⟩ := K3.out (by omega)
      obtain ⟨b', off', rfl, hb', hc'⟩ := M3.out (by omega)
      have Hc := hid hc; have Hc' := hid hc'
      have bne : ((m : Int) != (m : Int)) = false := by simp
      have hmk := make_ints (P := Try.prog) 22 3 .i64 8 (by omega) (by kernel_rfl) (by kernel_rfl) m m (Nat.le_refl _) (by omega)
      clear hc hc'
      go_enter Try.func30, Try.ntmps30
      go_wp2_with (go_at_call 16; refine (CR.out _ (by repeat (first | exact Ext.refl _ | assumption | refine Ext.drew ?_ | refine Ext.drewN ?_ _ | refine Ext.alloc ?_ _ | refine Ext.trans ?_ (by assumption)))).mono ?_; rintro _ w1 ⟨rfl, x1⟩)
      have hb0 := hid (Blk.new w1 3 (madeCells #[Value.int .i64 0] m))
      have hx0 := x1.alloc (.cells (madeCells #[Value.int .i64 0] m) 3)
      obtain ⟨g, hg⟩ : ∃ g, w1.heap.size = g := ⟨_, rfl⟩
      have hgw : w.heap.size ≤ g := by have := x1.size; omega
      obtain ⟨w2, hw2⟩ : ∃ w2, w1.alloc (.cells (madeCells #[Value.int .i64 0] m) 3) = w2 := ⟨_, rfl⟩
      have hsz0 := hid (show (madeCells #[Value.int .i64 0] m).size = m by simp [madeCells])
      rw [hg, hw2] at hb0
      rw [hw2] at hx0
      rw [hg, hw2]
      obtain ⟨cs0, hcs0⟩ : ∃ c, madeCells #[Value.int .i64 0] m = c := ⟨_, rfl⟩
      rw [hcs0] at hb0 hsz0
      clear hw2 hmk hcs0 hg
      go_loopw [24] (fun iv wr => ∃ (k : Nat) (cs : Array Value), iv = .int .i64 k ∧ k ≤ m ∧ Hid (Blk wr g 3 cs) ∧ Hid (cs.size = m) ∧ Hid (∀ j, j < k → cs[j]? = some ((Value.int .i64) (us.getD (p.getD j 0).toNat 0))) ∧ Ext w wr) (fun iv _ => m - (intOf iv).toNat)
      case atStart => exact ⟨0, _, rfl, Nat.zero_le _, hb0, hsz0, hid (fun j hj => absurd hj (Nat.not_lt_zero _)), hx0⟩
      case round =>
        obtain ⟨k, cs, rfl, hk, hbl, hcs, hcc, hxw⟩ := hrel
        clear hx0 hb0
        by_cases hlt : k < m
        · obtain ⟨x0, e0⟩ : ∃ x, cs[k]? = some x := ⟨_, Array.getElem?_eq_getElem (by rw [hcs.out]; exact hlt)⟩
          have gX := (hbl.out.cell k).trans e0
          have gF := hbl.out.frozen k
          have g1 := (hxw.cells _ _ hb).trans (Hc.out k hlt)
          have hr := Ho.out.get hlt
          obtain ⟨y, ey⟩ : ∃ y, p.getD k 0 = y := ⟨_, rfl⟩
          rw [ey] at g1 hr
          obtain ⟨t, rfl⟩ := Int.eq_ofNat_of_zero_le hr.1
          have htm : t < m := by omega
          have Ey := hid ey
          obtain ⟨z, ez⟩ : ∃ z, us[t]? = some z := ⟨_, List.getElem?_eq_getElem (by rw [Em.out]; exact htm)⟩
          have g2 := (hxw.cells _ _ hb').trans (Hc'.out t ((Value.int .i64) z) (by rw [List.getElem?_map, ez]; rfl))
          have Ez := hid ez
          clear e0 ey ez hr
          skip
          go_wp2_with fail
          go_roundw
          case rel =>
            refine ⟨k + 1, cs.setIfInBounds k (.int .i64 z), by go_num, by omega, hid (hbl.out.set_ k _), hid (by simp [hcs.out]), hid (fun j hj => ?_), hxw.setCell (p := ⟨g, k, none⟩) hgw _⟩
            rw [Array.getElem?_setIfInBounds]
            by_cases e : k = j
            · subst e
              rw [if_pos rfl, if_pos (by rw [hcs.out]; exact hlt), Ey.out, Int.toNat_natCast, getD_some _ Ez.out]
              all_goals rfl
            · rw [if_neg e]; exact hcc.out j (by omega)
          case measure => simp [intOf]; omega
        · obtain rfl : m = k := by omega
          have hI := hid (hbl.out.vals (us := (doG 0 p us).map (Value.int .i64)) (n := m) (by rw [List.length_map, doG_len, En.out]) (by omega) fun j hj => by
            rw [hcc.out j hj, List.getElem?_map, doG_get (by rw [En.out]; exact hj)]; rfl)
          go_wp2_with fail
          go_ret2
          exact ⟨_, _, _, rfl, hI.out, rfl, rfl, hxw⟩
    · rw [decide_eq_false hmn]
      have bne : ((m : Int) != (n : Int)) = true := by rw [bne_iff_ne]; omega
      clear hmn K3 M3
      go_enter Try.func30, Try.ntmps30
      go_wp2_with (go_at_call 16; refine (CR.out _ (by repeat (first | exact Ext.refl _ | assumption | refine Ext.drew ?_ | refine Ext.drewN ?_ _ | refine Ext.alloc ?_ _ | refine Ext.trans ?_ (by assumption)))).mono ?_; rintro _ w1 ⟨rfl, x1⟩)
      go_ret2
      exact ⟨_, _, _, rfl, Vals.nil, rfl, rfl, x1⟩

set_option maxRecDepth 100000 in
set_option maxHeartbeats 1000000 in
theorem doneU (v u : Value) (p : List Int) (us : List (Int)) (w : World) (hv : Ints .i64 w v p) (hu : Vals w u (us.map (Value.int .u64))) :
    Calls Try.prog 35 #[v, u] w (RetVals (ordB p && decide (us.length = p.length)) ((doG 0 p us).map (Value.int .u64)) w) := by
  have CR := hid fun (W : World) (hW : Ext w W) => qmRight v p W (hv.ext hW)
  obtain ⟨O, hO⟩ : ∃ O, ordB p = O := ⟨_, rfl⟩
  rw [hO] at CR ⊢
  have HO := hid hO
  obtain ⟨a', cap', rfl, m1, m2, m3⟩ := hu
  rw [List.length_map] at m1 m3 ⊢
  obtain ⟨a, cap, rfl, k1, k2, k3⟩ := hv
  have K3 := hid k3; have M3 := hid m3
  clear k3 m3 hO
  cases O with
  | false =>
    rw [Bool.false_and]
    clear K3 M3
    go_enter Try.func35, Try.ntmps35
    go_wp2_with (go_at_call 16; refine (CR.out _ (by repeat (first | exact Ext.refl _ | assumption | refine Ext.drew ?_ | refine Ext.drewN ?_ _ | refine Ext.alloc ?_ _ | refine Ext.trans ?_ (by assumption)))).mono ?_; rintro _ w1 ⟨rfl, x1⟩)
    go_ret2
    exact ⟨_, _, _, rfl, Vals.nil, rfl, rfl, x1⟩
  | true =>
    rw [Bool.true_and]
    obtain ⟨n, en⟩ : ∃ n, p.length = n := ⟨_, rfl⟩
    obtain ⟨m, em⟩ : ∃ m, us.length = m := ⟨_, rfl⟩
    have En := hid en; have Em := hid em
    rw [en] at CR K3 k1 ⊢
    rw [em] at M3 m1 ⊢
    have ho := ordB_iff.1 HO.out
    rw [en] at ho
    have Ho := hid ho.2.2
    have hn : 0 < n ∧ n ≤ 64 := ⟨ho.1, ho.2.1⟩
    clear ho en em
    by_cases hmn : m = n
    · subst hmn
      rw [decide_eq_true rfl]
      obtain ⟨b, off, rfl, hb, hc⟩ := K3.out (by omega)
      obtain ⟨b', off', rfl, hb', hc'⟩ := M3.out (by omega)
      have Hc := hid hc; have Hc' := hid hc'
      have bne : ((m : Int) != (m : Int)) = false := by simp
      have hmk := make_ints (P := Try.prog) 23 55 .u64 8 (by omega) (by kernel_rfl) (by kernel_rfl) m m (Nat.le_refl _) (by omega)
      clear hc hc'
      go_enter Try.func35, Try.ntmps35
      go_wp2_with (go_at_call 16; refine (CR.out _ (by repeat (first | exact Ext.refl _ | assumption | refine Ext.drew ?_ | refine Ext.drewN ?_ _ | refine Ext.alloc ?_ _ | refine Ext.trans ?_ (by assumption)))).mono ?_; rintro _ w1 ⟨rfl, x1⟩)
      have hb0 := hid (Blk.new w1 55 (madeCells #[Value.int .u64 0] m))
      have hx0 := x1.alloc (.cells (madeCells #[Value.int .u64 0] m) 55)
      obtain ⟨g, hg⟩ : ∃ g, w1.heap.size = g := ⟨_, rfl⟩
      have hgw : w.heap.size ≤ g := by have := x1.size; omega
      obtain ⟨w2, hw2⟩ : ∃ w2, w1.alloc (.cells (madeCells #[Value.int .u64 0] m) 55) = w2 := ⟨_, rfl⟩
      have hsz0 := hid (show (madeCells #[Value.int .u64 0] m).size = m by simp [madeCells])
      rw [hg, hw2] at hb0
      rw [hw2] at hx0
      rw [hg, hw2]
      obtain ⟨cs0, hcs0⟩ : ∃ c, madeCells #[Value.int .u64 0] m = c := ⟨_, rfl⟩
      rw [hcs0] at hb0 hsz0
      clear hw2 hmk hcs0 hg
      go_loopw [24] (fun iv wr => ∃ (k : Nat) (cs : Array Value), iv = .int .i64 k ∧ k ≤ m ∧ Hid (Blk wr g 55 cs) ∧ Hid (cs.size = m) ∧ Hid (∀ j, j < k → cs[j]? = some ((Value.int .u64) (us.getD (p.getD j 0).toNat 0))) ∧ Ext w wr) (fun iv _ => m - (intOf iv).toNat)
      case atStart => exact ⟨0, _, rfl, Nat.zero_le _, hb0, hsz0, hid (fun j hj => absurd hj (Nat.not_lt_zero _)), hx0⟩
      case round =>
        obtain ⟨k, cs, rfl, hk, hbl, hcs, hcc, hxw⟩ := hrel
        clear hx0 hb0
        by_cases hlt : k < m
        · obtain ⟨x0, e0⟩ : ∃ x, cs[k]? = some x := ⟨_, Array.getElem?_eq_getElem (by rw [hcs.out]; exact hlt)⟩
          have gX := (hbl.out.cell k).trans e0
          have gF := hbl.out.frozen k
          have g1 := (hxw.cells _ _ hb).trans (Hc.out k hlt)
          have hr := Ho.out.get hlt
          obtain ⟨y, ey⟩ : ∃ y, p.getD k 0 = y := ⟨_, rfl⟩
          rw [ey] at g1 hr
          obtain ⟨t, rfl⟩ := Int.eq_ofNat_of_zero_le hr.1
          have htm : t < m := by omega
          have Ey := hid ey
          obtain ⟨z, ez⟩ : ∃ z, us[t]? = some z := ⟨_, List.getElem?_eq_getElem (by rw [Em.out]; exact htm)⟩
          have g2 := (hxw.cells _ _ hb').trans (Hc'.out t ((Value.int .u64) z) (by rw [List.getElem?_map, ez]; rfl))
          have Ez := hid ez
          clear e0 ey ez hr
          skip
          go_wp2_with fail
          go_roundw
          case rel =>
            refine ⟨k + 1, cs.setIfInBounds k (.int .u64 z), by go_num, by omega, hid (hbl.out.set_ k _), hid (by simp [hcs.out]), hid (fun j hj => ?_), hxw.setCell (p := ⟨g, k, none⟩) hgw _⟩
            rw [Array.getElem?_setIfInBounds]
            by_cases e : k = j
            · subst e
              rw [if_pos rfl, if_pos (by rw [hcs.out]; exact hlt), Ey.out, Int.toNat_natCast, getD_some _ Ez.out]
              all_goals rfl
            · rw [if_neg e]; exact hcc.out j (by omega)
          case measure => simp [intOf]; omega
        · obtain rfl : m = k := by omega
          have hI := hid (hbl.out.vals (us := (doG 0 p us).map (Value.int .u64)) (n := m) (by rw [List.length_map, doG_len, En.out]) (by omega) fun j hj => by
            rw [hcc.out j hj, List.getElem?_map, doG_get (by rw [En.out]; exact hj)]; rfl)
          go_wp2_with fail
          go_ret2
          exact ⟨_, _, _, rfl, hI.out, rfl, rfl, hxw⟩
    · rw [decide_eq_false hmn]
      have bne : ((m : Int) != (n : Int)) = true := by rw [bne_iff_ne]; omega
      clear hmn K3 M3
      go_enter Try.func35, Try.ntmps35
      go_wp2_with (go_at_call 16; refine (CR.out _ (by repeat (first | exact Ext.refl _ | assumption | refine Ext.drew ?_ | refine Ext.drewN ?_ _ | refine Ext.alloc ?_ _ | refine Ext.trans ?_ (by assumption)))).mono ?_; rintro _ w1 ⟨rfl, x1⟩)
      go_ret2
      exact ⟨_, _, _, rfl, Vals.nil, rfl, rfl, x1⟩
/-- a slice, as a value -/
def slV (x : Option Addr × Nat × Nat) : Value := .slice x.1 x.2.1 x.2.2

set_option maxRecDepth 100000 in
set_option maxHeartbeats 1000000 in
theorem doneS (v u : Value) (p : List Int) (us : List (Option Addr × Nat × Nat)) (w : World) (hv : Ints .i64 w v p) (hu : Vals w u (us.map slV)) :
    Calls Try.prog 37 #[v, u] w (RetVals (ordB p && decide (us.length = p.length)) ((doG (none, 0, 0) p us).map slV) w) := by
  have CR := hid fun (W : World) (hW : Ext w W) => qmRight v p W (hv.ext hW)
  obtain ⟨O, hO⟩ : ∃ O, ordB p = O := ⟨_, rfl⟩
  rw [hO] at CR ⊢
  have HO := hid hO
  obtain ⟨a', cap', rfl, m1, m2, m3⟩ := hu
  rw [List.length_map] at m1 m3 ⊢
  obtain ⟨a, cap, rfl, k1, k2, k3⟩ := hv
  have K3 := hid k3; have M3 := hid m3
  clear k3 m3 hO
  cases O with
  | false =>
    rw [Bool.false_and]
    clear K3 M3
    go_enter Try.func37, Try.ntmps37
    go_wp2_with (go_at_call 16; refine (CR.out _ (by repeat (first | exact Ext.refl _ | assumption | refine Ext.drew ?_ | refine Ext.drewN ?_ _ | refine Ext.alloc ?_ _ | refine Ext.trans ?_ (by assumption)))).mono ?_; rintro _ w1 ⟨rfl, x1⟩)
    go_ret2
    exact ⟨_, _, _, rfl, Vals.nil, rfl, rfl, x1⟩
  | true =>
    rw [Bool.true_and]
    obtain ⟨n, en⟩ : ∃ n, p.length = n := ⟨_, rfl⟩
    obtain ⟨m, em⟩ : ∃ m, us.length = m := ⟨_, rfl⟩
    have En := hid en; have Em := hid em
    rw [en] at CR K3 k1 ⊢
    rw [em] at M3 m1 ⊢
    have ho := ordB_iff.1 HO.out
    rw [en] at ho
    have Ho := hid ho.2.2
    have hn : 0 < n ∧ n ≤ 64 := ⟨ho.1, ho.2.1⟩
    clear ho en em
    by_cases hmn : m = n
    · subst hmn
      rw [decide_eq_true rfl]
      obtain ⟨b, off, rfl, hb, hc⟩ := K3.out (by omega)
      obtain ⟨b', off', rfl, hb', hc'⟩ := M3.out (by omega)
      have Hc := hid hc; have Hc' := hid hc'
      have bne : ((m : Int) != (m : Int)) = false := by simp
      have hmk := make_rows (P := Try.prog) 68 23 24 (by omega) (by kernel_rfl) (by kernel_rfl) m m (Nat.le_refl _) (by omega)
      clear hc hc'
      go_enter Try.func37, Try.ntmps37
      go_wp2_with (go_at_call 16; refine (CR.out _ (by repeat (first | exact Ext.refl _ | assumption | refine Ext.drew ?_ | refine Ext.drewN ?_ _ | refine Ext.alloc ?_ _ | refine Ext.trans ?_ (by assumption)))).mono ?_; rintro _ w1 ⟨rfl, x1⟩)
      have hb0 := hid (Blk.new w1 23 (madeCells #[Value.slice none 0 0] m))
      have hx0 := x1.alloc (.cells (madeCells #[Value.slice none 0 0] m) 23)
      obtain ⟨g, hg⟩ : ∃ g, w1.heap.size = g := ⟨_, rfl⟩
      have hgw : w.heap.size ≤ g := by have := x1.size; omega
      obtain ⟨w2, hw2⟩ : ∃ w2, w1.alloc (.cells (madeCells #[Value.slice none 0 0] m) 23) = w2 := ⟨_, rfl⟩
      have hsz0 := hid (show (madeCells #[Value.slice none 0 0] m).size = m by simp [madeCells])
      rw [hg, hw2] at hb0
      rw [hw2] at hx0
      rw [hg, hw2]
      obtain ⟨cs0, hcs0⟩ : ∃ c, madeCells #[Value.slice none 0 0] m = c := ⟨_, rfl⟩
      rw [hcs0] at hb0 hsz0
      clear hw2 hmk hcs0 hg
      go_loopw [24] (fun iv wr => ∃ (k : Nat) (cs : Array Value), iv = .int .i64 k ∧ k ≤ m ∧ Hid (Blk wr g 23 cs) ∧ Hid (cs.size = m) ∧ Hid (∀ j, j < k → cs[j]? = some (slV (us.getD (p.getD j 0).toNat (none, 0, 0)))) ∧ Ext w wr) (fun iv _ => m - (intOf iv).toNat)
      case atStart => exact ⟨0, _, rfl, Nat.zero_le _, hb0, hsz0, hid (fun j hj => absurd hj (Nat.not_lt_zero _)), hx0⟩
      case round =>
        obtain ⟨k, cs, rfl, hk, hbl, hcs, hcc, hxw⟩ := hrel
        clear hx0 hb0
        by_cases hlt : k < m
        · obtain ⟨x0, e0⟩ : ∃ x, cs[k]? = some x := ⟨_, Array.getElem?_eq_getElem (by rw [hcs.out]; exact hlt)⟩
          have gX := (hbl.out.cell k).trans e0
          have gF := hbl.out.frozen k
          have g1 := (hxw.cells _ _ hb).trans (Hc.out k hlt)
          have hr := Ho.out.get hlt
          obtain ⟨y, ey⟩ : ∃ y, p.getD k 0 = y := ⟨_, rfl⟩
          rw [ey] at g1 hr
          obtain ⟨t, rfl⟩ := Int.eq_ofNat_of_zero_le hr.1
          have htm : t < m := by omega
          have Ey := hid ey
          obtain ⟨z, ez⟩ : ∃ z, us[t]? = some z := ⟨_, List.getElem?_eq_getElem (by rw [Em.out]; exact htm)⟩
          have g2 := (hxw.cells _ _ hb').trans (Hc'.out t (slV z) (by rw [List.getElem?_map, ez]; rfl))
          have Ez := hid ez
          clear e0 ey ez hr
          obtain ⟨z1, z2, z3⟩ := z
          unfold slV at g2
          dsimp only at g2
          go_wp2_with fail
          go_roundw
          case rel =>
            refine ⟨k + 1, cs.setIfInBounds k (.slice z1 z2 z3), by go_num, by omega, hid (hbl.out.set_ k _), hid (by simp [hcs.out]), hid (fun j hj => ?_), hxw.setCell (p := ⟨g, k, none⟩) hgw _⟩
            rw [Array.getElem?_setIfInBounds]
            by_cases e : k = j
            · subst e
              rw [if_pos rfl, if_pos (by rw [hcs.out]; exact hlt), Ey.out, Int.toNat_natCast, getD_some _ Ez.out]
              all_goals rfl
            · rw [if_neg e]; exact hcc.out j (by omega)
          case measure => simp [intOf]; omega
        · obtain rfl : m = k := by omega
          have hI := hid (hbl.out.vals (us := (doG (none, 0, 0) p us).map slV) (n := m) (by rw [List.length_map, doG_len, En.out]) (by omega) fun j hj => by
            rw [hcc.out j hj, List.getElem?_map, doG_get (by rw [En.out]; exact hj)]; rfl)
          go_wp2_with fail
          go_ret2
          exact ⟨_, _, _, rfl, hI.out, rfl, rfl, hxw⟩
    · rw [decide_eq_false hmn]
      have bne : ((m : Int) != (n : Int)) = true := by rw [bne_iff_ne]; omega
      clear hmn K3 M3
      go_enter Try.func37, Try.ntmps37
      go_wp2_with (go_at_call 16; refine (CR.out _ (by repeat (first | exact Ext.refl _ | assumption | refine Ext.drew ?_ | refine Ext.drewN ?_ _ | refine Ext.alloc ?_ _ | refine Ext.trans ?_ (by assumption)))).mono ?_; rintro _ w1 ⟨rfl, x1⟩)
      go_ret2
      exact ⟨_, _, _, rfl, Vals.nil, rfl, rfl, x1⟩

theorem thenL_doG (p q : List Int) : doG 0 q p = thenL p q := rfl
theorem doL_doG (p x : List Int) : doG 0 p x = doL p x := rfl
set_option maxHeartbeats 400000 in
theorem qmThen (v u : Value) (p q : List Int) (w : World) (hv : Ints .i64 w v p) (hu : Ints .i64 w u q) : Calls Try.prog 8 #[v, u] w (RetGI (ordB p && (ordB q && decide (q.length = p.length))) (thenL p q) w) := by
  have C1 := hid (qmRight v p w hv)
  have C2 := hid fun (W : World) (hW : Ext w W) => doneI u v q p W (hu.ext hW) (hv.ext hW).vals
  cases hp : ordB p with
  | false =>
    rw [hp] at C1
    rw [Bool.false_and]
    clear hp
    go_enter Try.func8, Try.ntmps8
    go_wp2_with (go_at_call 16; refine C1.out.mono ?_; rintro _ w1 ⟨rfl, x1⟩)
    go_ret2
    exact ⟨_, _, _, rfl, Ints.nil, rfl, rfl, x1⟩
  | true =>
    rw [hp] at C1
    rw [Bool.true_and]
    have e : (ordB q && decide (q.length = p.length)) = (ordB q && decide (p.length = q.length)) := by rw [show decide (q.length = p.length) = decide (p.length = q.length) from by rw [decide_eq_decide]; exact eq_comm]
    rw [e]
    obtain ⟨B, hB⟩ : ∃ B, (ordB q && decide (p.length = q.length)) = B := ⟨_, rfl⟩
    rw [hB] at C2 ⊢
    clear hp hB e
    go_enter Try.func8, Try.ntmps8
    go_wp2_with (first
      | (go_at_call 16; refine C1.out.mono ?_; rintro _ w1 ⟨rfl, x1⟩)
      | (go_at_call 30; refine (C2.out _ x1).mono ?_; rintro _ w2 ⟨r, l, ee, rfl, h1, h2, h3, x2⟩; have H2 := hid h2; have H3 := hid h3; clear h2 h3))
    go_ret2
    refine ⟨_, _, _, rfl, ?_, H2.out, rfl, x1.trans x2⟩
    refine Vals.ints ?_
    rw [H3.out] at h1
    cases B with
    | false => simpa using h1
    | true => simpa [thenL_doG] using h1
set_option maxHeartbeats 400000 in
theorem qmDo (v u : Value) (p x : List Int) (w : World) (hv : Ints .i64 w v p) (hu : Ints .u64 w u x) : Calls Try.prog 11 #[v, u] w (RetG (ordB p && decide (x.length = p.length)) (doL p x) w) := by
  have C2 := hid (doneU v u p x w hv hu.vals)
  obtain ⟨B, hB⟩ : ∃ B, (ordB p && decide (x.length = p.length)) = B := ⟨_, rfl⟩
  rw [hB] at C2 ⊢
  clear hB
  go_enter Try.func11, Try.ntmps11
  go_wp2_with (go_at_call 35; refine C2.out.mono ?_; rintro _ w2 ⟨r, l, ee, rfl, h1, h2, h3, x2⟩; have H2 := hid h2; have H3 := hid h3; clear h2 h3)
  go_ret2
  refine ⟨_, _, _, rfl, ?_, H2.out, rfl, x2⟩
  refine Vals.ints ?_
  rw [H3.out] at h1
  cases B with
  | false => simpa using h1
  | true => simpa [doL_doG] using h1
end Go.Proofs.Ytalkbmnbggclpaa
