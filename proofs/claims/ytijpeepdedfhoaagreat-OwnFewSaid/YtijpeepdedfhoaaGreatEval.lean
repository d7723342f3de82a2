/- A polynomial's number at a place. -/
import Derived.Test.YtijpeepdedfhoaaGreatDiv
import Derived.Test.YtijpeepdedfhoaaGreatBun15
import Derived.Test.YtijpeepdedfhoaaGreatRound
namespace Go.Proofs.YtijpeepdedfhoaaGreat
open Go.RowKit Go.Shelf

attribute [local go_sem] Oper.semAt_some

/-- a polynomial's number at x, from its greatest term down -/
def hor (p x : Int) (l : List Int) : Int := l.foldl (fun a c => (a * x + c) % p) 0
theorem hor_snoc (p x c : Int) (l : List Int) : hor p x (l ++ [c]) = (hor p x l * x + c) % p := by simp [hor]
theorem hor_range {p : Int} (hp : 2 ≤ p) (x : Int) (l : List Int) : 0 ≤ hor p x l ∧ hor p x l < p := by
  rcases List.eq_nil_or_concat l with rfl | ⟨l', c, rfl⟩
  · simp [hor]; omega
  · rw [List.concat_eq_append, hor_snoc]; exact mod_range _ hp

theorem plus_as (p a b r : Int) (w : World) (hp : rightB p = true) (ha0 : 0 ≤ a) (ha : a < p) (hb0 : 0 ≤ b) (hb : b < p) (h : (a + b) % p = r) :
    Calls Tryz.prog 48 #[.int .u64 p, .int .u64 a, .int .u64 b] w (Ret (.int .u64 r) w) := h ▸ plus_any p a b w hp ha0 ha hb0 hb
theorem boxed_own' {β : Type} (B : Nat) (t : TypeId) (f : β → Value) : Own (fun s W => Boxed W B t (f s)) := fun s X Y row hs hg hrow =>
  hs.kept hg (fun e' => by obtain ⟨o, ho, hc⟩ := hrow B e'.symm; rw [show X.heap[B]? = _ from hs] at ho; cases ho; cases hc)
theorem ext_others {A B : World} (h : Ext A B) : KeepsOthers A B := ⟨h.size, fun k _ hk _ => (h.block k (Array.getElem?_eq_some_iff.1 hk).1).trans hk⟩
theorem boxed_ext {A B : World} {g : Nat} {t : TypeId} {v : Value} (h : Ext A B) (hb : Boxed A g t v) : Boxed B g t v := (h.block g hb.lt).trans hb
theorem ext_row {A B : World} (h : Ext A B) {Bs b : Nat} (h1 : Bs < A.heap.size) (h2 : b < A.heap.size) : KeepsRow Bs b A B := ⟨h.cells _ _ h1, fun _ => h.cells _ _ h2⟩
theorem set_row (W : World) {g Bs b : Nat} (h1 : g ≠ Bs) (h2 : g ≠ b) (v : Value) : KeepsRow Bs b W (W.setCell ⟨g, 0, none⟩ v) :=
  ⟨World.cell?_setCell_other _ _ _ _ (by intro e; injection e with e1; exact h1 e1), fun _ => World.cell?_setCell_other _ _ _ _ (by intro e; injection e with e1; exact h2 e1)⟩

set_option maxRecDepth 100000 in
set_option maxHeartbeats 1000000 in
theorem pEval_yes (p x : Int) (v : Value) (xs : List Int) (w : World) (hp : rightB p = true) (hv : Ints .u64 w v xs) (hx : Pol p xs) (hl : xs.length ≤ 512) (hx0 : 0 ≤ x) (hx1 : x < p) :
    Calls Tryz.prog 15 #[.int .u64 p, v, .int .u64 x] w (Ret (.tuple #[.int .u64 (hor p x xs.reverse), .int .i64 0]) w) := by
  have hp2 := rightB_true hp
  have Hv := hid hv; have Hx := hid hx; have Hp := hid hp
  have hh := hid (hasB_one hp hx1)
  clear hx hp
  obtain ⟨a, cap, rfl, k1, k2, k3⟩ := hv
  have K3 := hid k3
  clear k3
  refine (callsIn_wide (n := 7)).1 ?_
  have f1 : Fence.wide.fn 46 := trivial
  have f2 : Fence.wide.fn 30 := trivial
  have f3 : Fence.wide.fn 47 := trivial
  have f4 : Fence.wide.fn 85 := trivial
  have f5 : Fence.wide.fn 49 := trivial
  have f6 : Fence.wide.fn 48 := trivial
  refine callsIn_of_wp_marks Tryz.func15 rfl trivial ?_ rfl
  simp only [Tryz.ntmps15, List.size_toArray, List.length_cons, List.length_nil, Nat.reduceAdd, Nat.reduceSub, Array.replicate_succ, Array.replicate_zero, List.push_toArray, List.append_toArray, List.nil_append, List.cons_append]
  have c1 : Hid (∀ W, Ext w W → CallsIn Fence.wide 6 Tryz.prog 46 #[.int .u64 p, .slice a xs.length cap] W fun e w' => e = .returned (.bool true) ∧ W = w') := hid fun W h => (callsIn_wide (n := 6)).2 (polRight_yes p _ xs _ Hp.out (Hv.out.ext h) Hx.out hl)
  have c2 : Hid (∀ W v, Ints .u64 W v [x] → CallsIn Fence.wide 6 Tryz.prog 30 #[.int .u64 p, v] W fun e w' => e = .returned (.bool true) ∧ W = w') := hid fun W v h => (callsIn_wide (n := 6)).2 (has_yes p _ [x] _ h (U64s.one (by omega) (by omega)) hh.out)
  gi_wp2_with fail
  refine (c1.out _ ((Ext.refl w).alloc _)).mono ?_
  rintro _ _ ⟨rfl, rfl⟩
  gi_wp2_with fail
  refine (c2.out _ _ (Ints.at1 (by simp))).mono ?_
  rintro _ _ ⟨rfl, rfl⟩
  gi_wp2_with fail
  refine (backU_in Fence.wide 6 trivial rfl _ _ _ _).mono ?_
  rintro _ _ ⟨rfl, rfl⟩
  gi_wp2_with fail
  obtain ⟨H, hH⟩ : ∃ H, w.heap.size = H := ⟨_, rfl⟩
  obtain ⟨w3, hw3⟩ : ∃ w3, ((w.alloc (.cells #[.int .u64 x] 22)).alloc (.cells #[.int .u64 x] 22)).alloc (.cells #[.int .u64 p] 71) = w3 := ⟨_, rfl⟩
  have hs3 : w3.heap.size = H + 1 + 1 + 1 := by rw [← hw3, ← hH]; simp
  have hx3 : Ext w w3 := by rw [← hw3]; exact ((((Ext.refl w).alloc _).alloc _).alloc _)
  have bx3 : Boxed w3 H 22 (.int .u64 x) := by rw [← hw3, ← hH]; exact ((Boxed.new w _ _).alloc _).alloc _
  have br3 : Boxed w3 (H + 1 + 1) 71 (.int .u64 p) := by
    have := Boxed.new ((w.alloc (.cells #[.int .u64 x] 22)).alloc (.cells #[.int .u64 x] 22)) 71 (.int .u64 p)
    rw [hw3] at this
    simpa [hH] using this
  rw [hw3, hH]
  obtain ⟨w4, hw4⟩ : ∃ w4, w3.alloc (.cells #[.int .u64 0] 22) = w4 := ⟨_, rfl⟩
  have bv4 : Boxed w4 (H + 1 + 1 + 1) 22 (.int .u64 0) := by rw [← hw4, ← hs3]; exact Boxed.new w3 _ _
  have hs4 : w4.heap.size = H + 1 + 1 + 1 + 1 := by rw [← hw4]; simp [hs3]
  have hx4 : Ext w3 w4 := by rw [← hw4]; exact (Ext.refl w3).alloc _
  rw [hw4]
  obtain ⟨w5, hw5⟩ : ∃ w5, w4.alloc (.cells #[.slice a xs.length cap] 23) = w5 := ⟨_, rfl⟩
  have bs5 : Boxed w5 (H + 1 + 1 + 1 + 1) 23 (.slice a xs.length cap) := by rw [← hw5, ← hs4]; exact Boxed.new w4 _ _
  have hs5 : w5.heap.size = H + 1 + 1 + 1 + 1 + 1 := by rw [← hw5]; simp [hs4]
  have hx5 : Ext w4 w5 := by rw [← hw5]; exact (Ext.refl w4).alloc _
  have bv5 := boxed_ext hx5 bv4
  rw [hw5]
  clear hw3 hw4 hw5 c1 c2 bv4
  obtain ⟨ys, hys⟩ : ∃ ys : List {c : Int // 0 ≤ c ∧ c < p}, ys.map (·.1) = xs := ⟨xs.attach.map fun c => ⟨c.1, Hx.out.rng c.1 c.2⟩, by simp [List.map_map]⟩
  have hyl : ys.length = xs.length := by rw [← hys]; simp
  obtain ⟨bq, hbq, hbq2⟩ : ∃ bq, (0 < xs.length → ∃ off, a = some ⟨bq, off, none⟩) ∧ bq < H + 1 := by
    rcases Nat.eq_zero_or_pos xs.length with h | h
    · exact ⟨0, fun h' => by omega, by omega⟩
    · obtain ⟨b, off, e, hb, _⟩ := K3.out h
      exact ⟨b, fun _ => ⟨off, e⟩, by omega⟩
  have hst := backU_stops (fun c : {c : Int // 0 ≤ c ∧ c < p} => Value.int .u64 c.1) Fence.wide 6 trivial rfl (by omega) (H + 1 + 1 + 1 + 1) xs.length cap a ys hyl (by omega) w5 (by omega) bs5.cell
    (fun h => by
      obtain ⟨b, off, e, hb, hc⟩ := K3.out h
      refine ⟨b, off, e, by omega, fun j hj => ?_⟩
      rw [((hx3.trans hx4).trans hx5).cells _ _ hb, hc j (by omega), ← hys]
      simp [List.getD, hj]) bq hbq
  refine wpIn_rangeFunc_ownF rfl (by omega) (gf := 85) (lb := #[.pointer (some ⟨H + 1 + 1 + 1 + 1, 0, none⟩)]) rfl trivial (enters_of Tryz.func85 (by kernel_rfl) rfl)
    hst KeepsRow.trans (fun W l o o' hl _ _ _ => KeepsRow.put (n := w5.heap.size) (by omega) (by omega) W l o' hl) (Below.refl _ _) (fun _ => rfl)
    (fun pre W => Boxed W (H + 1 + 1 + 1) 22 (.int .u64 (hor p x (pre.map (·.2.1)))) ∧ Ext w3 W ∧ w5.heap.size ≤ W.heap.size)
    (fun _ _ _ => False)
    (OwnFrom.and (Own.from (boxed_own' _ _ (fun pre : List (Nat × {c : Int // 0 ≤ c ∧ c < p}) => .int .u64 (hor p x (pre.map (·.2.1))))) _) (OwnFrom.and (ownFrom_below (Nat.le_refl _) (by omega)) (fun _ _ _ _ hs hg _ => Nat.le_trans hs hg.size)))
    (fun _ _ _ _ _ hs _ _ => hs)
    ⟨bv5, hx4.trans hx5, Nat.le_refl _⟩
    (fun x' => { tmps := #[.int .u64 p, .slice a xs.length cap, .int .u64 x, undef, undef, .pointer (some ⟨H, 0, none⟩), .int .u64 0, .int .i64 0, .pointer (some ⟨H + 1 + 1, 0, none⟩), .pointer (some ⟨H + 1 + 1 + 1, 0, none⟩), undef, .int .u64 x'.2.1, .int .u64 p, .slice a xs.length cap, .bool true, .bool false, .bool false, .int .u64 p, .int .u64 x, .slice (some ⟨H + 1, 0, none⟩) 1 1, .bool true, .bool false, .bool false, .int .u64 p, .slice a xs.length cap, .func (.func 85) #[] #[.pointer (some ⟨H + 1 + 1 + 1 + 1, 0, none⟩)], .int .i64 (x'.1 : Int), .int .u64 x'.2.1, undef, undef, undef, undef, undef, undef, undef, undef], defers := [] }) ?assign ?body ?done ?stop
  case assign =>
    intro l x' W K hK
    gi_wp2
    exact hK
  case body =>
    rintro l pre ⟨i, c, hc0, hc1⟩ W ⟨hB, hE, hsW⟩ hlt
    dsimp only
    obtain ⟨y, ey⟩ : ∃ y, hor p x (pre.map (·.2.1)) = y := ⟨_, rfl⟩
    have hy := hor_range hp2.1 x (pre.map (·.2.1))
    rw [ey] at hB hy
    have Ey := hid ey
    obtain ⟨s, es, s0, s1⟩ := name_mod (p := p) (y * x) hp2.1
    obtain ⟨r, er, r0, r1⟩ := name_mod (p := p) (s + c) hp2.1
    have hr : (y * x + c) % p = r := by rw [← er, ← es, ma_l]
    have Es := hid es; have Er := hid er; have Hr := hid hr
    clear ey es er hr
    have cv := hB.cell
    have fv := hB.frozen
    have cx := (hE.cells H 0 (by omega)).trans bx3.cell
    have cr := (hE.cells (H + 1 + 1) 0 (by omega)).trans br3.cell
    have hWs := hE.size
    have hmx : Tryz.prog.follows .mixedOrders = true := by kernel_rfl
    gi_wp2
    refine region_round (fun W' => Ext w3 W') hmx (by kernel_rfl) (by rintro ⟨_, _, h⟩; exact h) hE.drew (fun hHeld => ?_)
    refine wpAnyH_take (i := 0) (v := .int .u64 p) rfl (by kernel_rfl) (by kernel_rfl) (by kernel_rfl) (fun _ _ _ h => h) (Or.inl ⟨by rfl, ?_⟩) hHeld ?_
    · intro W' hSw
      have cr' := (hSw.cells (H + 1 + 1) 0 (by omega)).trans br3.cell
      go_simp
    refine wpAnyH_take (i := 1) (v := .int .u64 p) rfl (by kernel_rfl) (by kernel_rfl) (by kernel_rfl) (fun _ _ _ h => h) (Or.inl ⟨by rfl, ?_⟩) hHeld ?_
    · intro W' hSw
      have cr' := (hSw.cells (H + 1 + 1) 0 (by omega)).trans br3.cell
      go_simp
    refine wpAnyH_take (i := 3) (v := .int .u64 x) rfl (by kernel_rfl) (by kernel_rfl) (by kernel_rfl) (fun _ _ _ h => h) (Or.inl ⟨by rfl, ?_⟩) hHeld ?_
    · intro W' hSw
      have cx' := (hSw.cells H 0 (by omega)).trans bx3.cell
      go_simp
    refine wpAnyH_take (i := 5) (v := .int .u64 c) rfl (by kernel_rfl) (by kernel_rfl) (by kernel_rfl) (fun _ _ _ h => h) (Or.inl ⟨by rfl, ?_⟩) hHeld ?_
    · intro W' hSw
      go_simp
    refine held_step 2 (by kernel_rfl) rfl (fun K hK => ?_)
    go_simp
    refine hK.out _ _ (hHeld) (fun hHeld => ?_)
    clear hK K
    refine held_step 4 (by kernel_rfl) rfl (fun K hK => ?_)
    go_simp
    go_wp2_with fail
    refine (rtimes_as p y x s _ Hp.out hy.1 hy.2 hx0 hx1 Es.out).mono ?_
    rintro _ w6 ⟨rfl, h6⟩
    have h7 : Ext W w6 := (Ext.refl W).drew.trans h6
    go_wp2_with fail
    refine hK.out _ _ (hE.trans h7) (fun hHeld => ?_)
    clear hK K
    refine held_step 6 (by kernel_rfl) rfl (fun K hK => ?_)
    go_simp
    go_wp2_with fail
    refine (plus_as p s c r _ Hp.out s0 s1 hc0 hc1 Er.out).mono ?_
    rintro _ w8 ⟨rfl, h8⟩
    have h9 : Ext W w8 := h7.trans h8
    have b9 := boxed_ext h9 hB
    have cv9 := b9.cell
    have fv9 := b9.frozen
    go_wp2_with fail
    refine hK.out _ _ (hE.trans h9) (fun hHeld => ?_)
    clear hK K
    refine held_step 7 (by kernel_rfl) rfl (fun K hK => ?_)
    go_simp
    refine hK.out _ _ ((hE.trans h9).setCell (show w3.heap.size ≤ H + 1 + 1 + 1 by omega) _) (fun hHeld => ?_)
    clear hK K
    refine wpAnyH_done (by kernel_rfl) ?_ _
    refine ⟨(ext_others h9).trans (KeepsOthers.setCell _ _ _), (ext_row h9 (by omega) (by omega)).trans (set_row _ (by omega) (by omega) _), ?_, (hE.trans h9).setCell (show w3.heap.size ≤ H + 1 + 1 + 1 by omega) _, by have := h9.size; simp [World.setCell]; omega⟩
    rw [List.map_append, List.map_cons, List.map_nil, hor_snoc, Ey.out, Hr.out]
    exact b9.set _
  case done =>
    rintro D zs W hD hS ⟨hB, hE, _⟩ hK
    have hc := hB.cell
    gi_wp2
    refine ⟨by simp, .inl ⟨_, _, rfl, run_takeDeferred hK, ?_⟩⟩
    have e : zs.map (·.2.1) = xs.reverse := by
      have := congrArg (List.map Subtype.val) hS
      rw [List.map_map, List.map_reverse, hys] at this
      exact this
    rw [e]
    exact ⟨_, results_tmp2 rfl _ _ _, rfl, Below.trans (hx3.trans hE) (belowK_b (w := w) (Nat.le_refl _) W D _ _ (by omega) hK rfl rfl)⟩
  case stop =>
    rintro D c pre W _ _ h _
    exact h.elim
end Go.Proofs.YtijpeepdedfhoaaGreat
