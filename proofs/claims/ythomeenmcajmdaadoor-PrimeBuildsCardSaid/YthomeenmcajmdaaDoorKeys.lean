/- maps.Keys and slices.Sorted at a map whose keys are uint64. -/
import Derived.Test.YthomeenmcajmdaaDoorBun10
import Derived.Test.YthomeenmcajmdaaDoorBun05
import Derived.RangeFuncBox
import Derived.RangeFuncBound
import Derived.RangeFuncLeaves
import Derived.RangeFuncWrites
import Derived.RangeFuncStops
import Derived.RangeFuncKeeps
import Derived.Shelf.Abstract
import Derived.WalkKit
import Derived.OwnWalkIn
import Derived.TacticsInMore
import Derived.RegionIn
import Derived.LoopNIn
import Derived.LoopIn
import Derived.Maps.AppendAt
import Derived.Sort.MapsRangeIn
import Derived.Sort.KeysCollected
namespace Go.Proofs.YthomeenmcajmdaaDoor
open Go.RowKit Go.Maps Go.Shelf

attribute [local go_sem] Oper.semAt_some

theorem keyOf_u64 {key : Value} {kl : Lit} (h : keyOf Tryd.prog 22 key = some kl) : ∃ x : Int, key = .int .u64 x ∧ kl = .int .u64 x ∧ 0 ≤ x ∧ x ≤ 18446744073709551615 := by
  have hk := Tryd.underlying22
  cases key <;> simp [keyOf, hk, mapKey] at h
  rename_i q a
  obtain ⟨⟨rfl, hw⟩, rfl⟩ := h
  exact ⟨a, rfl, rfl, u64_wf hw⟩

/-- the keys that have come are those that are no longer to come -/
def Came (D0 : DataW Value) (left : Lit → Bool) (ss : List Int) : Prop := ss.Nodup ∧ ∀ x, x ∈ ss ↔ (has D0 (.int .u64 x) = true ∧ left (.int .u64 x) = false)
theorem Came.start (D0 : DataW Value) : Came D0 (has D0) [] := ⟨List.nodup_nil, fun x => by cases has D0 (.int .u64 x) <;> simp⟩
theorem Came.step {D0 : DataW Value} {left : Lit → Bool} {ss : List Int} (h : Came D0 left ss) {x : Int} (hlk : left (.int .u64 x) = true) (hhas : has D0 (.int .u64 x) = true) : Came D0 (fun z => left z && !z.sameKey (.int .u64 x)) (ss ++ [x]) := by
  have hnew : x ∉ ss := fun hx => by have := ((h.2 x).1 hx).2; rw [hlk] at this; cases this
  refine ⟨List.nodup_append.2 ⟨h.1, by simp, fun a ha b hb => by simp at hb; subst hb; exact fun e => hnew (e ▸ ha)⟩, fun y => ?_⟩
  by_cases hy : y = x
  · subst hy; simp [hhas, Lit.sameKey]
  · simp [h.2 y, hy, Lit.sameKey]

/-- the keys of a map, each once -/
def KeysOf (D0 : DataW Value) (ss : List Int) : Prop := ss.Nodup ∧ (∀ x, x ∈ ss ↔ has D0 (.int .u64 x) = true) ∧ ss.length ≤ Maps.size D0

set_option maxRecDepth 100000 in
set_option maxHeartbeats 1000000 in
theorem keys_iter (F : Fence) (n : Nat) (hF : F.fn 27) (hro : F.round = none) (hn : 1 ≤ n) (l Bm b nn : Nat) (D0 : DataW Value) {R : Value → Option (DataW Value × List MemPlace)} (J Jx : List Int → World → Prop)
    (hY : ∀ pre x W, J pre W → pre.length < Maps.size D0 → YieldAt F (n - 1) Tryd.prog l #[.int .u64 x] W fun e W' =>
      (e = .returned (.bool true) ∧ J (pre ++ [x]) W' ∧ KeepsWalks W W') ∨ (e = .returned (.bool false) ∧ Jx (pre ++ [x]) W'))
    (W : World) (hJ : AbidesFrom W.heap.size J) (hm : W.cell? ⟨Bm, 0, none⟩ = some (.map (some b))) (hown : W.ownsMap Tryd.prog 22 R b nn D0) (h0 : J [] W) :
    CallsIn F n Tryd.prog 27 #[.func (.yield l) #[] #[], .pointer (some ⟨Bm, 0, none⟩)] W fun e W' => (∃ v, e = .returned v) ∧
      ((∃ ss : List Int, KeysOf D0 ss ∧ J ss W') ∨ (∃ pre : List Int, True ∧ Jx pre W')) := by
  refine callsIn_of_wp Tryd.func27 rfl hF ?_ hro
  simp only [Tryd.ntmps27, List.size_toArray, List.length_cons, List.length_nil, Nat.reduceAdd, Nat.reduceSub, Array.replicate_succ, Array.replicate_zero, List.push_toArray, List.append_toArray, List.nil_append, List.cons_append]
  gi_wp2_with (first
    | (gi_at_range; refine wpListIn_range_own _ rfl _ 43 rfl 22 34 u64_key Tryd.underlying43 _ b nn _ rfl hown ?_; intro w0 hrg0 hg0 hs0)
    | gi_in)
  go_frame
  gi_loopw [3] (fun _ wr => ∃ (left : Lit → Bool) (cnt : Nat) (ss : List Int), wr.ranges Tryd.prog 22 R b W.heap.size nn D0 left cnt ∧ ss.length + cnt ≤ Maps.size D0 ∧ Came D0 left ss ∧ J ss wr)
    (fun _ wr => wr.rangeLeft b W.heap.size)
  case atStart => exact ⟨_, _, [], hrg0, by simp, Came.start D0, hJ [] W w0 none h0 hg0 (fun r e => by cases e)⟩
  case round =>
    obtain ⟨left, cnt, ss, hrg, hcs, hC, hJs⟩ := hrel
    gi_wp2_with (first
      | (gi_at_next; refine wpListIn_next_ranges _ rfl _ rfl 22 u64_key R (Value.int .u64) id (fun key kl hk => by obtain ⟨x, hx, _⟩ := keyOf_u64 hk; exact ⟨x, hx⟩) (fun v _ _ => ⟨v, rfl⟩) b W.heap.size nn _ _ _ rfl hrg ?_ ?_)
      | gi_in)
    · intro hc0 hl0
      gi_wp2
      go_end0
      exact ⟨⟨_, rfl⟩, .inl ⟨ss, ⟨hC.1, fun x => by rw [hC.2 x, hl0]; simp, by omega⟩, hJs⟩⟩
    · intro x c kl yd yp w2 cnt2 hkey hlk hv hat hrg2 hlt hg2 hs2 hen
      obtain ⟨x', ex, rfl, _⟩ := keyOf_u64 hkey
      obtain rfl : x = x' := by simpa using ex
      have hJ2 : J ss w2 := hJ ss wr w2 (some W.heap.size) hJs hg2 (fun r e => by cases e; exact ⟨Nat.le_refl _, hrg.iter_walk⟩)
      obtain ⟨fn, tmps, assign, body, hy, hR⟩ := hY ss x w2 hJ2 (by omega)
      clear hs2
      gi_wp2
      refine hR.mono ?_
      have hC2 := hC.step hlk (has_true_of_atKey hat)
      rintro e W3 (⟨rfl, hJ3, hk3⟩ | ⟨rfl, hJx3⟩)
      · gi_wp2
        have hrg3 := hrg2.of_walks hk3
        go_roundw
        case rel => exact ⟨_, cnt2, ss ++ [x], hrg3, by simp; omega, hC2, hJ3⟩
        case measure => rw [hrg3.left_eq, hrg.left_eq]; exact hlt
      · gi_wp2
        refine bodyPost_ret (results_none rfl _ _ _) rfl ?_
        exact ⟨⟨_, rfl⟩, .inr ⟨ss ++ [x], trivial, hJx3⟩⟩

theorem keys_stops (F : Fence) (n : Nat) (hF : F.fn 27) (hro : F.round = none) (hn : 1 ≤ n) (Bm b nn : Nat) (D0 : DataW Value) {R : Value → Option (DataW Value × List MemPlace)} (w : World) (hBm : Bm < w.heap.size)
    (hm : w.cell? ⟨Bm, 0, none⟩ = some (.map (some b))) (hown : w.ownsMap Tryd.prog 22 R b nn D0) :
    SeqStopsK F n Tryd.prog 27 #[.pointer (some ⟨Bm, 0, none⟩)] (fun x : Int => #[Value.int .u64 x]) KeepsWalks (KeysOf D0) (fun _ => True) (Maps.size D0) w := fun l J Jx W hW hJ _ hY h0 => by
  have hbl := hown.lt
  have hown' : W.ownsMap Tryd.prog 22 R b nn D0 := by
    obtain ⟨es, clock, hb, Ft⟩ := hown
    exact ⟨es, clock, (hW.block b hbl).trans hb, Ft⟩
  exact keys_iter F n hF hro hn l Bm b nn D0 J Jx hY W hJ ((hW.cell (p := ⟨Bm, 0, none⟩) hBm).trans hm) hown' h0

set_option maxHeartbeats 400000 in
theorem keys_in (F : Fence) (n : Nat) (hF : F.fn 18) (hro : F.round = none) (mb : Option Nat) (w : World) :
    CallsIn F n Tryd.prog 18 #[.map mb] w fun e w' => e = .returned (.func (.func 27) #[] #[.pointer (some ⟨w.heap.size, 0, none⟩)]) ∧ w' = w.alloc (.cells #[.map mb] 43) := by
  refine callsIn_of_wp Tryd.func18 rfl hF ?_ hro
  simp only [Tryd.ntmps18, List.size_toArray, List.length_cons, List.length_nil, Nat.reduceAdd, Nat.reduceSub, Array.replicate_succ, Array.replicate_zero, List.push_toArray, List.append_toArray, List.nil_append, List.cons_append]
  gi_wp2
  go_ret
  exact ⟨rfl, rfl⟩

theorem info_u64 : (Tryd.prog.info? 22).map (fun i => (i.zero, i.size, i.bytes)) = some (some (.int .u64 0), 1, 8) := by kernel_rfl

set_option maxRecDepth 100000 in
set_option maxHeartbeats 2000000 in
theorem appendSeq_in (F : Fence) (n : Nat) (h3 : F.fn 34) (h5 : F.fn 27) (hro : F.round = none) (hn : 2 ≤ n) (Bm b nn : Nat) (D0 : DataW Value) {R : Value → Option (DataW Value × List MemPlace)} (hsz : Maps.size D0 ≤ 1000) (w : World) (hBm : Bm < w.heap.size)
    (hm : w.cell? ⟨Bm, 0, none⟩ = some (.map (some b))) (hown : w.ownsMap Tryd.prog 22 R b nn D0) :
    CallsIn F n Tryd.prog 34 #[.slice none 0 0, .func (.func 27) #[] #[.pointer (some ⟨Bm, 0, none⟩)]] w fun e W' =>
      ∃ v ss, e = .returned v ∧ KeysOf D0 ss ∧ W'.ownsRow w.heap.size 22 1 v ss.length (ss.map (Value.int .u64)) ∧ (v = .slice none 0 0 ↔ ss = []) ∧ Below w.heap.size w W' := by
  have h1 : 1 ≤ n := by omega
  obtain ⟨i0, hi, hz0, hz1, hz2⟩ := info_parts info_u64
  refine callsIn_of_wp_marks Tryd.func34 rfl h3 ?_ hro
  simp only [Tryd.ntmps34, List.size_toArray, List.length_cons, List.length_nil, Nat.reduceAdd, Nat.reduceSub, Array.replicate_succ, Array.replicate_zero, List.push_toArray, List.append_toArray, List.nil_append, List.cons_append]
  gi_wp2
  have bO := Boxed.new w 44 (.slice none 0 0)
  have hB0 : Below w.heap.size w (w.alloc (.cells #[.slice none 0 0] 44)) := (Below.refl _ w).alloc (Nat.le_refl _) _
  refine wpIn_rangeFunc_ownF hro h1 (gf := 27) (lb := #[.pointer (some ⟨Bm, 0, none⟩)]) rfl h5 (enters_of Tryd.func27 (by kernel_rfl) rfl)
    (keys_stops F (n - 1) h5 hro (by omega) Bm b nn D0 w hBm hm hown) walksK_t walksK_b hB0 (fun _ => rfl)
    (fun pre W => (∃ v, Boxed W w.heap.size 44 v ∧ W.ownsRow w.heap.size 22 1 v pre.length (pre.map (Value.int .u64)) ∧ (v = .slice none 0 0 ↔ pre = [])) ∧ Below w.heap.size w W)
    (fun _ _ _ => False)
    (OwnFrom.and (Own.from (holdsRow_own w.heap.size w.heap.size 44 22 1 (fun pre => pre.length) (fun pre => pre.map (Value.int .u64)) (fun pre v => v = .slice none 0 0 ↔ pre = [])) _) (ownFrom_below (Nat.le_refl _) (by simp)))
    (fun _ _ _ _ _ hs _ _ => hs)
    ⟨⟨_, bO, World.ownsRow_nil _ _ _ _, by simp⟩, hB0⟩
    (fun x => { tmps := #[.slice none 0 0, .func (.func 27) #[] #[.pointer (some ⟨Bm, 0, none⟩)], .pointer (some ⟨w.heap.size, 0, none⟩), undef, .slice none 0 0, .int .u64 x, .func (.func 27) #[] #[.pointer (some ⟨Bm, 0, none⟩)], .int .u64 x, undef, undef, undef, undef, undef], defers := [] }) ?assign ?body ?done ?stop
  case assign =>
    intro l x W K hK
    gi_wp2
    exact hK
  case body =>
    rintro l pre x W ⟨⟨v, hv, hrow, hnil⟩, hB⟩ hlt
    have hc := hv.cell
    gi_wp2_with (gi_at_builtin; refine wpListIn_append_own _ rfl _ _ 44 rfl w.heap.size 22 i0 (.int .u64 0) 1 8 Tryd.underlying44 hi hz0 hz1 hz2 rfl (by decide) _ _ _ rfl (hrow.alloc _) ⟨W.heap.size, 0, none⟩ 1 1 [.int .u64 x] rfl rfl (cell_one_new _ _ _) (by simp [Value.oneCell']) (by simp only [maxLen]; omega) (by omega) (by have := hB.size; simp; omega) ?_; intro v' w1 hown' hgrow _; obtain ⟨g', cap', rfl⟩ := ownsRow_succ hown'; obtain ⟨hv1, hv2, hr2, hk2, hb2⟩ := hv.appended (by decide) hrow hB.size (Nat.le_refl _) hown' hgrow; have hc1 := hv1.cell; have hf1 := hv1.frozen)
    exact ⟨hk2, hk2.walks, ⟨_, hv2, by simpa using hr2, by simp⟩, hB.trans hb2⟩
  case done =>
    rintro D ys W hD hS ⟨⟨v, hv, hrow, hnil⟩, hB⟩ hK
    have hc := hv.cell
    gi_wp2
    refine ⟨by simp, .inl ⟨_, _, rfl, run_takeDeferred hK, ?_⟩⟩
    exact ⟨_, results_tmp rfl _ _ _, v, ys, rfl, hS, ownsRow_putObj hrow _ hK rfl, hnil, hB.trans (belowK_b (w := w) (Nat.le_refl _) W D _ _ (by simp at hD; omega) hK rfl rfl)⟩
  case stop =>
    rintro D c pre W _ _ h _
    exact h.elim

/-- the same, as plain calls -/
theorem keys_any (mb : Option Nat) (w : World) :
    Calls Tryd.prog 18 #[.map mb] w fun e w' => e = .returned (.func (.func 27) #[] #[.pointer (some ⟨w.heap.size, 0, none⟩)]) ∧ w' = w.alloc (.cells #[.map mb] 43) :=
  (callsIn_wide (n := 5)).1 (keys_in Fence.wide 5 trivial rfl mb w)
theorem appendSeq_any (Bm b nn : Nat) (D0 : DataW Value) {R : Value → Option (DataW Value × List MemPlace)} (hsz : Maps.size D0 ≤ 1000) (w : World) (hBm : Bm < w.heap.size)
    (hm : w.cell? ⟨Bm, 0, none⟩ = some (.map (some b))) (hown : w.ownsMap Tryd.prog 22 R b nn D0) :
    Calls Tryd.prog 34 #[.slice none 0 0, .func (.func 27) #[] #[.pointer (some ⟨Bm, 0, none⟩)]] w fun e W' =>
      ∃ v ss, e = .returned v ∧ KeysOf D0 ss ∧ W'.ownsRow w.heap.size 22 1 v ss.length (ss.map (Value.int .u64)) ∧ (v = .slice none 0 0 ↔ ss = []) ∧ Below w.heap.size w W' :=
  (callsIn_wide (n := 5)).1 (appendSeq_in Fence.wide 5 trivial trivial rfl (by omega) Bm b nn D0 hsz w hBm hm hown)
theorem collect_any (Bm b nn : Nat) (D0 : DataW Value) {R : Value → Option (DataW Value × List MemPlace)} (hsz : Maps.size D0 ≤ 1000) (w : World) (hBm : Bm < w.heap.size)
    (hm : w.cell? ⟨Bm, 0, none⟩ = some (.map (some b))) (hown : w.ownsMap Tryd.prog 22 R b nn D0) :
    Calls Tryd.prog 25 #[.func (.func 27) #[] #[.pointer (some ⟨Bm, 0, none⟩)]] w fun e W' =>
      ∃ v ss, e = .returned v ∧ KeysOf D0 ss ∧ W'.ownsRow w.heap.size 22 1 v ss.length (ss.map (Value.int .u64)) ∧ Ext w W' := by
  have H := hid (appendSeq_any Bm b nn D0 hsz w hBm hm hown)
  clear hown
  go_enter Tryd.func25, Tryd.ntmps25
  go_wp2_with (go_at_call 34; refine H.out.mono ?_; rintro _ w1 ⟨v, ss, rfl, h1, h2, h3, h4⟩)
  go_ret
  exact ⟨v, ss, rfl, h1, h2, h4⟩
theorem NumBlk.own {w : World} {base g cap : Nat} {t : TypeId} {ss : List Int} (h : w.ownsRow base t 1 (.slice (some ⟨g, 0, none⟩) ss.length cap) ss.length (ss.map (Value.int .u64))) : ∃ rest, NumBlk w g t ss rest ∧ ss.length ≤ cap ∧ cap ≤ maxLen := by
  rcases h.2 with ⟨e, _⟩ | ⟨g', cap', cur, e, hb, hg, h1, h2, h3, h4⟩
  · cases e
  · injection e with e1 e2 e3
    injection e1 with e1
    injection e1 with e1
    subst e1; subst e3
    refine ⟨cur.toList.drop ss.length, ?_, h1, h2⟩
    unfold NumBlk Blk
    rw [hg, ← h4, Nat.mul_one, List.take_append_drop]
theorem NumBlk.ints {w : World} {g cap : Nat} {t : TypeId} {ss : List Int} {rest : List Value} (h : NumBlk w g t ss rest) (h1 : ss.length ≤ cap) (h2 : cap ≤ maxLen) : Ints .u64 w (.slice (some ⟨g, 0, none⟩) ss.length cap) ss :=
  Ints.mk h1 (by unfold maxLen at h2; omega) (Blk.lt h) (fun j hj => by rw [Nat.zero_add]; exact h.cell hj)

set_option maxHeartbeats 400000 in
theorem sorted_any (Bm b nn : Nat) (D0 : DataW Value) {R : Value → Option (DataW Value × List MemPlace)} (hsz : Maps.size D0 ≤ 49) (w : World) (hBm : Bm < w.heap.size)
    (hm : w.cell? ⟨Bm, 0, none⟩ = some (.map (some b))) (hown : w.ownsMap Tryd.prog 22 R b nn D0) :
    Calls Tryd.prog 17 #[.func (.func 27) #[] #[.pointer (some ⟨Bm, 0, none⟩)]] w fun e W' =>
      ∃ v ss, e = .returned v ∧ KeysOf D0 ss ∧ ss.Pairwise (· < ·) ∧ Ints .u64 W' v ss ∧ Ext w W' := by
  have H := hid (collect_any Bm b nn D0 (by omega) w hBm hm hown)
  clear hown hm
  go_enter Tryd.func17, Tryd.ntmps17
  go_wp2_with fail
  refine H.out.mono ?_; rintro _ w1 ⟨v, ss, rfl, h1, h2, h4⟩
  rcases h2.2 with ⟨rfl, hz⟩ | ⟨g, cap, cur, rfl, hb, hg, r1, r2, r3, r4⟩
  · obtain rfl : ss = [] := List.eq_nil_of_length_eq_zero hz
    clear h2
    go_wp2_with fail
    refine (sort_nil _ none 0).mono ?_; rintro _ w2 ⟨⟨u, rfl⟩, rfl⟩
    go_wp2_with fail
    go_ret
    exact ⟨_, [], rfl, h1, List.Pairwise.nil, Ints.nil, h4⟩
  · obtain ⟨rest, hn, hc1, hc2⟩ := NumBlk.own h2
    have hge := (h2.lt g rfl).1
    have H1 := hid h1; have HN := hid hn
    have hlen := h1.2.2
    clear h1 h2 hn hg r3 r4
    go_wp2_with fail
    refine (sort_big g cap 22 ss rest _ HN.out (by omega) H1.out.1).mono ?_; rintro _ w2 ⟨⟨u, rfl⟩, zs, z1, z2, z3, z4⟩
    have hzl := z2.length_eq
    have Z1 := hid z1; have Z2 := hid z2; have Z3 := hid z3; have Z4 := hid z4
    clear z1 z2 z3 z4
    go_wp2_with fail
    go_ret
    refine ⟨_, zs, rfl, ⟨Z2.out.nodup_iff.2 H1.out.1, fun x => by rw [Z2.out.mem_iff]; exact H1.out.2.1 x, by omega⟩, ?_, ?_, h4.grown Z4.out (fun k e => by cases e; exact hge)⟩
    · have hnd := (List.nodup_iff_pairwise_ne.1 (Z2.out.nodup_iff.2 H1.out.1))
      exact (Z3.out.and hnd).imp fun ⟨a, b⟩ => by omega
    · rw [← hzl]
      exact Z1.out.ints (by omega) hc2
end Go.Proofs.YthomeenmcajmdaaDoor
