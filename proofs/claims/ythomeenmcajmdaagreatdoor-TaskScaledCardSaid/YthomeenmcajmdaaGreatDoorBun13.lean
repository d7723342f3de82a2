import Derived.Test.YthomeenmcajmdaaGreatDoorBun12
import Derived.Test.YthomeenmcajmdaaGreatDoorBun07
import Derived.RangeFuncBox
import Derived.RangeFuncBound
import Derived.RangeFuncLeaves
import Derived.RangeFuncWrites
import Derived.RangeFuncStops
import Derived.RangeFuncKeeps
import Derived.Shelf.Abstract
import Derived.WalkKit
import Derived.OwnWalkIn
import Derived.TacticsInMore
import Derived.RegionIn
import Derived.LoopNIn
import Derived.LoopIn
import Derived.Maps.AppendAt
import Derived.Sort.MapsRangeIn
import Derived.Sort.KeysCollected
import Derived.Test.YthomeenmcajmdaaGreatDoorBun01
namespace Go.Proofs.YthomeenmcajmdaaGreatDoor
open Go.RowKit Go.Maps Go.Shelf
attribute [local go_sem] Oper.semAt_some
theorem keyOf_u64 {key : Value} {kl : Lit} (h : keyOf Tryz.prog 22 key = some kl) : ∃ x : Int, key = .int .u64 x ∧ kl = .int .u64 x ∧ 0 ≤ x ∧ x ≤ 18446744073709551615 := by
  have hk := Tryz.underlying22
  cases key <;> simp [keyOf, hk, mapKey] at h
  rename_i q a
  obtain ⟨⟨rfl, hw⟩, rfl⟩ := h
  exact ⟨a, rfl, rfl, u64_wf hw⟩
def Came (D0 : DataW Value) (left : Lit → Bool) (ss : List Int) : Prop := ss.Nodup ∧ ∀ x, x ∈ ss ↔ (has D0 (.int .u64 x) = true ∧ left (.int .u64 x) = false)
theorem Came.start (D0 : DataW Value) : Came D0 (has D0) [] := ⟨List.nodup_nil, fun x => by cases has D0 (.int .u64 x) <;> simp⟩
theorem Came.step {D0 : DataW Value} {left : Lit → Bool} {ss : List Int} (h : Came D0 left ss) {x : Int} (hlk : left (.int .u64 x) = true) (hhas : has D0 (.int .u64 x) = true) : Came D0 (fun z => left z && !z.sameKey (.int .u64 x)) (ss ++ [x]) := by
  have hnew : x ∉ ss := fun hx => by have := ((h.2 x).1 hx).2; rw [hlk] at this; cases this
  refine ⟨List.nodup_append.2 ⟨h.1, by simp, fun a ha b hb => by simp at hb; subst hb; exact fun e => hnew (e ▸ ha)⟩, fun y => ?_⟩
  by_cases hy : y = x
  · subst hy; simp [hhas, Lit.sameKey]
  · simp [h.2 y, hy, Lit.sameKey]
def KeysOf (D0 : DataW Value) (ss : List Int) : Prop := ss.Nodup ∧ (∀ x, x ∈ ss ↔ has D0 (.int .u64 x) = true) ∧ ss.length ≤ Maps.size D0
set_option maxRecDepth 100000 in
set_option maxHeartbeats 1000000 in
theorem keys_iter (F : Fence) (n : Nat) (hF : F.fn 77) (hro : F.round = none) (hn : 1 ≤ n) (l Bm b nn : Nat) (D0 : DataW Value) {R : Value → Option (DataW Value × List MemPlace)} (J Jx : List Int → World → Prop)
    (hY : ∀ pre x W, J pre W → pre.length < Maps.size D0 → YieldAt F (n - 1) Tryz.prog l #[.int .u64 x] W fun e W' =>
      (e = .returned (.bool true) ∧ J (pre ++ [x]) W' ∧ KeepsWalks W W') ∨ (e = .returned (.bool false) ∧ Jx (pre ++ [x]) W'))
    (W : World) (hJ : AbidesFrom W.heap.size J) (hm : W.cell? ⟨Bm, 0, none⟩ = some (.map (some b))) (hown : W.ownsMap Tryz.prog 22 R b nn D0) (h0 : J [] W) :
    CallsIn F n Tryz.prog 77 #[.func (.yield l) #[] #[], .pointer (some ⟨Bm, 0, none⟩)] W fun e W' => (∃ v, e = .returned v) ∧
      ((∃ ss : List Int, KeysOf D0 ss ∧ J ss W') ∨ (∃ pre : List Int, True ∧ Jx pre W')) := by
  refine callsIn_of_wp Tryz.func77 rfl hF ?_ hro
  simp only [Tryz.ntmps77, List.size_toArray, List.length_cons, List.length_nil, Nat.reduceAdd, Nat.reduceSub, Array.replicate_succ, Array.replicate_zero, List.push_toArray, List.append_toArray, List.nil_append, List.cons_append]
  gi_wp2_with (first
    | (gi_at_range; refine wpListIn_range_own _ rfl _ 68 rfl 22 71 u64_key Tryz.underlying68 _ b nn _ rfl hown ?_; intro w0 hrg0 hg0 hs0)
    | gi_in)
  go_frame
  gi_loopw [3] (fun _ wr => ∃ (left : Lit → Bool) (cnt : Nat) (ss : List Int), wr.ranges Tryz.prog 22 R b W.heap.size nn D0 left cnt ∧ ss.length + cnt ≤ Maps.size D0 ∧ Came D0 left ss ∧ J ss wr)
    (fun _ wr => wr.rangeLeft b W.heap.size)
  case atStart => exact ⟨_, _, [], hrg0, by simp, Came.start D0, hJ [] W w0 none h0 hg0 (fun r e => by cases e)⟩
  case round =>
    obtain ⟨left, cnt, ss, hrg, hcs, hC, hJs⟩ := hrel
    gi_wp2_with (first
      | (gi_at_next; refine wpListIn_next_ranges _ rfl _ rfl 22 u64_key R (Value.int .u64) id (fun key kl hk => by obtain ⟨x, hx, _⟩ := keyOf_u64 hk; exact ⟨x, hx⟩) (fun v _ _ => ⟨v, rfl⟩) b W.heap.size nn _ _ _ rfl hrg ?_ ?_)
      | gi_in)
    · intro hc0 hl0
      gi_wp2
      go_end0
      exact ⟨⟨_, rfl⟩, .inl ⟨ss, ⟨hC.1, fun x => by rw [hC.2 x, hl0]; simp, by omega⟩, hJs⟩⟩
    · intro x c kl yd yp w2 cnt2 hkey hlk hv hat hrg2 hlt hg2 hs2 hen
      obtain ⟨x', ex, rfl, _⟩ := keyOf_u64 hkey
      obtain rfl : x = x' := by simpa using ex
      have hJ2 : J ss w2 := hJ ss wr w2 (some W.heap.size) hJs hg2 (fun r e => by cases e; exact ⟨Nat.le_refl _, hrg.iter_walk⟩)
      obtain ⟨fn, tmps, assign, body, hy, hR⟩ := hY ss x w2 hJ2 (by omega)
      clear hs2
      gi_wp2
      refine hR.mono ?_
      have hC2 := hC.step hlk (has_true_of_atKey hat)
      rintro e W3 (⟨rfl, hJ3, hk3⟩ | ⟨rfl, hJx3⟩)
      · gi_wp2
        have hrg3 := hrg2.of_walks hk3
        go_roundw
        case rel => exact ⟨_, cnt2, ss ++ [x], hrg3, by simp; omega, hC2, hJ3⟩
        case measure => rw [hrg3.left_eq, hrg.left_eq]; exact hlt
      · gi_wp2
        refine bodyPost_ret (results_none rfl _ _ _) rfl ?_
        exact ⟨⟨_, rfl⟩, .inr ⟨ss ++ [x], trivial, hJx3⟩⟩
theorem keys_stops (F : Fence) (n : Nat) (hF : F.fn 77) (hro : F.round = none) (hn : 1 ≤ n) (Bm b nn : Nat) (D0 : DataW Value) {R : Value → Option (DataW Value × List MemPlace)} (w : World) (hBm : Bm < w.heap.size)
    (hm : w.cell? ⟨Bm, 0, none⟩ = some (.map (some b))) (hown : w.ownsMap Tryz.prog 22 R b nn D0) :
    SeqStopsK F n Tryz.prog 77 #[.pointer (some ⟨Bm, 0, none⟩)] (fun x : Int => #[Value.int .u64 x]) KeepsWalks (KeysOf D0) (fun _ => True) (Maps.size D0) w := fun l J Jx W hW hJ _ hY h0 => by
  have hbl := hown.lt
  have hown' : W.ownsMap Tryz.prog 22 R b nn D0 := by
    obtain ⟨es, clock, hb, Ft⟩ := hown
    exact ⟨es, clock, (hW.block b hbl).trans hb, Ft⟩
  exact keys_iter F n hF hro hn l Bm b nn D0 J Jx hY W hJ ((hW.cell (p := ⟨Bm, 0, none⟩) hBm).trans hm) hown' h0
set_option maxHeartbeats 400000 in
theorem keys_in (F : Fence) (n : Nat) (hF : F.fn 40) (hro : F.round = none) (mb : Option Nat) (w : World) :
    CallsIn F n Tryz.prog 40 #[.map mb] w fun e w' => e = .returned (.func (.func 77) #[] #[.pointer (some ⟨w.heap.size, 0, none⟩)]) ∧ w' = w.alloc (.cells #[.map mb] 68) := by
  refine callsIn_of_wp Tryz.func40 rfl hF ?_ hro
  simp only [Tryz.ntmps40, List.size_toArray, List.length_cons, List.length_nil, Nat.reduceAdd, Nat.reduceSub, Array.replicate_succ, Array.replicate_zero, List.push_toArray, List.append_toArray, List.nil_append, List.cons_append]
  gi_wp2
  go_ret
  exact ⟨rfl, rfl⟩
theorem info_u64 : (Tryz.prog.info? 22).map (fun i => (i.zero, i.size, i.bytes)) = some (some (.int .u64 0), 1, 8) := by kernel_rfl
set_option maxRecDepth 100000 in
set_option maxHeartbeats 2000000 in
theorem appendSeqK_in (F : Fence) (n : Nat) (h3 : F.fn 99) (h5 : F.fn 77) (hro : F.round = none) (hn : 2 ≤ n) (Bm b nn : Nat) (D0 : DataW Value) {R : Value → Option (DataW Value × List MemPlace)} (hsz : Maps.size D0 ≤ 1000) (w : World) (hBm : Bm < w.heap.size)
    (hm : w.cell? ⟨Bm, 0, none⟩ = some (.map (some b))) (hown : w.ownsMap Tryz.prog 22 R b nn D0) :
    CallsIn F n Tryz.prog 99 #[.slice none 0 0, .func (.func 77) #[] #[.pointer (some ⟨Bm, 0, none⟩)]] w fun e W' =>
      ∃ v ss, e = .returned v ∧ KeysOf D0 ss ∧ W'.ownsRow w.heap.size 22 1 v ss.length (ss.map (Value.int .u64)) ∧ (v = .slice none 0 0 ↔ ss = []) ∧ Below w.heap.size w W' := by
  have h1 : 1 ≤ n := by omega
  obtain ⟨i0, hi, hz0, hz1, hz2⟩ := info_parts info_u64
  refine callsIn_of_wp_marks Tryz.func99 rfl h3 ?_ hro
  simp only [Tryz.ntmps99, List.size_toArray, List.length_cons, List.length_nil, Nat.reduceAdd, Nat.reduceSub, Array.replicate_succ, Array.replicate_zero, List.push_toArray, List.append_toArray, List.nil_append, List.cons_append]
  gi_wp2
  have bO := Boxed.new w 24 (.slice none 0 0)
  have hB0 : Below w.heap.size w (w.alloc (.cells #[.slice none 0 0] 24)) := (Below.refl _ w).alloc (Nat.le_refl _) _
  refine wpIn_rangeFunc_ownF hro h1 (gf := 77) (lb := #[.pointer (some ⟨Bm, 0, none⟩)]) rfl h5 (enters_of Tryz.func77 (by kernel_rfl) rfl)
    (keys_stops F (n - 1) h5 hro (by omega) Bm b nn D0 w hBm hm hown) walksK_t walksK_b hB0 (fun _ => rfl)
    (fun pre W => (∃ v, Boxed W w.heap.size 24 v ∧ W.ownsRow w.heap.size 22 1 v pre.length (pre.map (Value.int .u64)) ∧ (v = .slice none 0 0 ↔ pre = [])) ∧ Below w.heap.size w W)
    (fun _ _ _ => False)
    (OwnFrom.and (Own.from (holdsRow_own w.heap.size w.heap.size 24 22 1 (fun pre => pre.length) (fun pre => pre.map (Value.int .u64)) (fun pre v => v = .slice none 0 0 ↔ pre = [])) _) (ownFrom_below (Nat.le_refl _) (by simp)))
    (fun _ _ _ _ _ hs _ _ => hs)
    ⟨⟨_, bO, World.ownsRow_nil _ _ _ _, by simp⟩, hB0⟩
    (fun x => { tmps := #[.slice none 0 0, .func (.func 77) #[] #[.pointer (some ⟨Bm, 0, none⟩)], .pointer (some ⟨w.heap.size, 0, none⟩), undef, .slice none 0 0, .int .u64 x, .func (.func 77) #[] #[.pointer (some ⟨Bm, 0, none⟩)], .int .u64 x, undef, undef, undef, undef, undef], defers := [] }) ?assign ?body ?done ?stop
  case assign =>
    intro l x W K hK
    gi_wp2
    exact hK
  case body =>
    rintro l pre x W ⟨⟨v, hv, hrow, hnil⟩, hB⟩ hlt
    have hc := hv.cell
    gi_wp2_with (gi_at_builtin; refine wpListIn_append_own _ rfl _ _ 24 rfl w.heap.size 22 i0 (.int .u64 0) 1 8 Tryz.underlying24 hi hz0 hz1 hz2 rfl (by decide) _ _ _ rfl (hrow.alloc _) ⟨W.heap.size, 0, none⟩ 1 1 [.int .u64 x] rfl rfl (cell_one_new _ _ _) (by simp [Value.oneCell']) (by simp only [maxLen]; omega) (by omega) (by have := hB.size; simp; omega) ?_; intro v' w1 hown' hgrow _; obtain ⟨g', cap', rfl⟩ := ownsRow_succ hown'; obtain ⟨hv1, hv2, hr2, hk2, hb2⟩ := hv.appended (by decide) hrow hB.size (Nat.le_refl _) hown' hgrow; have hc1 := hv1.cell; have hf1 := hv1.frozen)
    exact ⟨hk2, hk2.walks, ⟨_, hv2, by simpa using hr2, by simp⟩, hB.trans hb2⟩
  case done =>
    rintro D ys W hD hS ⟨⟨v, hv, hrow, hnil⟩, hB⟩ hK
    have hc := hv.cell
    gi_wp2
    refine ⟨by simp, .inl ⟨_, _, rfl, run_takeDeferred hK, ?_⟩⟩
    exact ⟨_, results_tmp rfl _ _ _, v, ys, rfl, hS, ownsRow_putObj hrow _ hK rfl, hnil, hB.trans (belowK_b (w := w) (Nat.le_refl _) W D _ _ (by simp at hD; omega) hK rfl rfl)⟩
  case stop =>
    rintro D c pre W _ _ h _
    exact h.elim
theorem keys_any (mb : Option Nat) (w : World) :
    Calls Tryz.prog 40 #[.map mb] w fun e w' => e = .returned (.func (.func 77) #[] #[.pointer (some ⟨w.heap.size, 0, none⟩)]) ∧ w' = w.alloc (.cells #[.map mb] 68) :=
  (callsIn_wide (n := 5)).1 (keys_in Fence.wide 5 trivial rfl mb w)
theorem appendSeqK_any (Bm b nn : Nat) (D0 : DataW Value) {R : Value → Option (DataW Value × List MemPlace)} (hsz : Maps.size D0 ≤ 1000) (w : World) (hBm : Bm < w.heap.size)
    (hm : w.cell? ⟨Bm, 0, none⟩ = some (.map (some b))) (hown : w.ownsMap Tryz.prog 22 R b nn D0) :
    Calls Tryz.prog 99 #[.slice none 0 0, .func (.func 77) #[] #[.pointer (some ⟨Bm, 0, none⟩)]] w fun e W' =>
      ∃ v ss, e = .returned v ∧ KeysOf D0 ss ∧ W'.ownsRow w.heap.size 22 1 v ss.length (ss.map (Value.int .u64)) ∧ (v = .slice none 0 0 ↔ ss = []) ∧ Below w.heap.size w W' :=
  (callsIn_wide (n := 5)).1 (appendSeqK_in Fence.wide 5 trivial trivial rfl (by omega) Bm b nn D0 hsz w hBm hm hown)
theorem collectK_any (Bm b nn : Nat) (D0 : DataW Value) {R : Value → Option (DataW Value × List MemPlace)} (hsz : Maps.size D0 ≤ 1000) (w : World) (hBm : Bm < w.heap.size)
    (hm : w.cell? ⟨Bm, 0, none⟩ = some (.map (some b))) (hown : w.ownsMap Tryz.prog 22 R b nn D0) :
    Calls Tryz.prog 75 #[.func (.func 77) #[] #[.pointer (some ⟨Bm, 0, none⟩)]] w fun e W' =>
      ∃ v ss, e = .returned v ∧ KeysOf D0 ss ∧ W'.ownsRow w.heap.size 22 1 v ss.length (ss.map (Value.int .u64)) ∧ Ext w W' := by
  have H := hid (appendSeqK_any Bm b nn D0 hsz w hBm hm hown)
  clear hown
  go_enter Tryz.func75, Tryz.ntmps75
  go_wp2_with (go_at_call 99; refine H.out.mono ?_; rintro _ w1 ⟨v, ss, rfl, h1, h2, h3, h4⟩)
  go_ret
  exact ⟨v, ss, rfl, h1, h2, h4⟩
theorem NumBlk.own {w : World} {base g cap : Nat} {t : TypeId} {ss : List Int} (h : w.ownsRow base t 1 (.slice (some ⟨g, 0, none⟩) ss.length cap) ss.length (ss.map (Value.int .u64))) : ∃ rest, NumBlk w g t ss rest ∧ ss.length ≤ cap ∧ cap ≤ maxLen := by
  rcases h.2 with ⟨e, _⟩ | ⟨g', cap', cur, e, hb, hg, h1, h2, h3, h4⟩
  · cases e
  · injection e with e1 e2 e3
    injection e1 with e1
    injection e1 with e1
    subst e1; subst e3
    refine ⟨cur.toList.drop ss.length, ?_, h1, h2⟩
    unfold NumBlk Blk
    rw [hg, ← h4, Nat.mul_one, List.take_append_drop]
theorem NumBlk.ints {w : World} {g cap : Nat} {t : TypeId} {ss : List Int} {rest : List Value} (h : NumBlk w g t ss rest) (h1 : ss.length ≤ cap) (h2 : cap ≤ maxLen) : Ints .u64 w (.slice (some ⟨g, 0, none⟩) ss.length cap) ss :=
  Ints.mk h1 (by unfold maxLen at h2; omega) (Blk.lt h) (fun j hj => by rw [Nat.zero_add]; exact h.cell hj)
set_option maxHeartbeats 400000 in
theorem sortedK_any (Bm b nn : Nat) (D0 : DataW Value) {R : Value → Option (DataW Value × List MemPlace)} (hsz : Maps.size D0 ≤ 49) (w : World) (hBm : Bm < w.heap.size)
    (hm : w.cell? ⟨Bm, 0, none⟩ = some (.map (some b))) (hown : w.ownsMap Tryz.prog 22 R b nn D0) :
    Calls Tryz.prog 39 #[.func (.func 77) #[] #[.pointer (some ⟨Bm, 0, none⟩)]] w fun e W' =>
      ∃ v ss, e = .returned v ∧ KeysOf D0 ss ∧ ss.Pairwise (· < ·) ∧ Ints .u64 W' v ss ∧ Ext w W' := by
  have H := hid (collectK_any Bm b nn D0 (by omega) w hBm hm hown)
  clear hown hm
  go_enter Tryz.func39, Tryz.ntmps39
  go_wp2_with fail
  refine H.out.mono ?_; rintro _ w1 ⟨v, ss, rfl, h1, h2, h4⟩
  rcases h2.2 with ⟨rfl, hz⟩ | ⟨g, cap, cur, rfl, hb, hg, r1, r2, r3, r4⟩
  · obtain rfl : ss = [] := List.eq_nil_of_length_eq_zero hz
    clear h2
    go_wp2_with fail
    refine (sort_nil _ none 0).mono ?_; rintro _ w2 ⟨⟨u, rfl⟩, rfl⟩
    go_wp2_with fail
    go_ret
    exact ⟨_, [], rfl, h1, List.Pairwise.nil, Ints.nil, h4⟩
  · obtain ⟨rest, hn, hc1, hc2⟩ := NumBlk.own h2
    have hge := (h2.lt g rfl).1
    have H1 := hid h1; have HN := hid hn
    have hlen := h1.2.2
    clear h1 h2 hn hg r3 r4
    go_wp2_with fail
    refine (sort_big g cap 22 ss rest _ HN.out (by omega) H1.out.1).mono ?_; rintro _ w2 ⟨⟨u, rfl⟩, zs, z1, z2, z3, z4⟩
    have hzl := z2.length_eq
    have Z1 := hid z1; have Z2 := hid z2; have Z3 := hid z3; have Z4 := hid z4
    clear z1 z2 z3 z4
    go_wp2_with fail
    go_ret
    refine ⟨_, zs, rfl, ⟨Z2.out.nodup_iff.2 H1.out.1, fun x => by rw [Z2.out.mem_iff]; exact H1.out.2.1 x, by omega⟩, ?_, ?_, h4.grown Z4.out (fun k e => by cases e; exact hge)⟩
    · have hnd := (List.nodup_iff_pairwise_ne.1 (Z2.out.nodup_iff.2 H1.out.1))
      exact (Z3.out.and hnd).imp fun ⟨a, b⟩ => by omega
    · rw [← hzl]
      exact Z1.out.ints (by omega) hc2
end Go.Proofs.YthomeenmcajmdaaGreatDoor
namespace Go.Proofs.YthomeenmcajmdaaGreatDoor
def Prm (n : Nat) : Prop := 2 ≤ n ∧ ∀ d, d ∣ n → d = 1 ∨ d = n
theorem prm_part : ∀ (n : Nat), 2 ≤ n → ∃ q, Prm q ∧ q ∣ n := by
  intro n
  induction n using Nat.strongRecOn with
  | _ n ih =>
    intro hn
    by_cases h : ∀ d, d ∣ n → d = 1 ∨ d = n
    · exact ⟨n, ⟨hn, h⟩, Nat.dvd_refl n⟩
    · have : ∃ d, d ∣ n ∧ d ≠ 1 ∧ d ≠ n := Classical.byContradiction fun hc => h fun d hd => by
        by_cases h1 : d = 1
        · exact .inl h1
        · by_cases h2 : d = n
          · exact .inr h2
          · exact absurd ⟨d, hd, h1, h2⟩ hc
      obtain ⟨d, hd, h1, h2⟩ := this
      have hle := Nat.le_of_dvd (by omega) hd
      have h0 : d ≠ 0 := by rintro rfl; have := Nat.eq_zero_of_zero_dvd hd; omega
      obtain ⟨q, hq, hqd⟩ := ih d (by omega) (by omega)
      exact ⟨q, hq, Nat.dvd_trans hqd hd⟩
theorem nodup_le {α : Type} [DecidableEq α] : ∀ (l L : List α), l.Nodup → (∀ x ∈ l, x ∈ L) → l.length ≤ L.length
  | [], L, _, _ => by simp
  | x :: l, L, hn, hs => by
    have hx := hs x (by simp)
    rw [List.nodup_cons] at hn
    have := nodup_le l (L.erase x) hn.2 (fun y hy => (List.mem_erase_of_ne (by rintro rfl; exact hn.1 hy)).2 (hs y (by simp [hy])))
    rw [List.length_erase_of_mem hx] at this
    have h0 : 0 < L.length := List.length_pos_of_mem hx
    simp only [List.length_cons]
    omega
theorem nodup_all {α : Type} [DecidableEq α] (l L : List α) (hn : l.Nodup) (hs : ∀ x ∈ l, x ∈ L) (hl : L.length ≤ l.length) : ∀ x ∈ L, x ∈ l := by
  intro x hx
  by_cases h : x ∈ l
  · exact h
  · have := nodup_le l (L.erase x) hn (fun y hy => (List.mem_erase_of_ne (by rintro rfl; exact h hy)).2 (hs y hy))
    rw [List.length_erase_of_mem hx] at this
    have h0 : 0 < L.length := List.length_pos_of_mem hx
    omega
theorem nodup_map_range (f : Nat → Nat) : ∀ (n : Nat), (∀ i j, i < j → j < n → f i ≠ f j) → ((List.range n).map f).Nodup := by
  intro n h
  rw [List.nodup_iff_pairwise_ne, List.pairwise_map]
  refine List.Pairwise.imp_of_mem ?_ (List.pairwise_lt_range (n := n))
  intro a b ha hb hab
  exact h a b hab (List.mem_range.1 hb)
section
variable {n r : Nat}
theorem pmod_mul (a b : Nat) : a % n * (b % n) % n = a * b % n := (Nat.mul_mod a b n).symm
theorem pow_one_mul {a k : Nat} (h : a ^ k % n = 1 % n) (j : Nat) : a ^ (k * j) % n = 1 % n := by
  rw [Nat.pow_mul, Nat.pow_mod, h, ← Nat.pow_mod, Nat.one_pow]
theorem pow_add_one {a k : Nat} (h : a ^ k % n = 1 % n) (j : Nat) : a ^ (k + j) % n = a ^ j % n := by
  rw [Nat.pow_add, ← pmod_mul, h, pmod_mul, Nat.one_mul]
theorem least_order {m : Nat} (h0 : 0 < m) (h1 : r ^ m % n = 1 % n) :
    ∃ d, 0 < d ∧ r ^ d % n = 1 % n ∧ (∀ k, 0 < k → r ^ k % n = 1 % n → d ≤ k) ∧ ∀ k, r ^ k % n = 1 % n → d ∣ k := by
  have key : ∀ m, 0 < m → r ^ m % n = 1 % n → ∃ d, 0 < d ∧ r ^ d % n = 1 % n ∧ ∀ k, 0 < k → r ^ k % n = 1 % n → d ≤ k := by
    intro m
    induction m using Nat.strongRecOn with
    | _ m ih =>
      intro h0 h1
      by_cases h : ∀ k, 0 < k → r ^ k % n = 1 % n → m ≤ k
      · exact ⟨m, h0, h1, h⟩
      · have : ∃ k, 0 < k ∧ r ^ k % n = 1 % n ∧ k < m := Classical.byContradiction fun hc => h fun k hk hk1 => by
          rcases Nat.lt_or_ge k m with hlt | hge
          · exact absurd ⟨k, hk, hk1, hlt⟩ hc
          · exact hge
        obtain ⟨k, hk, hk1, hlt⟩ := this
        exact ih k hlt hk hk1
  obtain ⟨d, hd, hd1, hmin⟩ := key m h0 h1
  refine ⟨d, hd, hd1, hmin, fun k hk => ?_⟩
  have e : k = d * (k / d) + k % d := (Nat.div_add_mod k d).symm
  have h2 : r ^ (k % d) % n = 1 % n := by
    have := pow_add_one (pow_one_mul hd1 (k / d)) (k % d)
    rw [← this, ← e, hk]
  rcases Nat.eq_zero_or_pos (k % d) with hz | hp
  · exact Nat.dvd_of_mod_eq_zero hz
  · have := hmin _ hp h2
    have := Nat.mod_lt k hd
    omega
structure Root (n r : Nat) : Prop where
  big : 2 < n
  one : r ^ (n - 1) % n = 1
  inj : ∀ i j, i < j → j < n - 1 → r ^ i % n ≠ r ^ j % n
  pos : ∀ k, 0 < r ^ k % n
  all : ∀ x, 0 < x → x < n → ∃ k, k < n - 1 ∧ r ^ k % n = x
theorem root_of (hn : 2 < n) (h1 : r ^ (n - 1) % n = 1) (h2 : ∀ q, Prm q → q ∣ n - 1 → r ^ ((n - 1) / q) % n ≠ 1) : Root n r := by
  have h1n : 1 % n = 1 := Nat.mod_eq_of_lt (by omega)
  obtain ⟨d, hd, hd1, hmin, hdv⟩ := least_order (n := n) (r := r) (m := n - 1) (by omega) (by rw [h1, h1n])
  have hdn : d = n - 1 := by
    obtain ⟨c, hc⟩ := hdv (n - 1) (by rw [h1, h1n])
    rcases Nat.lt_or_ge c 2 with hlt | hge
    · have : c = 0 ∨ c = 1 := by omega
      rcases this with rfl | rfl
      · omega
      · omega
    · exfalso
      obtain ⟨q, hq, c', hc'⟩ := prm_part c hge
      have hqn : n - 1 = q * (d * c') := by rw [hc, hc', Nat.mul_left_comm]
      have hq0 : 0 < q := by have := hq.1; omega
      refine h2 q hq ⟨_, hqn⟩ ?_
      rw [hqn, Nat.mul_div_cancel_left _ hq0, pow_one_mul hd1, h1n]
  subst hdn
  have hpos : ∀ k, 0 < r ^ k % n := by
    intro k
    rcases Nat.eq_zero_or_pos (r ^ k % n) with hz | hp
    · exfalso
      have : r ^ (k * (n - 1)) % n = 1 % n := by rw [Nat.mul_comm]; exact pow_one_mul (by rw [h1, h1n]) k
      have e : r ^ (k * (n - 1)) % n = 0 := by
        rw [Nat.pow_mul, Nat.pow_mod, hz, Nat.zero_pow (by omega), Nat.zero_mod]
      omega
    · exact hp
  have hinj : ∀ i j, i < j → j < n - 1 → r ^ i % n ≠ r ^ j % n := by
    intro i j hij hj he
    have e1 : r ^ (n - 1 - i + i) % n = r ^ (n - 1 - i + j) % n := by
      rw [Nat.pow_add, Nat.pow_add, ← pmod_mul, ← pmod_mul (r ^ (n - 1 - i)) (r ^ j), he]
    rw [show n - 1 - i + i = n - 1 by omega, show n - 1 - i + j = n - 1 + (j - i) by omega, pow_add_one (by rw [h1, h1n]), h1] at e1
    have := hmin (j - i) (by omega) (by rw [← e1, h1n])
    omega
  refine ⟨hn, h1, hinj, hpos, fun x hx0 hxn => ?_⟩
  have hall := nodup_all ((List.range (n - 1)).map fun k => r ^ k % n) (List.range' 1 (n - 1)) (nodup_map_range _ _ hinj)
    (fun y hy => by
      obtain ⟨k, _, rfl⟩ := List.mem_map.1 hy
      have := Nat.mod_lt (r ^ k) (show 0 < n by omega)
      have := hpos k
      rw [List.mem_range'_1]; omega) (by simp) x (by rw [List.mem_range'_1]; omega)
  obtain ⟨k, hk, he⟩ := List.mem_map.1 hall
  exact ⟨k, List.mem_range.1 hk, he⟩
theorem Root.fermat (h : Root n r) {x : Nat} (h0 : 0 < x) (hx : x < n) : x ^ (n - 1) % n = 1 := by
  obtain ⟨k, hk, rfl⟩ := h.all x h0 hx
  have h1n : 1 % n = 1 := Nat.mod_eq_of_lt (by omega)
  rw [← Nat.pow_mod, ← Nat.pow_mul, Nat.mul_comm, pow_one_mul (by rw [h.one, h1n]), h1n]
theorem Root.prm (h : Root n r) : Prm n := by
  have hb := h.big
  refine ⟨by omega, fun d hd => ?_⟩
  have hle := Nat.le_of_dvd (by omega) hd
  have h0 : d ≠ 0 := by rintro rfl; have := Nat.eq_zero_of_zero_dvd hd; omega
  by_cases e : d = n
  · exact .inr e
  · left
    have hf := h.fermat (x := d) (by omega) (by omega)
    have h1 : d ∣ d ^ (n - 1) := Nat.dvd_trans (Nat.dvd_refl d) (by rw [show n - 1 = (n - 2) + 1 by omega, Nat.pow_succ]; exact Nat.dvd_mul_left _ _)
    have h2 : d ∣ d ^ (n - 1) % n := (Nat.dvd_mod_iff hd).2 h1
    rw [hf] at h2
    exact Nat.dvd_one.1 h2
end
theorem prm_mul {q a b : Nat} (h : Prm q) (hd : q ∣ a * b) : q ∣ a ∨ q ∣ b := by
  rcases h.2 _ (Nat.gcd_dvd_left q a) with e | e
  · exact .inr (Nat.Coprime.dvd_of_dvd_mul_left (show Nat.Coprime q a from e) hd)
  · left; rw [← e]; exact Nat.gcd_dvd_right q a
theorem prm_pow {q a : Nat} (h : Prm q) : ∀ k, q ∣ a ^ k → q ∣ a
  | 0, hd => by have := Nat.dvd_one.1 (by simpa using hd); have := h.1; omega
  | k + 1, hd => by
    rw [Nat.pow_succ] at hd
    rcases prm_mul h hd with h1 | h1
    · exact prm_pow h k h1
    · exact h1
theorem prm_eq {p q : Nat} (hp : Prm p) (hq : Prm q) (h : q ∣ p) : q = p := by
  rcases hp.2 _ h with e | e
  · have := hq.1; omega
  · exact e
end Go.Proofs.YthomeenmcajmdaaGreatDoor
