/- slices.Values, Collect and Sorted, of whole numbers. -/
import Derived.Test.YtlcempbeecdimaaBack
import Derived.Test.YtlcempbeecdimaaSortI
import Derived.Test.YtlcempbeecdimaaCupB7
import Derived.Test.YtlcempbeecdimaaCupB1
import Derived.Lib.SlKeysI
import Derived.RangeFuncBox
import Derived.RangeFuncBound
import Derived.RangeFuncLeaves
import Derived.RangeFuncWrites
import Derived.RangeFuncStops
import Derived.RangeFuncKeeps
import Derived.RangeFuncFrom
import Derived.Maps.AppendAt
namespace Go.Proofs.Ytlcempbeecdimaa
open Go.RowKit Go.Maps Go.Shelf Go.Sort

attribute [local go_sem] Oper.semAt_some

set_option maxHeartbeats 1000000 in
theorem vals_any (a : Option Addr) (len cap : Nat) (w : World) :
    Calls Try.prog 44 #[.slice a len cap] w fun e w' => e = .returned (.func (.func 70) #[] #[.pointer (some ⟨w.heap.size, 0, none⟩)]) ∧ w' = w.alloc (.cells #[.slice a len cap] 34) := by
  go_enter Try.func44, Try.ntmps44
  go_wp2_with fail
  go_ret
  exact ⟨rfl, rfl⟩

set_option maxRecDepth 100000 in
set_option maxHeartbeats 2000000 in
/-- the iterator: for every loop body that keeps the slice and its box -/
theorem vals1_in (F : Fence) (n : Nat) (h8 : F.fn 70) (hro : F.round = none) (hn : 1 ≤ n) (l Bs b off len cap : Nat) (zs : List Int) (hlen : zs.length = len) (h63 : len ≤ 1000000) (J Jx : List Int → World → Prop)
    (hY : ∀ pre x W, J pre W → pre.length < len → YieldAt F (n - 1) Try.prog l #[.int .i64 x] W fun e W' =>
      (e = .returned (.bool true) ∧ J (pre ++ [x]) W' ∧ KeepsRow Bs b W W') ∨ (e = .returned (.bool false) ∧ Jx (pre ++ [x]) W'))
    (W : World) (hBs : W.cell? ⟨Bs, 0, none⟩ = some (.slice (some ⟨b, off, none⟩) len cap)) (hc : ∀ j, j < len → W.cell? ⟨b, off + j, none⟩ = some (.int .i64 (zs.getD j 0))) (h0 : J [] W) :
    CallsIn F n Try.prog 70 #[.func (.yield l) #[] #[], .pointer (some ⟨Bs, 0, none⟩)] W fun e W' => (∃ v, e = .returned v) ∧
      ((∃ ys : List Int, ys = zs ∧ J ys W') ∨ (∃ pre, True ∧ Jx pre W')) := by
  refine callsIn_of_wp Try.func70 rfl h8 ?_ hro
  simp only [Try.ntmps70, List.size_toArray, List.length_cons, List.length_nil, Nat.reduceAdd, Nat.reduceSub, Array.replicate_succ, Array.replicate_zero, List.push_toArray, List.append_toArray, List.nil_append, List.cons_append]
  have Hc := hid hc
  clear hc
  gi_wp2
  gi_loopw [7] (fun i wr => ∃ (k : Nat) (pre : List Int), i = .int .i64 k ∧ k ≤ len ∧ Hid (pre = zs.take k) ∧ J pre wr ∧ KeepsRow Bs b W wr)
    (fun i _ => len - (intOf i).toNat)
  case atStart => exact ⟨0, [], rfl, Nat.zero_le _, hid rfl, h0, KeepsRow.refl _ _ _⟩
  case round =>
    obtain ⟨k, pre, rfl, hk, hpre, hJs, hnx⟩ := hrel
    by_cases hlt : k < len
    · have hcx := (hnx.2 (off + k)).trans (Hc.out k hlt)
      have hsn := hid (take_snoc_getD (p := zs) (k := k) (by omega))
      obtain ⟨x, hx⟩ : ∃ x, zs.getD k 0 = x := ⟨_, rfl⟩
      rw [hx] at hcx hsn
      clear hx
      obtain ⟨fn, tmps, assign, body, hy, hR⟩ := hY _ x _ hJs (by rw [hpre.out, List.length_take]; omega)
      gi_wp2
      refine hR.mono ?_
      rintro e W3 (⟨rfl, hJ3, hk3⟩ | ⟨rfl, hJx3⟩)
      · gi_wp2
        go_roundw
        case rel =>
          exact ⟨k + 1, pre ++ [x], by go_num, by omega, hid (by rw [hpre.out, hsn.out]), hJ3, hnx.trans hk3⟩
        case measure => simp [intOf]; omega
      · gi_wp2
        refine bodyPost_ret (results_none rfl _ _ _) rfl ?_
        exact ⟨⟨_, rfl⟩, .inr ⟨_, trivial, hJx3⟩⟩
    · obtain rfl : len = k := by omega
      gi_wp2
      go_end0
      exact ⟨⟨_, rfl⟩, .inl ⟨pre, by rw [hpre.out, List.take_of_length_le (by omega)], hJs⟩⟩
theorem vals_stops (F : Fence) (n : Nat) (h8 : F.fn 70) (hro : F.round = none) (hn : 1 ≤ n) (Bs b off len cap : Nat) (zs : List Int) (hlen : zs.length = len) (h63 : len ≤ 1000000) (w : World) (hBs : Bs < w.heap.size) (hb : b < w.heap.size)
    (h1 : w.cell? ⟨Bs, 0, none⟩ = some (.slice (some ⟨b, off, none⟩) len cap)) (hc : ∀ j, j < len → w.cell? ⟨b, off + j, none⟩ = some (.int .i64 (zs.getD j 0))) :
    SeqStopsK F n Try.prog 70 #[.pointer (some ⟨Bs, 0, none⟩)] (fun x : Int => #[.int .i64 x]) (KeepsRow Bs b) (fun ys => ys = zs) (fun _ => True) len w := fun l J Jx W hW _ _ hY h0 =>
  vals1_in F n h8 hro hn l Bs b off len cap zs hlen h63 J Jx hY W ((hW.cell (p := ⟨Bs, 0, none⟩) hBs).trans h1) (fun j hj => (hW.cell (p := ⟨b, off + j, none⟩) hb).trans (hc j hj)) h0

set_option maxRecDepth 100000 in
set_option maxHeartbeats 2000000 in
theorem appendI_in (F : Fence) (n : Nat) (h3 : F.fn 78) (h5 : F.fn 70) (hro : F.round = none) (hn : 2 ≤ n) (Bs b off len cap : Nat) (zs : List Int) (hlen : zs.length = len) (h63 : len ≤ 1000000) (w : World) (hBs : Bs < w.heap.size) (hb : b < w.heap.size)
    (e1 : w.cell? ⟨Bs, 0, none⟩ = some (.slice (some ⟨b, off, none⟩) len cap)) (e2 : ∀ j, j < len → w.cell? ⟨b, off + j, none⟩ = some (.int .i64 (zs.getD j 0))) :
    CallsIn F n Try.prog 78 #[.slice none 0 0, .func (.func 70) #[] #[.pointer (some ⟨Bs, 0, none⟩)]] w fun e W' =>
      ∃ v, e = .returned v ∧ W'.ownsRow w.heap.size 3 1 v zs.length (zs.map (Value.int .i64)) ∧ Below w.heap.size w W' := by
  have h1 : 1 ≤ n := by omega
  obtain ⟨i0, hi, hz0, hz1, hz2⟩ := info_parts info_i64p
  have hst := vals_stops F (n - 1) h5 hro (by omega) Bs b off len cap zs hlen h63 w hBs hb e1 e2
  clear e1 e2
  refine callsIn_of_wp_marks Try.func78 rfl h3 ?_ hro
  simp only [Try.ntmps78, List.size_toArray, List.length_cons, List.length_nil, Nat.reduceAdd, Nat.reduceSub, Array.replicate_succ, Array.replicate_zero, List.push_toArray, List.append_toArray, List.nil_append, List.cons_append]
  gi_wp2
  have bO := Boxed.new w 34 (.slice none 0 0)
  have hB0 : Below w.heap.size w (w.alloc (.cells #[.slice none 0 0] 34)) := (Below.refl _ w).alloc (Nat.le_refl _) _
  refine wpIn_rangeFunc_ownF hro h1 (gf := 70) (lb := #[.pointer (some ⟨Bs, 0, none⟩)]) rfl h5 (enters_of Try.func70 (by kernel_rfl) rfl)
    hst KeepsRow.trans (fun W l o o' hl _ _ _ => KeepsRow.put (n := w.heap.size) hBs hb W l o' (Nat.le_of_succ_le (by simpa using hl))) hB0 (fun _ => rfl)
    (fun pre W => (∃ v, Boxed W w.heap.size 34 v ∧ W.ownsRow w.heap.size 3 1 v pre.length (pre.map (Value.int .i64)) ∧ (v = .slice none 0 0 ↔ pre = [])) ∧ Below w.heap.size w W)
    (fun _ _ _ => False)
    (OwnFrom.and (Own.from (holdsRow_own w.heap.size w.heap.size 34 3 1 (fun pre => pre.length) (fun pre => pre.map (Value.int .i64)) (fun pre v => v = .slice none 0 0 ↔ pre = [])) _) (ownFrom_below (Nat.le_refl _) (by simp)))
    (fun _ _ _ _ _ hs _ _ => hs)
    ⟨⟨_, bO, World.ownsRow_nil _ _ _ _, by simp⟩, hB0⟩
    (fun x => { tmps := #[.slice none 0 0, .func (.func 70) #[] #[.pointer (some ⟨Bs, 0, none⟩)], .pointer (some ⟨w.heap.size, 0, none⟩), undef, .slice none 0 0, .int .i64 x, .func (.func 70) #[] #[.pointer (some ⟨Bs, 0, none⟩)], .int .i64 x, undef, undef, undef, undef, undef], defers := [] }) ?assign ?body ?done ?stop
  case assign =>
    intro l x W K hK
    gi_wp2
    exact hK
  case body =>
    rintro l pre x W ⟨⟨v, hv, hrow, hnil⟩, hB⟩ hlt
    have hc := hv.cell
    gi_wp2_with (gi_at_builtin; refine wpListIn_append_own _ rfl _ _ 34 rfl w.heap.size 3 i0 (.int .i64 0) 1 8 Try.underlying34 hi hz0 hz1 hz2 rfl (by decide) v pre.length _ rfl (hrow.alloc _) ⟨W.heap.size, 0, none⟩ 1 1 [.int .i64 x] rfl rfl (cell_one_new _ _ _) (by simp [Value.oneCell']) (by simp only [maxLen]; omega) (by omega) (by have := hB.size; simp; omega) ?_; intro v' w1 hown' hgrow _; obtain ⟨g', cap', rfl⟩ := ownsRow_succ hown'; obtain ⟨hv1, hv2, hr2, hk2, hb2⟩ := hv.appended (by decide) hrow hB.size (Nat.le_refl _) hown' hgrow; have hc1 := hv1.cell; have hf1 := hv1.frozen)
    refine ⟨hk2, ⟨Below.cell (p := ⟨Bs, 0, none⟩) hb2 hBs, fun o => Below.cell (p := ⟨b, o, none⟩) hb2 hb⟩, ⟨_, hv2, ?_, by simp⟩, hB.trans hb2⟩
    simpa using hr2
  case done =>
    rintro D ys W hD rfl ⟨⟨v, hv, hrow, hnil⟩, hB⟩ hK
    have hc := hv.cell
    gi_wp2
    refine ⟨by simp, .inl ⟨_, _, rfl, run_takeDeferred hK, ?_⟩⟩
    exact ⟨_, results_tmp rfl _ _ _, v, rfl, ownsRow_putObj hrow _ hK rfl, hB.trans (belowK_b (w := w) (Nat.le_refl _) W D _ _ (by simp at hD; omega) hK rfl rfl)⟩
  case stop =>
    rintro D c pre W _ _ h _
    exact h.elim
/-- slices.Sorted of a slice's numbers -/
def sortL (zs : List Int) : List Int := zs.mergeSort fun x y => decide (x ≤ y)
set_option maxRecDepth 100000 in
set_option maxHeartbeats 1000000 in
theorem sorted_any (Bs b off len cap : Nat) (zs : List Int) (hlen : zs.length = len) (h63 : len ≤ 1000000) (hpos : 0 < len) (w : World) (hBs : Bs < w.heap.size) (hb : b < w.heap.size)
    (e1 : w.cell? ⟨Bs, 0, none⟩ = some (.slice (some ⟨b, off, none⟩) len cap)) (e2 : ∀ j, j < len → w.cell? ⟨b, off + j, none⟩ = some (.int .i64 (zs.getD j 0))) :
    Calls Try.prog 43 #[.func (.func 70) #[] #[.pointer (some ⟨Bs, 0, none⟩)]] w (RetI (sortL zs) w) := by
  have C := hid ((callsIn_wide (n := 5)).1 (appendI_in Fence.wide 5 trivial trivial rfl (by omega) Bs b off len cap zs hlen h63 w hBs hb e1 e2))
  have C2 : Calls Try.prog 68 #[.func (.func 70) #[] #[.pointer (some ⟨Bs, 0, none⟩)]] w fun e W' => ∃ v, e = .returned v ∧ W'.ownsRow w.heap.size 3 1 v zs.length (zs.map (Value.int .i64)) ∧ Below w.heap.size w W' := by
    clear e1 e2
    go_enter Try.func68, Try.ntmps68
    go_wp2_with (go_at_call 78; refine C.out.mono ?_; rintro _ w1 ⟨v, rfl, h1, h2⟩)
    go_ret
    exact ⟨v, rfl, h1, h2⟩
  have C3 := hid C2
  clear e1 e2 C2 C
  go_enter Try.func43, Try.ntmps43
  go_wp2_with (go_at_call 68; refine C3.out.mono ?_; rintro _ w1 ⟨v, rfl, h1, h2⟩)
  rcases h1.2 with ⟨rfl, hz⟩ | ⟨gb, cp, cur, rfl, hbase, hgb, r1, r2, r3, r4⟩
  · omega
  · have hH : Holds encZ w1 gb 0 zs.toArray := holds_of_block_i hgb (by simpa using r4)
    have hgl : gb < w1.heap.size := (Array.getElem?_eq_some_iff.1 hgb).1
    have cS := AnyM.slices_Sort_int sortI gb 0 cp zs w1 hH hgl (by omega)
    change Calls _ 69 _ _ _ at cS
    have cS := hid cS
    obtain ⟨SL, eSL⟩ : ∃ SL, sortL zs = SL := ⟨_, rfl⟩
    have eSL2 : (zs.mergeSort fun x y => decide (x ≤ y)) = SL := eSL
    rw [eSL2] at cS
    have hSl : SL.length = zs.length := by rw [← eSL]; simp [sortL]
    have ESL := hid eSL
    clear eSL eSL2
    go_wp2_with (go_at_call 69; refine cS.out.mono ?_; rintro _ w2 ⟨rfl, nn, os, rfl⟩)
    go_ret
    have ho := ownsRow_sorted_i (n := nn) (os := os) (ts := SL) hSl hbase hgb r1 r2 r3
    obtain ⟨_, _, e, _, hI⟩ := owns_ints ho
    rw [hlen] at hI
    obtain rfl := ESL.out
    exact ⟨.slice (some ⟨gb, 0, none⟩) len cp, rfl, hI, h2.grown (grownBy_sorted_i _) h2.size (fun j hj => by cases hj; exact hbase)⟩
end Go.Proofs.Ytlcempbeecdimaa
