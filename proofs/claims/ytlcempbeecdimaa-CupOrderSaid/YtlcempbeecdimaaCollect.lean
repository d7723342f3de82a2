/- slices.Collect of a slice's pieces. -/
import Derived.Test.YtlcempbeecdimaaChunk
import Derived.RangeFuncBox
import Derived.RangeFuncBound
import Derived.RangeFuncLeaves
import Derived.RangeFuncWrites
import Derived.RangeFuncStops
import Derived.RangeFuncKeeps
import Derived.RangeFuncFrom
import Derived.Maps.AppendAt
namespace Go.Proofs.Ytlcempbeecdimaa
open Go.RowKit Go.Maps Go.Shelf

attribute [local go_sem] Oper.semAt_some

/-- what slices.Chunk hands back: the pieces, one behind the other -/
theorem chunk_stops (F : Fence) (n : Nat) (h8 : F.fn 57) (hro : F.round = none) (hn : 1 ≤ n) (Bs Bn b off L cap m c : Nat) (hL : L = m * c) (hm : m ≤ 64) (hc : 1 ≤ c ∧ c ≤ 64) (hcap : L ≤ cap) (w : World) (hBs : Bs < w.heap.size) (hBn : Bn < w.heap.size)
    (h1 : w.cell? ⟨Bs, 0, none⟩ = some (.slice (some ⟨b, off, none⟩) L cap)) (h2 : w.cell? ⟨Bn, 0, none⟩ = some (.int .i64 c)) :
    SeqStopsK F n Try.prog 57 #[.pointer (some ⟨Bs, 0, none⟩), .pointer (some ⟨Bn, 0, none⟩)] (fun x : Nat => #[pieceV b off c x]) (KeepsRow Bs Bn) (fun ys => ys = List.range m) (fun _ => True) m w := fun l J Jx W hW hJ _ hY h0 =>
  chunk1_in F n h8 hro hn l Bs Bn b off L cap m c hL hm hc hcap J Jx (fun pre x W h1 h2 _ => hY pre x W h1 h2) W hJ ((hW.cell (p := ⟨Bs, 0, none⟩) hBs).trans h1) ((hW.cell (p := ⟨Bn, 0, none⟩) hBn).trans h2) h0
/-- .. each piece known to be one of them -/
theorem chunk_stops_in (F : Fence) (n : Nat) (h8 : F.fn 57) (hro : F.round = none) (hn : 1 ≤ n) (Bs Bn b off L cap m c : Nat) (hL : L = m * c) (hm : m ≤ 64) (hc : 1 ≤ c ∧ c ≤ 64) (hcap : L ≤ cap) (w : World) (hBs : Bs < w.heap.size) (hBn : Bn < w.heap.size)
    (h1 : w.cell? ⟨Bs, 0, none⟩ = some (.slice (some ⟨b, off, none⟩) L cap)) (h2 : w.cell? ⟨Bn, 0, none⟩ = some (.int .i64 c)) :
    SeqStopsK F n Try.prog 57 #[.pointer (some ⟨Bs, 0, none⟩), .pointer (some ⟨Bn, 0, none⟩)] (fun x : {x : Nat // x < m} => #[pieceV b off c x.1]) (KeepsRow Bs Bn) (fun ys => ys.map (·.1) = List.range m) (fun _ => True) m w := fun l J Jx W hW hJ _ hY h0 => by
  refine (chunk1_in F n h8 hro hn l Bs Bn b off L cap m c hL hm hc hcap (fun pre W => ∃ pre' : List {x : Nat // x < m}, pre'.map (·.1) = pre ∧ J pre' W) (fun pre W => ∃ pre' : List {x : Nat // x < m}, pre'.map (·.1) = pre ∧ Jx pre' W) (fun pre x W1 ⟨pre', e, hj⟩ hlt hx => ?_) W (fun pre a b row ⟨pre', e, hj⟩ hg hr => ⟨pre', e, hJ pre' a b row hj hg hr⟩) ((hW.cell (p := ⟨Bs, 0, none⟩) hBs).trans h1) ((hW.cell (p := ⟨Bn, 0, none⟩) hBn).trans h2) ⟨[], rfl, h0⟩).mono ?_
  · subst e
    rw [List.length_map] at hlt
    obtain ⟨fn, tmps, assign, body, hy, hR⟩ := hY pre' ⟨x, hx⟩ W1 hj hlt
    refine ⟨fn, tmps, assign, body, hy, hR.mono ?_⟩
    rintro e W' (⟨h1, h2, h3⟩ | ⟨h1, h2⟩)
    · exact .inl ⟨h1, ⟨_, by simp, h2⟩, h3⟩
    · exact .inr ⟨h1, ⟨_, by simp, h2⟩⟩
  · rintro e W' ⟨h1, ⟨ys, rfl, pre', e2, hj⟩ | ⟨pre, _, pre', _, hj⟩⟩
    · exact ⟨h1, .inl ⟨pre', e2, hj⟩⟩
    · exact ⟨h1, .inr ⟨pre', trivial, hj⟩⟩
theorem info_sup : (Try.prog.info? 23).map (fun i => (i.zero, i.size, i.bytes)) = some (some (.slice none 0 0), 1, 24) := by kernel_rfl

set_option maxRecDepth 100000 in
set_option maxHeartbeats 2000000 in
theorem appendSeq_in (F : Fence) (n : Nat) (h3 : F.fn 72) (h5 : F.fn 57) (hro : F.round = none) (hn : 2 ≤ n) (Bs Bn b off L cap m c : Nat) (hL : L = m * c) (hm : m ≤ 64) (hc : 1 ≤ c ∧ c ≤ 64) (hcap : L ≤ cap) (w : World) (hBs : Bs < w.heap.size) (hBn : Bn < w.heap.size)
    (e1 : w.cell? ⟨Bs, 0, none⟩ = some (.slice (some ⟨b, off, none⟩) L cap)) (e2 : w.cell? ⟨Bn, 0, none⟩ = some (.int .i64 c)) :
    CallsIn F n Try.prog 72 #[.slice none 0 0, .func (.func 57) #[] #[.pointer (some ⟨Bs, 0, none⟩), .pointer (some ⟨Bn, 0, none⟩)]] w fun e W' =>
      ∃ v, e = .returned v ∧ W'.ownsRow w.heap.size 23 1 v m ((List.range m).map (pieceV b off c)) ∧ Below w.heap.size w W' := by
  have h1 : 1 ≤ n := by omega
  obtain ⟨i0, hi, hz0, hz1, hz2⟩ := info_parts info_sup
  have hst := chunk_stops F (n - 1) h5 hro (by omega) Bs Bn b off L cap m c hL hm hc hcap w hBs hBn e1 e2
  clear hL hcap e1 e2
  refine callsIn_of_wp_marks Try.func72 rfl h3 ?_ hro
  simp only [Try.ntmps72, List.size_toArray, List.length_cons, List.length_nil, Nat.reduceAdd, Nat.reduceSub, Array.replicate_succ, Array.replicate_zero, List.push_toArray, List.append_toArray, List.nil_append, List.cons_append]
  gi_wp2
  have bO := Boxed.new w 35 (.slice none 0 0)
  have hB0 : Below w.heap.size w (w.alloc (.cells #[.slice none 0 0] 35)) := (Below.refl _ w).alloc (Nat.le_refl _) _
  refine wpIn_rangeFunc_ownF hro h1 (gf := 57) (lb := #[.pointer (some ⟨Bs, 0, none⟩), .pointer (some ⟨Bn, 0, none⟩)]) rfl h5 (enters_of Try.func57 (by kernel_rfl) rfl)
    hst KeepsRow.trans (fun W l o o' hl _ _ _ => KeepsRow.put (n := w.heap.size) hBs hBn W l o' (Nat.le_of_succ_le (by simpa using hl))) hB0 (fun _ => rfl)
    (fun pre W => (∃ v, Boxed W w.heap.size 35 v ∧ W.ownsRow w.heap.size 23 1 v pre.length (pre.map (pieceV b off c)) ∧ (v = .slice none 0 0 ↔ pre = [])) ∧ Below w.heap.size w W)
    (fun _ _ _ => False)
    (OwnFrom.and (Own.from (holdsRow_own w.heap.size w.heap.size 35 23 1 (fun pre => pre.length) (fun pre => pre.map (pieceV b off c)) (fun pre v => v = .slice none 0 0 ↔ pre = [])) _) (ownFrom_below (Nat.le_refl _) (by simp)))
    (fun _ _ _ _ _ hs _ _ => hs)
    ⟨⟨_, bO, World.ownsRow_nil _ _ _ _, by simp⟩, hB0⟩
    (fun x => { tmps := #[.slice none 0 0, .func (.func 57) #[] #[.pointer (some ⟨Bs, 0, none⟩), .pointer (some ⟨Bn, 0, none⟩)], .pointer (some ⟨w.heap.size, 0, none⟩), undef, .slice none 0 0, pieceV b off c x, .func (.func 57) #[] #[.pointer (some ⟨Bs, 0, none⟩), .pointer (some ⟨Bn, 0, none⟩)], pieceV b off c x, undef, undef, undef, undef, undef], defers := [] }) ?assign ?body ?done ?stop
  case assign =>
    intro l x W K hK
    gi_wp2
    exact hK
  case body =>
    rintro l pre x W ⟨⟨v, hv, hrow, hnil⟩, hB⟩ hlt
    have hc := hv.cell
    obtain ⟨o, ho⟩ : ∃ o, off + x * c = o := ⟨_, rfl⟩
    have Ho := hid ho
    unfold pieceV
    rw [ho]
    clear ho
    gi_wp2_with (gi_at_builtin; refine wpListIn_append_own _ rfl _ _ 35 rfl w.heap.size 23 i0 (.slice none 0 0) 1 24 Try.underlying35 hi hz0 hz1 hz2 rfl (by decide) v pre.length _ rfl (hrow.alloc _) ⟨W.heap.size, 0, none⟩ 1 1 [.slice (some ⟨b, o, none⟩) c c] rfl rfl (cell_one_new _ _ _) (by simp [Value.oneCell']) (by simp only [maxLen]; omega) (by omega) (by have := hB.size; simp; omega) ?_; intro v' w1 hown' hgrow _; obtain ⟨g', cap', rfl⟩ := ownsRow_succ hown'; obtain ⟨hv1, hv2, hr2, hk2, hb2⟩ := hv.appended (by decide) hrow hB.size (Nat.le_refl _) hown' hgrow; have hc1 := hv1.cell; have hf1 := hv1.frozen)
    refine ⟨hk2, ⟨Below.cell (p := ⟨Bs, 0, none⟩) hb2 hBs, fun o => Below.cell (p := ⟨Bn, o, none⟩) hb2 hBn⟩, ⟨_, hv2, ?_, by simp⟩, hB.trans hb2⟩
    have e : pre.map (pieceV b off c) ++ [Value.slice (some ⟨b, o, none⟩) c c] = (pre ++ [x]).map (fun q => Value.slice (some ⟨b, off + q * c, none⟩) c c) := by
      rw [List.map_append, ← Ho.out]; rfl
    rw [← e]
    simpa using hr2
  case done =>
    rintro D ys W hD rfl ⟨⟨v, hv, hrow, hnil⟩, hB⟩ hK
    have hc := hv.cell
    gi_wp2
    refine ⟨by simp, .inl ⟨_, _, rfl, run_takeDeferred hK, ?_⟩⟩
    rw [List.length_range] at hrow
    exact ⟨_, results_tmp rfl _ _ _, v, rfl, ownsRow_putObj hrow _ hK rfl, hB.trans (belowK_b (w := w) (Nat.le_refl _) W D _ _ (by simp at hD; omega) hK rfl rfl)⟩
  case stop =>
    rintro D c pre W _ _ h _
    exact h.elim

theorem appendSeq_any (Bs Bn b off L cap m c : Nat) (hL : L = m * c) (hm : m ≤ 64) (hc : 1 ≤ c ∧ c ≤ 64) (hcap : L ≤ cap) (w : World) (hBs : Bs < w.heap.size) (hBn : Bn < w.heap.size)
    (e1 : w.cell? ⟨Bs, 0, none⟩ = some (.slice (some ⟨b, off, none⟩) L cap)) (e2 : w.cell? ⟨Bn, 0, none⟩ = some (.int .i64 c)) :
    Calls Try.prog 72 #[.slice none 0 0, .func (.func 57) #[] #[.pointer (some ⟨Bs, 0, none⟩), .pointer (some ⟨Bn, 0, none⟩)]] w fun e W' =>
      ∃ v, e = .returned v ∧ W'.ownsRow w.heap.size 23 1 v m ((List.range m).map (pieceV b off c)) ∧ Below w.heap.size w W' :=
  (callsIn_wide (n := 5)).1 (appendSeq_in Fence.wide 5 trivial trivial rfl (by omega) Bs Bn b off L cap m c hL hm hc hcap w hBs hBn e1 e2)
theorem owns_vals {w : World} {base n : Nat} {t : TypeId} {v : Value} {us : List Value} (h : w.ownsRow base t 1 v n us) : Vals w v us := by
  have hl : us.length = n := by have := h.1; simpa using this
  have h0 := h
  obtain ⟨_, ⟨rfl, h1⟩ | ⟨g, cap, cur, rfl, hg, hb, hc1, hc2, hs, ht⟩⟩ := h
  · obtain rfl : us = [] := List.eq_nil_of_length_eq_zero (by omega)
    exact Vals.nil
  · refine ⟨some ⟨g, 0, none⟩, cap, by rw [hl], by omega, by unfold maxLen at hc2; omega, fun _ => ⟨g, 0, rfl, Blk.lt (t := t) (cs := cur) hb, fun j x hj => ?_⟩⟩
    rw [Nat.zero_add, h0.cellAt j (by have := (List.getElem?_eq_some_iff.1 hj).1; omega), hj]
theorem collect_any (Bs Bn b off L cap m c : Nat) (hL : L = m * c) (hm : m ≤ 64) (hc : 1 ≤ c ∧ c ≤ 64) (hcap : L ≤ cap) (w : World) (hBs : Bs < w.heap.size) (hBn : Bn < w.heap.size)
    (e1 : w.cell? ⟨Bs, 0, none⟩ = some (.slice (some ⟨b, off, none⟩) L cap)) (e2 : w.cell? ⟨Bn, 0, none⟩ = some (.int .i64 c)) :
    Calls Try.prog 50 #[.func (.func 57) #[] #[.pointer (some ⟨Bs, 0, none⟩), .pointer (some ⟨Bn, 0, none⟩)]] w fun e W' =>
      ∃ v, e = .returned v ∧ Vals W' v ((List.range m).map (pieceV b off c)) ∧ Ext w W' := by
  have H := hid (appendSeq_any Bs Bn b off L cap m c hL hm hc hcap w hBs hBn e1 e2)
  clear e1 e2
  go_enter Try.func50, Try.ntmps50
  go_wp2_with (go_at_call 72; refine H.out.mono ?_; rintro _ w1 ⟨v, rfl, h1, h2⟩)
  go_ret
  exact ⟨v, rfl, owns_vals h1, h2⟩
end Go.Proofs.Ytlcempbeecdimaa
