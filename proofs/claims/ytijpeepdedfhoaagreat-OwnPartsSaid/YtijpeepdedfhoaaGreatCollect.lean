/- slices.Collect of a slice's pieces. -/
import Derived.Test.YtijpeepdedfhoaaGreatChunk
import Derived.RangeFuncBox
import Derived.RangeFuncBound
import Derived.RangeFuncLeaves
import Derived.RangeFuncWrites
import Derived.RangeFuncStops
import Derived.RangeFuncKeeps
import Derived.RangeFuncFrom
import Derived.Maps.AppendAt
namespace Go.Proofs.YtijpeepdedfhoaaGreat
open Go.RowKit Go.Maps Go.Shelf

attribute [local go_sem] Oper.semAt_some

/-- what slices.Chunk hands back: the pieces, one behind the other -/
theorem chunk_stops (F : Fence) (n : Nat) (h8 : F.fn 91) (hro : F.round = none) (hn : 1 ≤ n) (Bs Bn b off L cap m c : Nat) (hL : L = m * c) (hm : m ≤ 64) (hc : 1 ≤ c ∧ c ≤ 64) (hcap : L ≤ cap) (w : World) (hBs : Bs < w.heap.size) (hBn : Bn < w.heap.size)
    (h1 : w.cell? ⟨Bs, 0, none⟩ = some (.slice (some ⟨b, off, none⟩) L cap)) (h2 : w.cell? ⟨Bn, 0, none⟩ = some (.int .i64 c)) :
    SeqStopsK F n Tryz.prog 91 #[.pointer (some ⟨Bs, 0, none⟩), .pointer (some ⟨Bn, 0, none⟩)] (fun x : Nat => #[pieceV b off c x]) (KeepsRow Bs Bn) (fun ys => ys = List.range m) (fun _ => True) m w := fun l J Jx W hW hJ _ hY h0 =>
  chunk1_in F n h8 hro hn l Bs Bn b off L cap m c hL hm hc hcap J Jx (fun pre x W h1 h2 _ => hY pre x W h1 h2) W hJ ((hW.cell (p := ⟨Bs, 0, none⟩) hBs).trans h1) ((hW.cell (p := ⟨Bn, 0, none⟩) hBn).trans h2) h0
/-- .. each piece known to be one of them -/
theorem chunk_stops_in (F : Fence) (n : Nat) (h8 : F.fn 91) (hro : F.round = none) (hn : 1 ≤ n) (Bs Bn b off L cap m c : Nat) (hL : L = m * c) (hm : m ≤ 64) (hc : 1 ≤ c ∧ c ≤ 64) (hcap : L ≤ cap) (w : World) (hBs : Bs < w.heap.size) (hBn : Bn < w.heap.size)
    (h1 : w.cell? ⟨Bs, 0, none⟩ = some (.slice (some ⟨b, off, none⟩) L cap)) (h2 : w.cell? ⟨Bn, 0, none⟩ = some (.int .i64 c)) :
    SeqStopsK F n Tryz.prog 91 #[.pointer (some ⟨Bs, 0, none⟩), .pointer (some ⟨Bn, 0, none⟩)] (fun x : {x : Nat // x < m} => #[pieceV b off c x.1]) (KeepsRow Bs Bn) (fun ys => ys.map (·.1) = List.range m) (fun _ => True) m w := fun l J Jx W hW hJ _ hY h0 => by
  refine (chunk1_in F n h8 hro hn l Bs Bn b off L cap m c hL hm hc hcap (fun pre W => ∃ pre' : List {x : Nat // x < m}, pre'.map (·.1) = pre ∧ J pre' W) (fun pre W => ∃ pre' : List {x : Nat // x < m}, pre'.map (·.1) = pre ∧ Jx pre' W) (fun pre x W1 ⟨pre', e, hj⟩ hlt hx => ?_) W (fun pre a b row ⟨pre', e, hj⟩ hg hr => ⟨pre', e, hJ pre' a b row hj hg hr⟩) ((hW.cell (p := ⟨Bs, 0, none⟩) hBs).trans h1) ((hW.cell (p := ⟨Bn, 0, none⟩) hBn).trans h2) ⟨[], rfl, h0⟩).mono ?_
  · subst e
    rw [List.length_map] at hlt
    obtain ⟨fn, tmps, assign, body, hy, hR⟩ := hY pre' ⟨x, hx⟩ W1 hj hlt
    refine ⟨fn, tmps, assign, body, hy, hR.mono ?_⟩
    rintro e W' (⟨h1, h2, h3⟩ | ⟨h1, h2⟩)
    · exact .inl ⟨h1, ⟨_, by simp, h2⟩, h3⟩
    · exact .inr ⟨h1, ⟨_, by simp, h2⟩⟩
  · rintro e W' ⟨h1, ⟨ys, rfl, pre', e2, hj⟩ | ⟨pre, _, pre', _, hj⟩⟩
    · exact ⟨h1, .inl ⟨pre', e2, hj⟩⟩
    · exact ⟨h1, .inr ⟨pre', trivial, hj⟩⟩
theorem info_sup : (Tryz.prog.info? 23).map (fun i => (i.zero, i.size, i.bytes)) = some (some (.slice none 0 0), 1, 24) := by kernel_rfl

theorem owns_vals {w : World} {base n : Nat} {t : TypeId} {v : Value} {us : List Value} (h : w.ownsRow base t 1 v n us) : Vals w v us := by
  have hl : us.length = n := by have := h.1; simpa using this
  have h0 := h
  obtain ⟨_, ⟨rfl, h1⟩ | ⟨g, cap, cur, rfl, hg, hb, hc1, hc2, hs, ht⟩⟩ := h
  · obtain rfl : us = [] := List.eq_nil_of_length_eq_zero (by omega)
    exact Vals.nil
  · refine ⟨some ⟨g, 0, none⟩, cap, by rw [hl], by omega, by unfold maxLen at hc2; omega, fun _ => ⟨g, 0, rfl, Blk.lt (t := t) (cs := cur) hb, fun j x hj => ?_⟩⟩
    rw [Nat.zero_add, h0.cellAt j (by have := (List.getElem?_eq_some_iff.1 hj).1; omega), hj]
end Go.Proofs.YtijpeepdedfhoaaGreat
