import Derived.Test.YthomeenmcajmdaaGreatDoorChunk
import Derived.RangeFuncBox
import Derived.RangeFuncBound
import Derived.RangeFuncLeaves
import Derived.RangeFuncWrites
import Derived.RangeFuncStops
import Derived.RangeFuncKeeps
import Derived.RangeFuncFrom
import Derived.Maps.AppendAt
namespace Go.Proofs.YthomeenmcajmdaaGreatDoor
open Go.RowKit Go.Maps Go.Shelf
attribute [local go_sem] Oper.semAt_some
theorem chunk_stops_in (F : Fence) (n : Nat) (h8 : F.fn 102) (hro : F.round = none) (hn : 1 ≤ n) (Bs Bn b off L cap m c : Nat) (hL : L = m * c) (hm : m ≤ 64) (hc : 1 ≤ c ∧ c ≤ 64) (hcap : L ≤ cap) (w : World) (hBs : Bs < w.heap.size) (hBn : Bn < w.heap.size)
    (h1 : w.cell? ⟨Bs, 0, none⟩ = some (.slice (some ⟨b, off, none⟩) L cap)) (h2 : w.cell? ⟨Bn, 0, none⟩ = some (.int .i64 c)) :
    SeqStopsK F n Tryz.prog 102 #[.pointer (some ⟨Bs, 0, none⟩), .pointer (some ⟨Bn, 0, none⟩)] (fun x : {x : Nat // x < m} => #[pieceV b off c x.1]) (KeepsRow Bs Bn) (fun ys => ys.map (·.1) = List.range m) (fun _ => True) m w := fun l J Jx W hW hJ _ hY h0 => by
  refine (chunk1_in F n h8 hro hn l Bs Bn b off L cap m c hL hm hc hcap (fun pre W => ∃ pre' : List {x : Nat // x < m}, pre'.map (·.1) = pre ∧ J pre' W) (fun pre W => ∃ pre' : List {x : Nat // x < m}, pre'.map (·.1) = pre ∧ Jx pre' W) (fun pre x W1 ⟨pre', e, hj⟩ hlt hx => ?_) W (fun pre a b row ⟨pre', e, hj⟩ hg hr => ⟨pre', e, hJ pre' a b row hj hg hr⟩) ((hW.cell (p := ⟨Bs, 0, none⟩) hBs).trans h1) ((hW.cell (p := ⟨Bn, 0, none⟩) hBn).trans h2) ⟨[], rfl, h0⟩).mono ?_
  · subst e
    rw [List.length_map] at hlt
    obtain ⟨fn, tmps, assign, body, hy, hR⟩ := hY pre' ⟨x, hx⟩ W1 hj hlt
    refine ⟨fn, tmps, assign, body, hy, hR.mono ?_⟩
    rintro e W' (⟨h1, h2, h3⟩ | ⟨h1, h2⟩)
    · exact .inl ⟨h1, ⟨_, by simp, h2⟩, h3⟩
    · exact .inr ⟨h1, ⟨_, by simp, h2⟩⟩
  · rintro e W' ⟨h1, ⟨ys, rfl, pre', e2, hj⟩ | ⟨pre, _, pre', _, hj⟩⟩
    · exact ⟨h1, .inl ⟨pre', e2, hj⟩⟩
    · exact ⟨h1, .inr ⟨pre', trivial, hj⟩⟩
end Go.Proofs.YthomeenmcajmdaaGreatDoor
