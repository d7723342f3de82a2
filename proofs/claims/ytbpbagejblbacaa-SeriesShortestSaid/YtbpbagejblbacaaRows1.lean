/- Rows of rows while they are appended one by one. -/
import Derived.Test.YtbpbagejblbacaaGrid
import Derived.Test.YtbpbagejblbacaaClone
namespace Go.Proofs.Ytbpbagejblbacaa
open Go.RowKit

def hdrs (gs cs : Nat → Nat) (n k : Nat) : List Value := (List.range k).map fun i => .slice (some ⟨gs i, 0, none⟩) n (cs i)
theorem hdrs_len (gs cs : Nat → Nat) (n k : Nat) : (hdrs gs cs n k).length = k := by simp [hdrs]
theorem hdrs_get (gs cs : Nat → Nat) (n : Nat) {k i : Nat} (h : i < k) : (hdrs gs cs n k)[i]? = some (.slice (some ⟨gs i, 0, none⟩) n (cs i)) := by simp [hdrs, h]
theorem hdrs_snoc (gs cs : Nat → Nat) (n k g c : Nat) : hdrs gs cs n k ++ [.slice (some ⟨g, 0, none⟩) n c] = hdrs (fun i => if i = k then g else gs i) (fun i => if i = k then c else cs i) n (k + 1) := by
  unfold hdrs
  rw [List.range_succ, List.map_append, List.map_cons, List.map_nil]
  simp only [if_true]
  congr 1
  refine List.map_congr_left fun i hi => ?_
  have := List.mem_range.1 hi
  rw [if_neg (by omega), if_neg (by omega)]
structure Rows1 (w0 w : World) (rv : Value) (k n : Nat) (gs cs : Nat → Nat) (R : Nat → List Int) : Prop where
  own : w.ownsRow w0.heap.size 23 1 rv k (hdrs gs cs n k)
  row : ∀ i, i < k → WRow w (gs i) 0 (R i) ∧ w0.heap.size ≤ gs i
  len : ∀ i, i < k → (R i).length = n ∧ n ≤ cs i ∧ cs i ≤ 9223372036854775807
  two : ∀ i j, i < k → j < k → gs i = gs j → i = j
  ext : Ext w0 w
theorem Rows1.off {w0 w : World} {rv : Value} {k n : Nat} {gs cs : Nat → Nat} {R : Nat → List Int} (h : Rows1 w0 w rv k n gs cs R) (hn : 0 < n) {i : Nat} (hi : i < k) : rv.ownBlock ≠ some (gs i) := by
  have hc := ((h.row i hi).1.2 0 (by rw [(h.len i hi).1]; exact hn)).1
  rw [Nat.add_zero] at hc
  have h0 := h.own
  obtain ⟨_, ⟨rfl, h1⟩ | ⟨g, cap, cur, rfl, hg, hb, hc1, hc2, hs, ht⟩⟩ := h.own
  · simp [Value.ownBlock]
  · intro e
    have e2 : g = gs i := by simpa [Value.ownBlock] using e
    have := h0.cellAt 0 (by omega)
    rw [e2, hc, hdrs_get _ _ _ (show 0 < k by omega)] at this
    simp at this
theorem Rows1.ext' {w0 w w1 : World} {rv : Value} {k n : Nat} {gs cs : Nat → Nat} {R : Nat → List Int} (h : Rows1 w0 w rv k n gs cs R) (y : Ext w w1) : Rows1 w0 w1 rv k n gs cs R :=
  ⟨ownsRow_ext h.own y, fun i hi => ⟨(h.row i hi).1.ext y, (h.row i hi).2⟩, h.len, h.two, h.ext.trans y⟩
theorem Rows1.next {w0 w w1 w2 : World} {rv v' : Value} {k n : Nat} {gs cs : Nat → Nat} {R : Nat → List Int} (h : Rows1 w0 w rv k n gs cs R) (hn : 0 < n) (y : Ext w w1) {g c : Nat} {X : List Int} (hX : WRow w1 g 0 X) (hg : w.heap.size ≤ g) (hl : X.length = n ∧ n ≤ c ∧ c ≤ 9223372036854775807)
    (ho : w2.ownsRow w0.heap.size 23 1 v' (k + 1) (hdrs gs cs n k ++ [.slice (some ⟨g, 0, none⟩) n c])) (hgr : w1.grownBy w2 rv.ownBlock) :
    Rows1 w0 w2 v' (k + 1) n (fun i => if i = k then g else gs i) (fun i => if i = k then c else cs i) (fun i => if i = k then X else R i) := by
  have hs := h.ext.size
  have hlt : ∀ i, i < k → gs i < w.heap.size := fun i hi => (h.row i hi).1.1
  have hob : ∀ j, rv.ownBlock = some j → w0.heap.size ≤ j ∧ j < w.heap.size := fun j e => h.own.lt j e
  refine ⟨by rw [← hdrs_snoc]; exact ho, fun i hi => ?_, fun i hi => ?_, fun i j hi hj e => ?_, (h.ext.trans y).grown hgr fun j e => (hob j e).1⟩
  · by_cases e : i = k
    · rw [if_pos e, if_pos e]
      exact ⟨hX.grown hgr fun e2 => by have := (hob g e2).2; omega, by omega⟩
    · rw [if_neg e, if_neg e]
      exact ⟨((h.row i (by omega)).1.ext y).grown hgr (h.off hn (by omega)), (h.row i (by omega)).2⟩
  · by_cases e : i = k
    · rw [if_pos e, if_pos e]; exact hl
    · rw [if_neg e, if_neg e]; exact h.len i (by omega)
  · by_cases e1 : i = k
    · by_cases e2 : j = k
      · omega
      · rw [if_pos e1, if_neg e2] at e
        have := hlt j (by omega)
        omega
    · by_cases e2 : j = k
      · rw [if_neg e1, if_pos e2] at e
        have := hlt i (by omega)
        omega
      · rw [if_neg e1, if_neg e2] at e
        exact h.two i j (by omega) (by omega) e
theorem Rows1.start (w0 : World) (n : Nat) (gs cs : Nat → Nat) (R : Nat → List Int) : Rows1 w0 w0 (.slice none 0 0) 0 n gs cs R :=
  ⟨World.ownsRow_nil _ _ _ _, fun _ h => absurd h (Nat.not_lt_zero _), fun _ h => absurd h (Nat.not_lt_zero _), fun _ _ h => absurd h (Nat.not_lt_zero _), Ext.refl _⟩
theorem Rows1.grid {w0 w : World} {rv : Value} {k n : Nat} {gs cs : Nat → Nat} {R : Nat → List Int} (h : Rows1 w0 w rv k n gs cs R) (hn : 0 < n) (hk : 0 < k) :
    ∃ G cap, rv = .slice (some ⟨G, 0, none⟩) k cap ∧ k ≤ cap ∧ cap ≤ 9223372036854775807 ∧ w0.heap.size ≤ G ∧ Grid w G k n gs cs R := by
  have ho := fun i hi => h.off hn (i := i) hi
  have h0 := h.own
  obtain ⟨_, ⟨rfl, h1⟩ | ⟨g, cap, cur, rfl, hg, hb, hc1, hc2, hs, ht⟩⟩ := h.own
  · exact absurd h1 (by omega)
  · refine ⟨g, cap, rfl, hc1, by simpa [maxLen] using hc2, hg, Blk.lt (t := 23) (cs := cur) hb, fun i hi => ⟨?_, Blk.frozen (t := 23) (cs := cur) hb i⟩, fun i hi => (h.row i hi).1, h.len, fun i hi e => ho i hi (by simp [Value.ownBlock, e]), h.two⟩
    rw [h0.cellAt i (by omega), hdrs_get _ _ _ hi]
end Go.Proofs.Ytbpbagejblbacaa
