/- A list the other way round, as the document's own answers make it: affidavitref04.Turned. -/
import Derived.Test.YtbpbagejblbacaaClone
import Derived.Test.YtbpbagejblbacaaDot
namespace Go.Proofs.Ytbpbagejblbacaa
open Go.RowKit Go.Maps

set_option maxHeartbeats 1000000 in
theorem rTurned (v : Value) (c : List Int) (w : World) (hv : Ints .u64 w v c) (hl : c.length ≤ 1000000) :
    Calls Try.prog 16 #[v] w fun e w' => ∃ u, e = .returned u ∧ Ints .u64 w' u c.reverse ∧ Ext w w' := by
  obtain ⟨i0, hi, hz0, hz1, hz2⟩ := info_parts info_u64p
  obtain ⟨a, cap, rfl, k1, k2, k3⟩ := hv
  have K3 := hid k3
  clear k3
  obtain ⟨n, hn⟩ : ∃ n, c.length = n := ⟨_, rfl⟩
  have Hn := hid hn
  rw [hn] at hl k1 K3 ⊢
  clear hn
  go_enter Try.func16, Try.ntmps16
  go_wp2_with fail
  go_loopw [4, 3] (fun i rv wr => ∃ m : Nat, i = .int .i64 ((m : Int) - 1) ∧ m ≤ n ∧ Hid (wr.ownsRow w.heap.size 22 1 rv (n - m) ((c.reverse.take (n - m)).map (Value.int .u64))) ∧ Ext w wr) (fun i _ _ => (intOf i + 1).toNat)
  case atStart => exact ⟨n, rfl, Nat.le_refl _, hid (by rw [Nat.sub_self]; exact World.ownsRow_nil _ _ _ _), Ext.refl _⟩
  case round =>
    obtain ⟨m, rfl, hm, hown, hx⟩ := hrel
    by_cases hlt : 0 < m
    · obtain ⟨j, rfl⟩ : ∃ j, m = j + 1 := ⟨m - 1, by omega⟩
      obtain ⟨b, off, rfl, hb, hcell⟩ := K3.out (by omega)
      have g := (hx.cells _ _ hb).trans (hcell j (by omega))
      have hsz := hx.size
      obtain ⟨y, ey⟩ : ∃ y, c.getD j 0 = y := ⟨_, rfl⟩
      rw [ey] at g
      have hlm := hid (show ((c.reverse.take (n - (j + 1))).map (Value.int .u64)) ++ [Value.int .u64 y] = (c.reverse.take (n - j)).map (Value.int .u64) by
        have e := take_snoc c.reverse (n - (j + 1)) (by rw [List.length_reverse, Hn.out]; omega)
        rw [rev_get c (by rw [Hn.out]; omega), Hn.out, show n - 1 - (n - (j + 1)) = j by omega, ey, show n - (j + 1) + 1 = n - j by omega] at e
        rw [e, List.map_append]; rfl)
      have e1 : ((j + 1 : Nat) : Int) - 1 = (j : Int) := by omega
      rw [e1]
      clear hcell ey
      obtain ⟨q, hq⟩ : ∃ q, n - (j + 1) = q := ⟨_, rfl⟩
      have hq2 : n - j = q + 1 := by omega
      rw [hq] at hown hlm
      rw [hq2] at hlm
      clear hq
      go_wp2_with (first | (at_builtin; refine wpList_append_own _ rfl _ _ 23 rfl w.heap.size 22 i0 (.int .u64 0) 1 8 Try.underlying23 hi hz0 hz1 hz2 rfl (by decide) _ _ _ rfl (hown.out.alloc _) ⟨wr.heap.size, 0, none⟩ 1 1 [.int .u64 y] rfl rfl (cells_new _ _ _ (by simp)) (by simp [Value.oneCell']) (by simp only [maxLen]; omega) (by omega) (by simp; omega) ?_; intro v' w4 hown4 hgrow4 hnil4) | fail)
      go_roundw
      case rel => exact ⟨j, rfl, by omega, hid (by rw [hq2, ← hlm.out]; exact hown4), (hx.alloc _).grown hgrow4 (fun t e => (hown.out.lt t e).1)⟩
      case measure => simp [intOf]
    · obtain rfl : m = 0 := by omega
      have ho := hown.out
      rw [Nat.sub_zero, List.take_of_length_le (by rw [List.length_reverse, Hn.out]; omega)] at ho
      obtain ⟨a4, c4, rfl, c42, c43, c44, c45⟩ := WRow.of_owns ho
      have hI : Hid (Ints .u64 wr (.slice a4 n c4) c.reverse) := hid (by
        rcases Nat.eq_zero_or_pos n with h0 | h0
        · exact ⟨a4, c4, by rw [c44], by omega, c43, fun h => by omega⟩
        · obtain ⟨g4, rfl, hg4, hw4⟩ := c45 h0
          exact hw4.ints' c44 c42 c43)
      clear c45 ho hown c44
      go_wp2_with fail
      go_ret
      exact ⟨_, rfl, hI.out, hx⟩
end Go.Proofs.Ytbpbagejblbacaa
