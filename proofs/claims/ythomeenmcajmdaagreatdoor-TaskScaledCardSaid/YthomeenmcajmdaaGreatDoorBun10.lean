import Derived.Test.YthomeenmcajmdaaGreatDoorBun05
import Derived.Test.YthomeenmcajmdaaGreatDoorBun04
import Derived.Test.YthomeenmcajmdaaGreatDoorBun01
namespace Go.Proofs.YthomeenmcajmdaaGreatDoor
open Go.RowKit Go.Maps
end Go.Proofs.YthomeenmcajmdaaGreatDoor
namespace Go.Proofs.YthomeenmcajmdaaGreatDoor
open Go.RowKit
theorem isNaN_any (a : Int) (w : World) : Calls Tryz.prog 156 #[.int .u64 a] w fun e w' => e = .returned (.bool false) ∧ w = w' := by
  go_enter Tryz.func156, Tryz.ntmps156
  go_wp2_with fail
  go_ret
  exact ⟨ret_bool (by simp), rfl⟩
set_option maxHeartbeats 400000 in
theorem less64_any (a b : Int) (w : World) : Calls Tryz.prog 130 #[.int .u64 a, .int .u64 b] w fun e w' => e = .returned (.bool (decide (a < b))) ∧ w = w' := by
  go_enter Tryz.func130, Tryz.ntmps130
  go_wp2_with (go_at_call 156; refine (isNaN_any _ _).mono ?_; rintro _ w1 ⟨rfl, rfl⟩)
  go_ret
  exact ⟨ret_bool (by simp), rfl⟩
def swapD (zs : List Int) (j : Nat) : List Int := (zs.set j (zs.getD (j - 1) 0)).set (j - 1) (zs.getD j 0)
def NumBlk (w : World) (g : Nat) (t : TypeId) (zs : List Int) (rest : List Value) : Prop := Blk w g t ((zs.map (Value.int .u64)) ++ rest).toArray
theorem NumBlk.cell {w : World} {g : Nat} {t : TypeId} {zs : List Int} {rest : List Value} (h : NumBlk w g t zs rest) {k : Nat} (hk : k < zs.length) : w.cell? ⟨g, k, none⟩ = some (.int .u64 (zs.getD k 0)) := by
  have := Blk.cell h k
  rw [this]
  simp [List.getElem?_append, hk, List.getD]
theorem NumBlk.frozen {w : World} {g : Nat} {t : TypeId} {zs : List Int} {rest : List Value} (h : NumBlk w g t zs rest) (k : Nat) : w.frozen? ⟨g, k, none⟩ = false := Blk.frozen h k
theorem NumBlk.set_ {w : World} {g : Nat} {t : TypeId} {zs : List Int} {rest : List Value} (h : NumBlk w g t zs rest) {k : Nat} (hk : k < zs.length) (x : Int) : NumBlk (w.setCell ⟨g, k, none⟩ (.int .u64 x)) g t (zs.set k x) rest := by
  have := Blk.set_ h k (.int .u64 x)
  unfold NumBlk
  rw [List.map_set]
  have e : ((zs.map (Value.int .u64) ++ rest).toArray.setIfInBounds k (.int .u64 x)) = ((zs.map (Value.int .u64)).set k (.int .u64 x) ++ rest).toArray := by
    simp [hk]
  rw [← e]
  exact this
theorem NumBlk.drewN {w : World} {g : Nat} {t : TypeId} {zs : List Int} {rest : List Value} (h : NumBlk w g t zs rest) (n : Nat) : NumBlk (w.drewN n) g t zs rest := h
theorem NumBlk.swap {w : World} {g : Nat} {t : TypeId} {zs : List Int} {rest : List Value} (h : NumBlk w g t zs rest) {j : Nat} (h1 : 1 ≤ j) (hj : j < zs.length) :
    NumBlk ((w.setCell ⟨g, j, none⟩ (.int .u64 (zs.getD (j - 1) 0))).setCell ⟨g, j - 1, none⟩ (.int .u64 (zs.getD j 0))) g t (swapD zs j) rest :=
  (h.set_ hj _).set_ (by rw [List.length_set]; omega) _
theorem bitsLen_any (x : Int) (w : World) (hx0 : 0 ≤ x) (hx : x ≤ 18446744073709551615) :
    Calls Tryz.prog 101 #[.int .u64 x] w fun e w' => e = .returned (.int .i64 (bitLen x.toNat)) ∧ w = w' := by
  go_enter Tryz.func101, Tryz.ntmps101
  go_wp2_with (go_at_call 134; refine (len64_any _ _ hx0 hx).mono ?_; rintro e w' ⟨rfl, rfl⟩)
  go_ret
  exact ⟨rfl, rfl⟩
set_option maxHeartbeats 400000 in
theorem insertion_nil (a : Option Addr) (cap : Nat) (w : World) :
    Calls Tryz.prog 124 #[.slice a 0 cap, .int .i64 0, .int .i64 0] w fun e w' => (∃ v, e = .returned v) ∧ w = w' := by
  go_enter Tryz.func124, Tryz.ntmps124
  go_wp2_with fail
  refine wp_loop_rounds 1 ?_
  rw [rounds_succ]
  go_wp2_with fail
  go_end0
  exact ⟨⟨_, rfl⟩, rfl⟩
set_option maxRecDepth 100000 in
set_option maxHeartbeats 400000 in
theorem pdq_nil (a : Option Addr) (cap : Nat) (l : Int) (w : World) :
    Calls Tryz.prog 100 #[.slice a 0 cap, .int .i64 0, .int .i64 0, .int .i64 l] w fun e w' => (∃ v, e = .returned v) ∧ w = w' := by
  go_enter Tryz.func100, Tryz.ntmps100
  go_wp2_with fail
  refine wp_loop_rounds 1 ?_
  rw [rounds_succ]
  go_wp2_with fail
  refine (insertion_nil a cap _).mono ?_; rintro _ w1 ⟨⟨v, rfl⟩, rfl⟩
  go_wp2_with fail
  (try simp only [Exit.inBlock, Exit.then])
  refine bodyPost_ret (results_none rfl _ _ _) rfl ?_
  exact ⟨⟨_, rfl⟩, rfl⟩
set_option maxHeartbeats 400000 in
theorem sort_nil (w : World) (a : Option Addr) (cap : Nat) :
    Calls Tryz.prog 76 #[.slice a 0 cap] w fun e w' => (∃ v, e = .returned v) ∧ w = w' := by
  go_enter Tryz.func76, Tryz.ntmps76
  go_wp2_with (first
    | (go_at_call 101; refine (bitsLen_any _ _ (by omega) (by omega)).mono ?_; rintro _ w1 ⟨rfl, rfl⟩)
    | (go_at_call 100; refine (pdq_nil a cap _ _).mono ?_; rintro _ w1 ⟨⟨v, rfl⟩, rfl⟩))
  go_end0
  exact ⟨⟨_, rfl⟩, rfl⟩
end Go.Proofs.YthomeenmcajmdaaGreatDoor
