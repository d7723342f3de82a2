/- What the texts Back, BackX show, in one text. -/
import Derived.Test.YtijpeepdedfhoaaGreatBun04
import Derived.RangeFuncBox
import Derived.RangeFuncLeaves
import Derived.RangeFuncFrom
import Derived.Shelf.Abstract
import Derived.WalkKit
import Derived.OwnWalkIn
import Derived.TacticsInMore
import Derived.LoopNIn
import Derived.LoopIn
import Derived.Test.YtijpeepdedfhoaaGreatRows
/- slices.Backward: a range over a slice from its end. -/
namespace Go.Proofs.YtijpeepdedfhoaaGreat
open Go.RowKit Go.Shelf

attribute [local go_sem] Oper.semAt_some

/-- the slice's box and its cells are as they were -/
def KeepsRow (Bs b : Nat) (W W' : World) : Prop := W'.cell? ⟨Bs, 0, none⟩ = W.cell? ⟨Bs, 0, none⟩ ∧ ∀ o, W'.cell? ⟨b, o, none⟩ = W.cell? ⟨b, o, none⟩
theorem KeepsRow.refl (Bs b : Nat) (W : World) : KeepsRow Bs b W W := ⟨rfl, fun _ => rfl⟩
theorem KeepsRow.trans {Bs b : Nat} {A B C : World} (h : KeepsRow Bs b A B) (h' : KeepsRow Bs b B C) : KeepsRow Bs b A C := ⟨h'.1.trans h.1, fun o => (h'.2 o).trans (h.2 o)⟩
theorem KeepsRow.put {Bs b n : Nat} (h : Bs < n) (h' : b < n) (W : World) (l : Nat) (o' : Obj) (hl : n ≤ l) : KeepsRow Bs b W (W.putObj l o') := by
  have e : ∀ k, k < n → ∀ o, (W.putObj l o').cell? ⟨k, o, none⟩ = W.cell? ⟨k, o, none⟩ := fun k hk o => by
    unfold World.cell?
    rw [show (W.putObj l o').heap[(⟨k, o, none⟩ : Addr).block]? = W.heap[(⟨k, o, none⟩ : Addr).block]? from World.putObj_heap_other (show k ≠ l by omega)]
  exact ⟨e Bs h 0, e b h'⟩

set_option maxRecDepth 100000 in
set_option maxHeartbeats 2000000 in
/-- the iterator: for every loop body that keeps the slice and its box -/
theorem back1U_in {α : Type} (enc : α → Value) (F : Fence) (n : Nat) (h8 : F.fn 85) (hro : F.round = none) (hn : 1 ≤ n) (l Bs b off len cap : Nat) (zs : List α) (hlen : zs.length = len) (h63 : len ≤ 1000000) (J Jx : List (Nat × α) → World → Prop)
    (hY : ∀ pre x W, J pre W → pre.length < len → YieldAt F (n - 1) Tryz.prog l #[.int .i64 (x.1 : Int), enc x.2] W fun e W' =>
      (e = .returned (.bool true) ∧ J (pre ++ [x]) W' ∧ KeepsRow Bs b W W') ∨ (e = .returned (.bool false) ∧ Jx (pre ++ [x]) W'))
    (W : World) (hBs : W.cell? ⟨Bs, 0, none⟩ = some (.slice (some ⟨b, off, none⟩) len cap)) (hc : ∀ j (hj : j < zs.length), W.cell? ⟨b, off + j, none⟩ = some (enc zs[j])) (h0 : J [] W) :
    CallsIn F n Tryz.prog 85 #[.func (.yield l) #[] #[], .pointer (some ⟨Bs, 0, none⟩)] W fun e W' => (∃ v, e = .returned v) ∧
      ((∃ ys : List (Nat × α), ys.map (·.2) = zs.reverse ∧ J ys W') ∨ (∃ pre, True ∧ Jx pre W')) := by
  refine callsIn_of_wp Tryz.func85 rfl h8 ?_ hro
  simp only [Tryz.ntmps85, List.size_toArray, List.length_cons, List.length_nil, Nat.reduceAdd, Nat.reduceSub, Array.replicate_succ, Array.replicate_zero, List.push_toArray, List.append_toArray, List.nil_append, List.cons_append]
  have Hc := hid hc
  clear hc
  gi_wp2
  gi_loopw [3] (fun i wr => ∃ (z : Int) (m : Nat) (pre : List (Nat × α)), i = .int .i64 z ∧ z + 1 = (m : Int) ∧ m ≤ len ∧ Hid (pre.length + m = len) ∧ Hid (pre.map (·.2) = (zs.drop m).reverse) ∧ J pre wr ∧ KeepsRow Bs b W wr)
    (fun i _ => (intOf i + 1).toNat)
  case atStart => exact ⟨(len : Int) - 1, len, [], rfl, by omega, Nat.le_refl _, hid (by simp), hid (by rw [List.drop_of_length_le (by omega)]; rfl), h0, KeepsRow.refl _ _ _⟩
  case round =>
    obtain ⟨z, m, pre, rfl, hz, hm, hpl, hpm, hJs, hnx⟩ := hrel
    have hbx := (hnx.1).trans hBs
    cases m with
    | zero =>
      obtain rfl : z = -1 := by omega
      gi_wp2
      go_end0
      exact ⟨⟨_, rfl⟩, .inl ⟨pre, by rw [hpm.out]; simp, hJs⟩⟩
    | succ k =>
      obtain rfl : z = (k : Int) := by omega
      have hcx := (hnx.2 (off + k)).trans (Hc.out k (by omega))
      obtain ⟨x, hx⟩ : ∃ x, zs[k]'(by omega) = x := ⟨_, rfl⟩
      rw [hx] at hcx
      have Hx := hid hx
      clear hx
      obtain ⟨fn, tmps, assign, body, hy, hR⟩ := hY _ (k, x) _ hJs (by have := hpl.out; omega)
      dsimp only at hy
      gi_wp2
      refine hR.mono ?_
      rintro e W3 (⟨rfl, hJ3, hk3⟩ | ⟨rfl, hJx3⟩)
      · gi_wp2
        go_roundw
        case rel =>
          refine ⟨(k : Int) - 1, k, pre ++ [(k, x)], by go_num, by omega, by omega, hid (by have := hpl.out; simp; omega), hid ?_, hJ3, hnx.trans hk3⟩
          rw [List.map_append, hpm.out, List.drop_eq_getElem_cons (i := k) (by omega), List.reverse_cons, ← Hx.out]
          rfl
        case measure => simp [intOf]
      · gi_wp2
        refine bodyPost_ret (results_none rfl _ _ _) rfl ?_
        exact ⟨⟨_, rfl⟩, .inr ⟨_, trivial, hJx3⟩⟩

set_option maxRecDepth 100000 in
set_option maxHeartbeats 1000000 in
/-- .. of an empty slice: no round -/
theorem back1U_nil_in {α : Type} (F : Fence) (n : Nat) (h8 : F.fn 85) (hro : F.round = none) (l Bs cap : Nat) (a : Option Addr) (J : List (Nat × α) → World → Prop)
    (W : World) (hBs : W.cell? ⟨Bs, 0, none⟩ = some (.slice a 0 cap)) (h0 : J [] W) :
    CallsIn F n Tryz.prog 85 #[.func (.yield l) #[] #[], .pointer (some ⟨Bs, 0, none⟩)] W fun e W' => (∃ v, e = .returned v) ∧ J [] W' := by
  refine callsIn_of_wp Tryz.func85 rfl h8 ?_ hro
  simp only [Tryz.ntmps85, List.size_toArray, List.length_cons, List.length_nil, Nat.reduceAdd, Nat.reduceSub, Array.replicate_succ, Array.replicate_zero, List.push_toArray, List.append_toArray, List.nil_append, List.cons_append]
  gi_wp2
  gi_loopw [3] (fun i wr => i = .int .i64 (-1) ∧ J [] wr) (fun _ _ => 0)
  case atStart => exact ⟨rfl, h0⟩
  case round =>
    obtain ⟨rfl, hJs⟩ := hrel
    gi_wp2
    go_end0
    exact ⟨⟨_, rfl⟩, hJs⟩

set_option maxHeartbeats 1000000 in
theorem backU_in (F : Fence) (n : Nat) (h5 : F.fn 47) (hro : F.round = none) (a : Option Addr) (len cap : Nat) (w : World) :
    CallsIn F n Tryz.prog 47 #[.slice a len cap] w fun e w' => e = .returned (.func (.func 85) #[] #[.pointer (some ⟨w.heap.size, 0, none⟩)]) ∧ w' = w.alloc (.cells #[.slice a len cap] 23) := by
  refine callsIn_of_wp Tryz.func47 rfl h5 ?_ hro
  simp only [Tryz.ntmps47, List.size_toArray, List.length_cons, List.length_nil, Nat.reduceAdd, Nat.reduceSub, Array.replicate_succ, Array.replicate_zero, List.push_toArray, List.append_toArray, List.nil_append, List.cons_append]
  gi_wp2
  go_ret
  exact ⟨rfl, rfl⟩

/-- what slices.Backward hands back: all of zs, from its end -/
theorem backU_stops {α : Type} (enc : α → Value) (F : Fence) (n : Nat) (h8 : F.fn 85) (hro : F.round = none) (hn : 1 ≤ n) (Bs len cap : Nat) (a : Option Addr) (zs : List α) (hlen : zs.length = len) (h63 : len ≤ 1000000) (w : World) (hBs : Bs < w.heap.size)
    (hc : w.cell? ⟨Bs, 0, none⟩ = some (.slice a len cap)) (hI : 0 < len → ∃ b off, a = some ⟨b, off, none⟩ ∧ b < w.heap.size ∧ ∀ j (hj : j < zs.length), w.cell? ⟨b, off + j, none⟩ = some (enc zs[j])) (bq : Nat) (hbq : 0 < len → ∃ off, a = some ⟨bq, off, none⟩) :
    SeqStopsK F n Tryz.prog 85 #[.pointer (some ⟨Bs, 0, none⟩)] (fun x : Nat × α => #[Value.int .i64 (x.1 : Int), enc x.2]) (KeepsRow Bs bq) (fun ys => ys.map (·.2) = zs.reverse) (fun _ => True) zs.length w := fun l J Jx W hW _ _ hY h0 => by
  have hc' := (hW.cell (p := ⟨Bs, 0, none⟩) hBs).trans hc
  rcases Nat.eq_zero_or_pos len with h | h
  · subst h
    obtain rfl : zs = [] := List.eq_nil_of_length_eq_zero hlen
    exact (back1U_nil_in F n h8 hro l Bs cap a J W hc' h0).mono fun e W' ⟨he, hj⟩ => ⟨he, .inl ⟨[], rfl, hj⟩⟩
  · obtain ⟨b, off, rfl, hb, hcs⟩ := hI h
    obtain ⟨off', e⟩ := hbq h
    injection e with e
    injection e with e1 _
    subst e1
    exact back1U_in enc F n h8 hro hn l Bs b off len cap zs hlen h63 J Jx (by rw [hlen] at hY; exact hY) W hc' (fun j hj => (hW.cell (p := ⟨b, off + j, none⟩) hb).trans (hcs j hj)) h0

set_option maxRecDepth 100000 in
set_option maxHeartbeats 2000000 in
/-- the iterator: for every loop body that keeps the slice and its box -/
theorem back1S_in {α : Type} (enc : α → Value) (F : Fence) (n : Nat) (h8 : F.fn 105) (hro : F.round = none) (hn : 1 ≤ n) (l Bs b off len cap : Nat) (zs : List α) (hlen : zs.length = len) (h63 : len ≤ 1000000) (J Jx : List (Nat × α) → World → Prop)
    (hY : ∀ pre x W, J pre W → pre.length < len → YieldAt F (n - 1) Tryz.prog l #[.int .i64 (x.1 : Int), enc x.2] W fun e W' =>
      (e = .returned (.bool true) ∧ J (pre ++ [x]) W' ∧ KeepsRow Bs b W W') ∨ (e = .returned (.bool false) ∧ Jx (pre ++ [x]) W'))
    (W : World) (hBs : W.cell? ⟨Bs, 0, none⟩ = some (.slice (some ⟨b, off, none⟩) len cap)) (hc : ∀ j (hj : j < zs.length), W.cell? ⟨b, off + j, none⟩ = some (enc zs[j])) (h0 : J [] W) :
    CallsIn F n Tryz.prog 105 #[.func (.yield l) #[] #[], .pointer (some ⟨Bs, 0, none⟩)] W fun e W' => (∃ v, e = .returned v) ∧
      ((∃ ys : List (Nat × α), ys.map (·.2) = zs.reverse ∧ J ys W') ∨ (∃ pre, True ∧ Jx pre W')) := by
  refine callsIn_of_wp Tryz.func105 rfl h8 ?_ hro
  simp only [Tryz.ntmps105, List.size_toArray, List.length_cons, List.length_nil, Nat.reduceAdd, Nat.reduceSub, Array.replicate_succ, Array.replicate_zero, List.push_toArray, List.append_toArray, List.nil_append, List.cons_append]
  have Hc := hid hc
  clear hc
  gi_wp2
  gi_loopw [3] (fun i wr => ∃ (z : Int) (m : Nat) (pre : List (Nat × α)), i = .int .i64 z ∧ z + 1 = (m : Int) ∧ m ≤ len ∧ Hid (pre.length + m = len) ∧ Hid (pre.map (·.2) = (zs.drop m).reverse) ∧ J pre wr ∧ KeepsRow Bs b W wr)
    (fun i _ => (intOf i + 1).toNat)
  case atStart => exact ⟨(len : Int) - 1, len, [], rfl, by omega, Nat.le_refl _, hid (by simp), hid (by rw [List.drop_of_length_le (by omega)]; rfl), h0, KeepsRow.refl _ _ _⟩
  case round =>
    obtain ⟨z, m, pre, rfl, hz, hm, hpl, hpm, hJs, hnx⟩ := hrel
    have hbx := (hnx.1).trans hBs
    cases m with
    | zero =>
      obtain rfl : z = -1 := by omega
      gi_wp2
      go_end0
      exact ⟨⟨_, rfl⟩, .inl ⟨pre, by rw [hpm.out]; simp, hJs⟩⟩
    | succ k =>
      obtain rfl : z = (k : Int) := by omega
      have hcx := (hnx.2 (off + k)).trans (Hc.out k (by omega))
      obtain ⟨x, hx⟩ : ∃ x, zs[k]'(by omega) = x := ⟨_, rfl⟩
      rw [hx] at hcx
      have Hx := hid hx
      clear hx
      obtain ⟨fn, tmps, assign, body, hy, hR⟩ := hY _ (k, x) _ hJs (by have := hpl.out; omega)
      dsimp only at hy
      gi_wp2
      refine hR.mono ?_
      rintro e W3 (⟨rfl, hJ3, hk3⟩ | ⟨rfl, hJx3⟩)
      · gi_wp2
        go_roundw
        case rel =>
          refine ⟨(k : Int) - 1, k, pre ++ [(k, x)], by go_num, by omega, by omega, hid (by have := hpl.out; simp; omega), hid ?_, hJ3, hnx.trans hk3⟩
          rw [List.map_append, hpm.out, List.drop_eq_getElem_cons (i := k) (by omega), List.reverse_cons, ← Hx.out]
          rfl
        case measure => simp [intOf]
      · gi_wp2
        refine bodyPost_ret (results_none rfl _ _ _) rfl ?_
        exact ⟨⟨_, rfl⟩, .inr ⟨_, trivial, hJx3⟩⟩

set_option maxRecDepth 100000 in
set_option maxHeartbeats 1000000 in
/-- .. of an empty slice: no round -/
theorem back1S_nil_in {α : Type} (F : Fence) (n : Nat) (h8 : F.fn 105) (hro : F.round = none) (l Bs cap : Nat) (a : Option Addr) (J : List (Nat × α) → World → Prop)
    (W : World) (hBs : W.cell? ⟨Bs, 0, none⟩ = some (.slice a 0 cap)) (h0 : J [] W) :
    CallsIn F n Tryz.prog 105 #[.func (.yield l) #[] #[], .pointer (some ⟨Bs, 0, none⟩)] W fun e W' => (∃ v, e = .returned v) ∧ J [] W' := by
  refine callsIn_of_wp Tryz.func105 rfl h8 ?_ hro
  simp only [Tryz.ntmps105, List.size_toArray, List.length_cons, List.length_nil, Nat.reduceAdd, Nat.reduceSub, Array.replicate_succ, Array.replicate_zero, List.push_toArray, List.append_toArray, List.nil_append, List.cons_append]
  gi_wp2
  gi_loopw [3] (fun i wr => i = .int .i64 (-1) ∧ J [] wr) (fun _ _ => 0)
  case atStart => exact ⟨rfl, h0⟩
  case round =>
    obtain ⟨rfl, hJs⟩ := hrel
    gi_wp2
    go_end0
    exact ⟨⟨_, rfl⟩, hJs⟩

set_option maxHeartbeats 1000000 in
theorem backS_in (F : Fence) (n : Nat) (h5 : F.fn 76) (hro : F.round = none) (a : Option Addr) (len cap : Nat) (w : World) :
    CallsIn F n Tryz.prog 76 #[.slice a len cap] w fun e w' => e = .returned (.func (.func 105) #[] #[.pointer (some ⟨w.heap.size, 0, none⟩)]) ∧ w' = w.alloc (.cells #[.slice a len cap] 96) := by
  refine callsIn_of_wp Tryz.func76 rfl h5 ?_ hro
  simp only [Tryz.ntmps76, List.size_toArray, List.length_cons, List.length_nil, Nat.reduceAdd, Nat.reduceSub, Array.replicate_succ, Array.replicate_zero, List.push_toArray, List.append_toArray, List.nil_append, List.cons_append]
  gi_wp2
  go_ret
  exact ⟨rfl, rfl⟩

/-- what slices.Backward hands back: all of zs, from its end -/
theorem backS_stops {α : Type} (enc : α → Value) (F : Fence) (n : Nat) (h8 : F.fn 105) (hro : F.round = none) (hn : 1 ≤ n) (Bs len cap : Nat) (a : Option Addr) (zs : List α) (hlen : zs.length = len) (h63 : len ≤ 1000000) (w : World) (hBs : Bs < w.heap.size)
    (hc : w.cell? ⟨Bs, 0, none⟩ = some (.slice a len cap)) (hI : 0 < len → ∃ b off, a = some ⟨b, off, none⟩ ∧ b < w.heap.size ∧ ∀ j (hj : j < zs.length), w.cell? ⟨b, off + j, none⟩ = some (enc zs[j])) (bq : Nat) (hbq : 0 < len → ∃ off, a = some ⟨bq, off, none⟩) :
    SeqStopsK F n Tryz.prog 105 #[.pointer (some ⟨Bs, 0, none⟩)] (fun x : Nat × α => #[Value.int .i64 (x.1 : Int), enc x.2]) (KeepsRow Bs bq) (fun ys => ys.map (·.2) = zs.reverse) (fun _ => True) zs.length w := fun l J Jx W hW _ _ hY h0 => by
  have hc' := (hW.cell (p := ⟨Bs, 0, none⟩) hBs).trans hc
  rcases Nat.eq_zero_or_pos len with h | h
  · subst h
    obtain rfl : zs = [] := List.eq_nil_of_length_eq_zero hlen
    exact (back1S_nil_in F n h8 hro l Bs cap a J W hc' h0).mono fun e W' ⟨he, hj⟩ => ⟨he, .inl ⟨[], rfl, hj⟩⟩
  · obtain ⟨b, off, rfl, hb, hcs⟩ := hI h
    obtain ⟨off', e⟩ := hbq h
    injection e with e
    injection e with e1 _
    subst e1
    exact back1S_in enc F n h8 hro hn l Bs b off len cap zs hlen h63 J Jx (by rw [hlen] at hY; exact hY) W hc' (fun j hj => (hW.cell (p := ⟨b, off + j, none⟩) hb).trans (hcs j hj)) h0
end Go.Proofs.YtijpeepdedfhoaaGreat
/- slices.Backward: a range over a slice from its end; each round knows which element it has. -/
namespace Go.Proofs.YtijpeepdedfhoaaGreat
open Go.RowKit Go.Shelf

attribute [local go_sem] Oper.semAt_some

set_option maxRecDepth 100000 in
set_option maxHeartbeats 2000000 in
/-- the iterator: for every loop body that keeps the slice and its box -/
theorem backX1S_in {α : Type} (ix : α → Nat) (enc : α → Value) (F : Fence) (n : Nat) (h8 : F.fn 105) (hro : F.round = none) (hn : 1 ≤ n) (l Bs b off len cap : Nat) (zs : List α) (hlen : zs.length = len) (hix : ∀ j (hj : j < zs.length), ix zs[j] = j) (h63 : len ≤ 1000000) (J Jx : List α → World → Prop)
    (hY : ∀ pre x W, J pre W → pre.length < len → YieldAt F (n - 1) Tryz.prog l #[.int .i64 (ix x : Int), enc x] W fun e W' =>
      (e = .returned (.bool true) ∧ J (pre ++ [x]) W' ∧ KeepsRow Bs b W W') ∨ (e = .returned (.bool false) ∧ Jx (pre ++ [x]) W'))
    (W : World) (hBs : W.cell? ⟨Bs, 0, none⟩ = some (.slice (some ⟨b, off, none⟩) len cap)) (hc : ∀ j (hj : j < zs.length), W.cell? ⟨b, off + j, none⟩ = some (enc zs[j])) (h0 : J [] W) :
    CallsIn F n Tryz.prog 105 #[.func (.yield l) #[] #[], .pointer (some ⟨Bs, 0, none⟩)] W fun e W' => (∃ v, e = .returned v) ∧
      ((∃ ys : List α, ys = zs.reverse ∧ J ys W') ∨ (∃ pre, True ∧ Jx pre W')) := by
  refine callsIn_of_wp Tryz.func105 rfl h8 ?_ hro
  simp only [Tryz.ntmps105, List.size_toArray, List.length_cons, List.length_nil, Nat.reduceAdd, Nat.reduceSub, Array.replicate_succ, Array.replicate_zero, List.push_toArray, List.append_toArray, List.nil_append, List.cons_append]
  have Hc := hid hc; have Hix := hid hix
  clear hc hix
  gi_wp2
  gi_loopw [3] (fun i wr => ∃ (z : Int) (m : Nat) (pre : List α), i = .int .i64 z ∧ z + 1 = (m : Int) ∧ m ≤ len ∧ Hid (pre.length + m = len) ∧ Hid (pre = (zs.drop m).reverse) ∧ J pre wr ∧ KeepsRow Bs b W wr)
    (fun i _ => (intOf i + 1).toNat)
  case atStart => exact ⟨(len : Int) - 1, len, [], rfl, by omega, Nat.le_refl _, hid (by simp), hid (by rw [List.drop_of_length_le (by omega)]; rfl), h0, KeepsRow.refl _ _ _⟩
  case round =>
    obtain ⟨z, m, pre, rfl, hz, hm, hpl, hpm, hJs, hnx⟩ := hrel
    have hbx := (hnx.1).trans hBs
    cases m with
    | zero =>
      obtain rfl : z = -1 := by omega
      gi_wp2
      go_end0
      exact ⟨⟨_, rfl⟩, .inl ⟨pre, by rw [hpm.out]; simp, hJs⟩⟩
    | succ k =>
      obtain rfl : z = (k : Int) := by omega
      have hcx := (hnx.2 (off + k)).trans (Hc.out k (by omega))
      have hik := Hix.out k (by omega)
      obtain ⟨x, hx⟩ : ∃ x, zs[k]'(by omega) = x := ⟨_, rfl⟩
      rw [hx] at hcx hik
      have Hx := hid hx
      clear hx
      obtain ⟨fn, tmps, assign, body, hy, hR⟩ := hY _ x _ hJs (by have := hpl.out; omega)
      rw [hik] at hy
      clear hik
      gi_wp2
      refine hR.mono ?_
      rintro e W3 (⟨rfl, hJ3, hk3⟩ | ⟨rfl, hJx3⟩)
      · gi_wp2
        go_roundw
        case rel =>
          refine ⟨(k : Int) - 1, k, pre ++ [x], by go_num, by omega, by omega, hid (by have := hpl.out; simp; omega), hid ?_, hJ3, hnx.trans hk3⟩
          rw [hpm.out, List.drop_eq_getElem_cons (i := k) (by omega), List.reverse_cons, ← Hx.out]
        case measure => simp [intOf]
      · gi_wp2
        refine bodyPost_ret (results_none rfl _ _ _) rfl ?_
        exact ⟨⟨_, rfl⟩, .inr ⟨_, trivial, hJx3⟩⟩

set_option maxRecDepth 100000 in
set_option maxHeartbeats 1000000 in
/-- .. of an empty slice: no round -/
theorem backX1S_nil_in {α : Type} (F : Fence) (n : Nat) (h8 : F.fn 105) (hro : F.round = none) (l Bs cap : Nat) (a : Option Addr) (J : List α → World → Prop)
    (W : World) (hBs : W.cell? ⟨Bs, 0, none⟩ = some (.slice a 0 cap)) (h0 : J [] W) :
    CallsIn F n Tryz.prog 105 #[.func (.yield l) #[] #[], .pointer (some ⟨Bs, 0, none⟩)] W fun e W' => (∃ v, e = .returned v) ∧ J [] W' := by
  refine callsIn_of_wp Tryz.func105 rfl h8 ?_ hro
  simp only [Tryz.ntmps105, List.size_toArray, List.length_cons, List.length_nil, Nat.reduceAdd, Nat.reduceSub, Array.replicate_succ, Array.replicate_zero, List.push_toArray, List.append_toArray, List.nil_append, List.cons_append]
  gi_wp2
  gi_loopw [3] (fun i wr => i = .int .i64 (-1) ∧ J [] wr) (fun _ _ => 0)
  case atStart => exact ⟨rfl, h0⟩
  case round =>
    obtain ⟨rfl, hJs⟩ := hrel
    gi_wp2
    go_end0
    exact ⟨⟨_, rfl⟩, hJs⟩

set_option maxHeartbeats 1000000 in
theorem backXS_in (F : Fence) (n : Nat) (h5 : F.fn 76) (hro : F.round = none) (a : Option Addr) (len cap : Nat) (w : World) :
    CallsIn F n Tryz.prog 76 #[.slice a len cap] w fun e w' => e = .returned (.func (.func 105) #[] #[.pointer (some ⟨w.heap.size, 0, none⟩)]) ∧ w' = w.alloc (.cells #[.slice a len cap] 96) := by
  refine callsIn_of_wp Tryz.func76 rfl h5 ?_ hro
  simp only [Tryz.ntmps76, List.size_toArray, List.length_cons, List.length_nil, Nat.reduceAdd, Nat.reduceSub, Array.replicate_succ, Array.replicate_zero, List.push_toArray, List.append_toArray, List.nil_append, List.cons_append]
  gi_wp2
  go_ret
  exact ⟨rfl, rfl⟩

/-- what slices.Backward hands back: all of zs, from its end -/
theorem backXS_stops {α : Type} (ix : α → Nat) (enc : α → Value) (F : Fence) (n : Nat) (h8 : F.fn 105) (hro : F.round = none) (hn : 1 ≤ n) (Bs len cap : Nat) (a : Option Addr) (zs : List α) (hlen : zs.length = len) (hix : ∀ j (hj : j < zs.length), ix zs[j] = j) (h63 : len ≤ 1000000) (w : World) (hBs : Bs < w.heap.size)
    (hc : w.cell? ⟨Bs, 0, none⟩ = some (.slice a len cap)) (hI : 0 < len → ∃ b off, a = some ⟨b, off, none⟩ ∧ b < w.heap.size ∧ ∀ j (hj : j < zs.length), w.cell? ⟨b, off + j, none⟩ = some (enc zs[j])) (bq : Nat) (hbq : 0 < len → ∃ off, a = some ⟨bq, off, none⟩) :
    SeqStopsK F n Tryz.prog 105 #[.pointer (some ⟨Bs, 0, none⟩)] (fun x : α => #[Value.int .i64 (ix x : Int), enc x]) (KeepsRow Bs bq) (fun ys => ys = zs.reverse) (fun _ => True) zs.length w := fun l J Jx W hW _ _ hY h0 => by
  have hc' := (hW.cell (p := ⟨Bs, 0, none⟩) hBs).trans hc
  rcases Nat.eq_zero_or_pos len with h | h
  · subst h
    obtain rfl : zs = [] := List.eq_nil_of_length_eq_zero hlen
    exact (backX1S_nil_in F n h8 hro l Bs cap a J W hc' h0).mono fun e W' ⟨he, hj⟩ => ⟨he, .inl ⟨[], rfl, hj⟩⟩
  · obtain ⟨b, off, rfl, hb, hcs⟩ := hI h
    obtain ⟨off', e⟩ := hbq h
    injection e with e
    injection e with e1 _
    subst e1
    exact backX1S_in ix enc F n h8 hro hn l Bs b off len cap zs hlen hix h63 J Jx (by rw [hlen] at hY; exact hY) W hc' (fun j hj => (hW.cell (p := ⟨b, off + j, none⟩) hb).trans (hcs j hj)) h0
end Go.Proofs.YtijpeepdedfhoaaGreat
