/- Package cup: what a row is lessened by; the first number that isn't 0; rows of the call's own, apart from one another. -/
import Derived.Test.YtjdbkbbhjiemdaaMx1
import Derived.Test.YtjdbkbbhjiemdaaCupB1
import Derived.Test.YtjdbkbbhjiemdaaClone
import Derived.Test.YtjdbkbbhjiemdaaCupB8
import Derived.Maps.AppendAt
namespace Go.Proofs.Ytjdbkbbhjiemdaa
open Go.RowKit Go.Maps

theorem Ext.grownBy {w w' : World} (h : Ext w w') (row : Option Nat) : w.grownBy w' row := ⟨h.os, h.tape, h.output, h.size, fun k hk _ => h.block k hk⟩
theorem Ints.grown {k : IntKind} {w w' : World} {v : Value} {xs : List Int} {row : Option Nat} (h : Ints k w v xs) (hg : w.grownBy w' row) (hne : ∀ b, v.ownBlock = some b → row ≠ some b) : Ints k w' v xs := by
  obtain ⟨a, cap, rfl, h1, h2, h3⟩ := h
  refine ⟨a, cap, rfl, h1, h2, fun hp => ?_⟩
  obtain ⟨b, off, rfl, hb, hc⟩ := h3 hp
  refine ⟨b, off, rfl, Nat.lt_of_lt_of_le hb hg.size, fun j hj => ?_⟩
  rw [World.cell?_of_block (hg.block b hb fun e => hne b rfl e.symm)]
  exact hc j hj
/-- two slices that don't lie in one block -/
def Ap (v u : Value) : Prop := v.ownBlock = none ∨ v.ownBlock ≠ u.ownBlock
theorem Ap.symm {v u : Value} (h : Ap v u) : Ap u v := by
  rcases h with h | h
  · rcases hu : u.ownBlock with _ | k
    · exact .inl hu
    · exact .inr (by rw [h, hu]; simp)
  · exact .inr fun e => h e.symm
/-- an elder row and a younger one lie apart -/
theorem Ap.old {w w' : World} {b b' : Nat} {e e' : TypeId} {s s' n n' : Nat} {v u : Value} {xs ys : List Value} (h : w.ownsRow b e s v n xs) (h' : w'.ownsRow b' e' s' u n' ys) (hb : w.heap.size ≤ b') : Ap v u := by
  rcases hv : v.ownBlock with _ | k
  · exact .inl hv
  · refine .inr fun e => ?_
    rw [hv] at e
    have h1 := (h.lt k hv).2
    have h2 := (h'.lt k e.symm).1
    omega
/-- a row that has grown lies apart from what it lay apart from -/
theorem Ap.grown {w : World} {b : Nat} {e : TypeId} {s n : Nat} {v v' u : Value} {ys : List Value} (h : Ap u v) (hu : w.ownsRow b e s u n ys) (hat : v'.ownBlock = v.ownBlock ∨ v'.ownBlock = some w.heap.size) : Ap u v' := by
  rcases h with h | h
  · exact .inl h
  · rcases hv : u.ownBlock with _ | k
    · exact .inl hv
    · refine .inr fun e => ?_
      rw [hv] at e h
      rcases hat with hat | hat
      · rw [hat] at e; exact h e
      · rw [hat] at e
        have := (hu.lt k hv).2
        injection e with e
        omega
theorem own_put {w : World} {base : Nat} {e ty : TypeId} {g n : Nat} {v : Value} {xs : List Value} {cs : Array Value} (h : w.ownsRow base e 1 v n xs) (hB : Blk w g ty cs) (hty : e ≠ ty) (i : Nat) (u : Value) : (w.setCell ⟨g, i, none⟩ u).ownsRow base e 1 v n xs :=
  h.kept (setCell_grown _ _ _) (ownsRow_blk h hB hty)
theorem map_set_int (l : List Int) (j : Nat) (x : Int) : (l.map (Value.int .u64)).set j (.int .u64 x) = (l.set j x).map (Value.int .u64) := by rw [List.map_set]

set_option maxRecDepth 100000 in
set_option maxHeartbeats 1000000 in
theorem cmLessen (p x : Int) (n base g cap : Nat) (xs us : List Int) (u : Value) (w : World) (hp : rightB p = true) (hx : 0 ≤ x ∧ x < p) (hn : 1 ≤ n) (hn2 : n ≤ 64)
    (hown : w.ownsRow base 22 1 (.slice (some ⟨g, 0, none⟩) n cap) n (xs.map (Value.int .u64))) (hxs : Rng p xs) (hu : Ints .u64 w u us) (hul : us.length = n) (hus : Rng p us) (hne : ∀ k, u.ownBlock = some k → g ≠ k) :
    Calls Try.prog 91 #[.int .u64 p, .slice (some ⟨g, 0, none⟩) n cap, .int .u64 x, u] w fun e w' => e = .returned (.tuple #[]) ∧
      w'.ownsRow base 22 1 (.slice (some ⟨g, 0, none⟩) n cap) n ((tab n fun j => (xs.getD j 0 - x * us.getD j 0 % p) % p).map (Value.int .u64)) ∧ w.grownBy w' (some g) := by
  have hp2 := rightB_true hp
  have HP := hid hp
  have Hxs := hid hxs; have Hus := hid hus
  have hxl : xs.length = n := by have := hown.1; simpa using this
  obtain ⟨F, hF⟩ : ∃ F : Nat → Int, (fun j => (xs.getD j 0 - x * us.getD j 0 % p) % p) = F := ⟨_, rfl⟩
  have HF := hid (fun j => (congrFun hF j : (xs.getD j 0 - x * us.getD j 0 % p) % p = F j))
  rw [hF]
  have Hown := hid hown; have Hxl := hid hxl
  obtain ⟨a, cu, rfl, k1, k2, k3⟩ := hu
  rw [hul] at k1 k3 ⊢
  obtain ⟨b, off, rfl, hb, hc⟩ := k3 (by omega)
  have Hc := hid hc
  have hgb : g ≠ b := hne b rfl
  clear hF k3 hc hown hxl hne hul hxs hus hp
  go_enter Try.func91, Try.ntmps91
  go_wp2_with fail
  go_loopw [14] (fun iv wr => ∃ (j : Nat) (l : List Int), iv = .int .i64 j ∧ j ≤ n ∧ Hid (l.length = n) ∧ Hid (wr.ownsRow base 22 1 (.slice (some ⟨g, 0, none⟩) n cap) n (l.map (Value.int .u64))) ∧ Hid (∀ t, t < n → l.getD t 0 = if t < j then F t else xs.getD t 0) ∧ Hid (w.grownBy wr (some g))) (fun iv _ => n - (intOf iv).toNat)
  case atStart => exact ⟨0, xs, rfl, Nat.zero_le _, Hxl, Hown, hid (fun t ht => by rw [if_neg (by omega)]), hid ((Ext.refl w).grownBy _)⟩
  case round =>
    obtain ⟨j, l, rfl, hj, hl, ho, hget, hgr⟩ := hrel
    by_cases hlt : j < n
    · have gu := (World.cell?_of_block (a := ⟨b, off + j, none⟩) (hgr.out.block b hb (fun e => hgb (by injection e with e; exact e.symm)))).trans (Hc.out j hlt)
      have hlj := hget.out j hlt
      rw [if_neg (by omega)] at hlj
      have rx := Hxs.out.getD hp2.1 j
      have ru := Hus.out.getD hp2.1 j
      have hFj := HF.out j
      obtain ⟨y, ey⟩ : ∃ y, us.getD j 0 = y := ⟨_, rfl⟩
      obtain ⟨z, ez⟩ : ∃ z, xs.getD j 0 = z := ⟨_, rfl⟩
      rw [ey] at gu ru hFj; rw [ez] at hlj rx hFj
      obtain ⟨q, eq, q0, q1⟩ := name_mod (p := p) (x * y) hp2.1
      rw [eq] at hFj
      have hFr := mod_range (z - q) hp2.1
      rw [hFj] at hFr
      obtain ⟨t, et⟩ : ∃ t, F j = t := ⟨_, rfl⟩
      rw [et] at hFj hFr
      have Eq := hid eq; have Et := hid et; have HFj := hid hFj
      have gv := hid fun (W : World) (hW : Ext wr W) => (show W.cell? ⟨g, j, none⟩ = some (.int .u64 z) by
        rw [(ownsRow_ext ho.out hW).cellAt j (by omega), List.getElem?_map, List.getElem?_eq_getElem (show j < l.length by rw [hl.out]; exact hlt)]
        simp only [List.getD, List.getElem?_eq_getElem (show j < l.length by rw [hl.out]; exact hlt), Option.getD_some] at hlj
        rw [hlj]; rfl)
      have fv := hid fun (W : World) (hW : Ext wr W) => (ownsRow_ext ho.out hW).frozenAt j
      have hst := hid fun (W : World) (hW : Ext wr W) => (ownsRow_ext ho.out hW).stored j (.int .u64 t)
      clear ey ez eq et hFj hlj
      go_wp2_with (first
        | (go_at_call 66; refine (mul_as p x y q _ HP.out hx.1 hx.2 ru.1 ru.2 Eq.out).mono ?_; rintro _ w1 ⟨rfl, x1⟩; have g1 := gv.out w1 x1)
        | (go_at_call 68; refine (sub_as p z q t _ HP.out rx.1 rx.2 q0 q1 HFj.out).mono ?_; rintro _ w2 ⟨rfl, x2⟩; have x3 := x1.trans x2; have f2 := fv.out w2 x3; have g2 := gv.out w2 x3))
      have hs := hid (hst.out w2 x3)
      go_roundw
      case rel =>
        refine ⟨j + 1, l.set j t, by go_num, by omega, hid (by rw [List.length_set]; exact hl.out), hid (by rw [← map_set_int]; exact hs.out.1), hid (fun i hi => ?_), hid ((hgr.out.trans (x3.grownBy _)).trans hs.out.2)⟩
        rw [set_get l j i t (by rw [hl.out]; exact hlt)]
        by_cases e : j = i
        · subst e
          rw [if_pos rfl, if_pos (by omega), Et.out]
        · rw [if_neg e, hget.out i hi]
          by_cases e2 : i < j
          · rw [if_pos e2, if_pos (by omega)]
          · rw [if_neg e2, if_neg (by omega)]
      case measure => simp [intOf]; omega
    · obtain rfl : n = j := by omega
      have e : l = tab n F := tab_of hl.out fun t ht => by rw [hget.out t ht, if_pos ht]
      go_wp2_with fail
      go_end0
      exact ⟨rfl, by rw [← e]; exact ho.out, hgr.out⟩

set_option maxHeartbeats 400000 in
theorem cmNot0 (y : Int) (w : World) : Calls Try.prog 93 #[.int .u64 y] w fun e w' => e = .returned (.bool (y != 0)) ∧ w = w' := by
  go_enter Try.func93, Try.ntmps93
  go_wp2_with fail
  go_ret
  exact ⟨rfl, rfl⟩
/-- where the first number that isn't 0 stands -/
def leadV (l : List Int) : Int := if leadE l < l.length then (leadE l : Int) else -1
set_option maxRecDepth 100000 in
set_option maxHeartbeats 1000000 in
theorem cmIndex (v : Value) (xs : List Int) (w : World) (hv : Ints .u64 w v xs) (hx : U64s xs) (hl : xs.length ≤ 1000000) :
    Calls Try.prog 92 #[v, .func (.func 93) #[] #[]] w (Ret (.int .i64 (leadV xs)) w) := by
  have C1 := hid fun y W => cmNot0 y W
  obtain ⟨L, hL⟩ : ∃ L, leadV xs = L := ⟨_, rfl⟩
  rw [hL]
  have HL := hid hL
  have Hx := hid hx
  obtain ⟨a, cap, rfl, k1, k2, k3⟩ := hv
  have K3 := hid k3
  obtain ⟨n, en⟩ : ∃ n, xs.length = n := ⟨_, rfl⟩
  have En := hid en
  rw [en] at k1 K3 hl ⊢
  clear k3 hL en hx
  go_enter Try.func92, Try.ntmps92
  go_wp2_with fail
  go_loopw [8] (fun iv wr => ∃ (j : Nat), iv = .int .i64 j ∧ j ≤ n ∧ Hid (∀ t, t < j → xs.getD t 0 = 0) ∧ Ext w wr) (fun iv _ => n - (intOf iv).toNat)
  case atStart => exact ⟨0, rfl, Nat.zero_le _, hid (fun t ht => absurd ht (Nat.not_lt_zero _)), Ext.refl _⟩
  case round =>
    obtain ⟨j, rfl, hj, hz, hw⟩ := hrel
    by_cases hlt : j < n
    · obtain ⟨b, off, rfl, hb, hc⟩ := K3.out (by omega)
      have g1 := (hw.cells _ _ hb).trans (hc j hlt)
      have ry := Hx.out.get (k := j) (by rw [En.out]; exact hlt)
      obtain ⟨y, ey⟩ : ∃ y, xs.getD j 0 = y := ⟨_, rfl⟩
      rw [ey] at g1 ry
      have Ey := hid ey
      clear ey hc
      by_cases c : y = 0
      · have e0 : ((0 : Int) != 0) = false := by decide
        have C2 := hid (C1.out 0)
        rw [e0] at C2
        subst c
        go_wp2_with (go_at_call 93; refine (C2.out _).mono ?_; rintro _ _ ⟨rfl, rfl⟩)
        go_roundw
        case rel =>
          refine ⟨j + 1, by go_num, by omega, hid (fun t ht => ?_), hw⟩
          by_cases e : t = j
          · rw [e, Ey.out]
          · exact hz.out t (by omega)
        case measure => simp [intOf]; omega
      · have e0 : (y != 0) = true := by simp [c]
        have C2 := hid (C1.out y)
        rw [e0] at C2
        have hLj := hid (show L = (j : Int) by
          have hjl : j < xs.length := by rw [En.out]; exact hlt
          have e1 : leadE xs = j := leadE_eq hjl (by rw [Ey.out]; exact c) hz.out
          rw [← HL.out]; unfold leadV
          rw [e1, if_pos hjl])
        go_wp2_with (go_at_call 93; refine (C2.out _).mono ?_; rintro _ _ ⟨rfl, rfl⟩)
        go_ret
        exact ⟨ret_int hLj.out.symm, hw⟩
    · obtain rfl : n = j := by omega
      have hLj := hid (show L = -1 by
        have e1 : leadE xs = xs.length := leadE_all fun t ht => hz.out t (by rw [← En.out]; exact ht)
        rw [← HL.out]; unfold leadV
        rw [e1, if_neg (Nat.lt_irrefl _)])
      go_wp2_with fail
      go_ret
      exact ⟨ret_int hLj.out.symm, hw⟩
end Go.Proofs.Ytjdbkbbhjiemdaa
