import Derived.Test.YthomeenmcajmdaaGreatDoorBun22
import Derived.Test.YthomeenmcajmdaaGreatDoorSv1
import Derived.Test.YthomeenmcajmdaaGreatDoorBun18
import Derived.Test.YthomeenmcajmdaaGreatDoorBun23
import Derived.Test.YthomeenmcajmdaaGreatDoorBun17
import Derived.Deep.RegionHeld3
namespace Go.Proofs.YthomeenmcajmdaaGreatDoor
open Go.RowKit Go.Maps
def squareB (p r c : Int) (xs : List Int) : Bool := decide (r = c) && matB p r c xs
theorem squareB_ok {p : Int} {n : Nat} {xs : List Int} (ok : MatOk p n n xs) : squareB p n n xs = true := by
  unfold squareB
  rw [decide_eq_true rfl, ok.b]; rfl
set_option maxHeartbeats 1000000 in
theorem krSquare (p r c : Int) (v : Value) (xs : List Int) (w : World) (h0 : 0 ≤ p) (h1 : p ≤ 18446744073709551615) (hv : Ints .u64 w v xs) (hx : U64s xs) :
    Calls Tryz.prog 114 #[.int .u64 p, matV r c v] w (Ret (.bool (squareB p r c xs)) w) := by
  have C1 := hid fun (W : World) (hW : Ext w W) => mxRight p r c v xs W h0 h1 (hv.ext hW) hx
  obtain ⟨a, cap, rfl, k1, k2, k3⟩ := hv
  clear k3 hx
  unfold squareB
  unfold matV at C1
  unfold matV
  have hA := hid (Blk.new w 26 #[.int .i64 r, .int .i64 c, .slice a xs.length cap])
  obtain ⟨b0, b1, b2⟩ := hA.out.at3
  obtain ⟨B, hB⟩ : ∃ B, matB p r c xs = B := ⟨_, rfl⟩
  rw [hB] at C1 ⊢
  clear hB
  by_cases e : r = c
  · have e0 : (r == c) = true := by simp [e]
    rw [decide_eq_true e]
    clear e
    go_enter Tryz.func114, Tryz.ntmps114
    go_wp2_with (go_at_call 27; refine (C1.out _ (by repeat (first | exact Ext.refl _ | assumption | refine Ext.drew ?_ | refine Ext.drewN ?_ _ | refine Ext.alloc ?_ _ | refine Ext.trans ?_ (by assumption)))).mono ?_; rintro _ w1 ⟨rfl, x1⟩)
    go_ret
    exact ⟨ret_bool (by simp), Ext.trans (by repeat (first | exact Ext.refl _ | assumption | refine Ext.drew ?_ | refine Ext.drewN ?_ _ | refine Ext.alloc ?_ _ | refine Ext.trans ?_ (by assumption))) x1⟩
  · have e0 : (r == c) = false := by simp [e]
    rw [decide_eq_false e]
    clear e
    go_enter Tryz.func114, Tryz.ntmps114
    go_wp2_with fail
    go_ret
    exact ⟨ret_bool (by simp), (by repeat (first | exact Ext.refl _ | assumption | refine Ext.drew ?_ | refine Ext.drewN ?_ _ | refine Ext.alloc ?_ _ | refine Ext.trans ?_ (by assumption)))⟩
def besideB (p r c : Int) (xs b : List Int) : Bool := squareB p r c xs && vecB p r b
theorem besideB_ok {p : Int} {n : Nat} {xs b : List Int} (ok : MatOk p n n xs) (hb : b.length = n) (hr : Rng p b) : besideB p n n xs b = true := by
  unfold besideB
  rw [squareB_ok ok, vecB_yes ok.hp hr hb]; rfl
set_option maxHeartbeats 1000000 in
theorem krBeside (p r c : Int) (v u : Value) (xs b : List Int) (w : World) (h0 : 0 ≤ p) (h1 : p ≤ 18446744073709551615) (hv : Ints .u64 w v xs) (hx : U64s xs) (hu : Ints .u64 w u b) (hb : U64s b) :
    Calls Tryz.prog 139 #[.int .u64 p, matV r c v, u] w (Ret (.bool (besideB p r c xs b)) w) := by
  have C1 := hid fun (W : World) (hW : Ext w W) => krSquare p r c v xs W h0 h1 (hv.ext hW) hx
  have C2 := hid fun (W : World) (hW : Ext w W) => has_any p u b W h0 h1 (hu.ext hW) hb
  obtain ⟨a, cap, rfl, k1, k2, k3⟩ := hv
  obtain ⟨a', cap', rfl, k1', k2', k3'⟩ := hu
  clear k3 k3' hx hb
  unfold besideB vecB
  unfold matV at C1
  unfold matV
  have hA := hid (Blk.new w 26 #[.int .i64 r, .int .i64 c, .slice a xs.length cap])
  obtain ⟨b0, b1, b2⟩ := hA.out.at3
  obtain ⟨B, hB⟩ : ∃ B, hasB p b = B := ⟨_, rfl⟩
  rw [hB] at C2 ⊢
  cases hS : squareB p r c xs
  · rw [hS] at C1
    clear hB hS
    go_enter Tryz.func139, Tryz.ntmps139
    go_wp2_with (go_at_call 114; refine (C1.out _ (by repeat (first | exact Ext.refl _ | assumption | refine Ext.drew ?_ | refine Ext.drewN ?_ _ | refine Ext.alloc ?_ _ | refine Ext.trans ?_ (by assumption)))).mono ?_; rintro _ w1 ⟨rfl, x1⟩)
    go_ret
    exact ⟨ret_bool (by simp), Ext.trans (by repeat (first | exact Ext.refl _ | assumption | refine Ext.drew ?_ | refine Ext.drewN ?_ _ | refine Ext.alloc ?_ _ | refine Ext.trans ?_ (by assumption))) x1⟩
  · rw [hS] at C1
    clear hB hS
    by_cases e : (b.length : Int) = r
    · have e0 : ((b.length : Int) == r) = true := by simp [e]
      rw [decide_eq_true e]
      clear e
      go_enter Tryz.func139, Tryz.ntmps139
      go_wp2_with (first
        | (go_at_call 114; refine (C1.out _ (by repeat (first | exact Ext.refl _ | assumption | refine Ext.drew ?_ | refine Ext.drewN ?_ _ | refine Ext.alloc ?_ _ | refine Ext.trans ?_ (by assumption)))).mono ?_; rintro _ w1 ⟨rfl, x1⟩; obtain ⟨d0, d1, d2⟩ := (hA.out.ext x1).at3)
        | (go_at_call 60; refine (C2.out _ (Ext.trans (by repeat (first | exact Ext.refl _ | assumption | refine Ext.drew ?_ | refine Ext.drewN ?_ _ | refine Ext.alloc ?_ _ | refine Ext.trans ?_ (by assumption))) x1)).mono ?_; rintro _ _ ⟨rfl, rfl⟩))
      go_ret
      exact ⟨ret_bool (by simp), Ext.trans (by repeat (first | exact Ext.refl _ | assumption | refine Ext.drew ?_ | refine Ext.drewN ?_ _ | refine Ext.alloc ?_ _ | refine Ext.trans ?_ (by assumption))) x1⟩
    · have e0 : ((b.length : Int) == r) = false := by simp [e]
      rw [decide_eq_false e]
      clear e
      go_enter Tryz.func139, Tryz.ntmps139
      go_wp2_with (go_at_call 114; refine (C1.out _ (by repeat (first | exact Ext.refl _ | assumption | refine Ext.drew ?_ | refine Ext.drewN ?_ _ | refine Ext.alloc ?_ _ | refine Ext.trans ?_ (by assumption)))).mono ?_; rintro _ w1 ⟨rfl, x1⟩; obtain ⟨d0, d1, d2⟩ := (hA.out.ext x1).at3)
      go_ret
      exact ⟨ret_bool (by simp), Ext.trans (by repeat (first | exact Ext.refl _ | assumption | refine Ext.drew ?_ | refine Ext.drewN ?_ _ | refine Ext.alloc ?_ _ | refine Ext.trans ?_ (by assumption))) x1⟩
def negL (p : Int) (xs : List Int) : List Int := tab xs.length fun k => (0 - xs.getD k 0) % p
theorem negL_len (p : Int) (xs : List Int) : (negL p xs).length = xs.length := tab_len _ _
theorem ints_at {l : List Int} {k : Nat} (h : k < l.length) : ((l.map (Value.int .u64)).toArray)[k]? = some (.int .u64 (l.getD k 0)) := by
  simp [List.getD, h]
theorem ints_set (l : List Int) (k : Nat) (x : Int) : ((l.map (Value.int .u64)).toArray).setIfInBounds k (.int .u64 x) = ((l.set k x).map (Value.int .u64)).toArray := by
  simp [List.map_set]
theorem made_cellsN (n : Nat) : (madeCells #[Value.int .u64 0] n) = ((List.replicate n (0 : Int)).map (Value.int .u64)).toArray := by
  simp [madeCells]
  apply Array.ext
  · simp
  · intro i h1 h2
    simp [Nat.mod_one]
theorem own_of_blk {w : World} {g base : Nat} {l : List Int} (h : Blk w g 22 (l.map (Value.int .u64)).toArray) (hb : base ≤ g) (hl : l.length ≤ 1000000) : w.ownsRow base 22 1 (.slice (some ⟨g, 0, none⟩) l.length l.length) l.length (l.map (Value.int .u64)) :=
  ⟨by simp, .inr ⟨g, l.length, _, rfl, hb, h, Nat.le_refl _, by unfold maxLen; omega, by simp, by have := List.take_of_length_le (l := l.map (Value.int .u64)) (i := l.length) (by simp); simpa using this⟩⟩
set_option maxRecDepth 100000 in
set_option maxHeartbeats 1000000 in
theorem krFrom0 (p : Int) (v : Value) (xs : List Int) (w : World) (hp : rightB p = true) (hv : Ints .u64 w v xs) (hx : Rng p xs) (hl : xs.length ≤ 64) :
    Calls Tryz.prog 144 #[.int .u64 p, v] w fun e w' => ∃ g, e = .returned (.slice (some ⟨g, 0, none⟩) xs.length xs.length) ∧ w'.ownsRow w.heap.size 22 1 (.slice (some ⟨g, 0, none⟩) xs.length xs.length) xs.length ((negL p xs).map (Value.int .u64)) ∧ Ext w w' := by
  have hp2 := rightB_true hp
  obtain ⟨a, cap, rfl, k1, k2, k3⟩ := hv
  have K3 := hid k3; have Hx := hid hx; have Hp := hid hp
  clear k3 hp hx
  obtain ⟨n, hn⟩ : ∃ n, xs.length = n := ⟨_, rfl⟩
  have Hn := hid hn
  rw [hn] at k1 K3 hl ⊢
  clear hn
  have hmk := make_ints (P := Tryz.prog) 24 22 .u64 8 (by omega) (by kernel_rfl) (by kernel_rfl) n n (Nat.le_refl _) (by omega)
  have hrow := hid (show Blk (w.alloc (.cells (madeCells #[Value.int .u64 0] n) 22)) w.heap.size 22 ((List.replicate n (0 : Int)).map (Value.int .u64)).toArray from by rw [← made_cellsN]; exact Blk.new _ _ _)
  have hrl := hid (List.length_replicate (n := n) (a := (0 : Int)))
  go_enter Tryz.func144, Tryz.ntmps144
  go_wp2_with fail
  obtain ⟨g, hg⟩ : ∃ g, w.heap.size = g := ⟨_, rfl⟩
  have hgw : w.heap.size ≤ g := by omega
  obtain ⟨w0, hw0⟩ : ∃ w0, w.alloc (.cells (madeCells #[Value.int .u64 0] n) 22) = w0 := ⟨_, rfl⟩
  have hx0 : Ext w w0 := hw0 ▸ (Ext.refl w).alloc _
  rw [hg, hw0] at hrow
  rw [hg, hw0]
  clear hg hw0 hmk
  go_loopw [13] (fun i wr => ∃ (k : Nat) (l : List Int), i = .int .i64 k ∧ k ≤ n ∧ Hid (l.length = n) ∧ Hid (∀ j, l.getD j 0 = if j < k then (0 - xs.getD j 0) % p else 0) ∧ Blk wr g 22 (l.map (Value.int .u64)).toArray ∧ Ext w wr) (fun i _ => n - (intOf i).toNat)
  case atStart => exact ⟨0, _, rfl, Nat.zero_le _, hrl, hid (fun j => by rw [replicate_get]; simp), hrow.out, hx0⟩
  case round =>
    obtain ⟨k, l, rfl, hk, hln, hl2, hrw, hxw⟩ := hrel
    clear hx0
    have Hrw := hid hrw
    clear hrw
    by_cases hlt : k < n
    · obtain ⟨b, off, rfl, hb, hcell⟩ := K3.out (by omega)
      have g1 := (hxw.cells _ _ hb).trans (hcell k hlt)
      have r1 := Hx.out.get (k := k) (by rw [Hn.out]; exact hlt)
      obtain ⟨y, ey⟩ : ∃ y, xs.getD k 0 = y := ⟨_, rfl⟩
      rw [ey] at g1 r1
      obtain ⟨r, er, r3, r4⟩ := name_mod (p := p) (0 - y) hp2.1
      have Er := hid er; have Ey := hid ey
      clear er ey hcell
      go_wp2_with fail
      refine (sub_as p 0 y r _ Hp.out (by omega) (by omega) r1.1 r1.2 Er.out).mono ?_
      rintro _ w3 ⟨rfl, x3⟩
      have g2 := (Hrw.out.ext x3).cell k
      rw [ints_at (by rw [hln.out]; exact hlt)] at g2
      have f2 := (Hrw.out.ext x3).frozen k
      go_wp2_with fail
      go_roundw
      case rel =>
        have hs := (Hrw.out.ext x3).set_ k (.int .u64 r)
        rw [ints_set] at hs
        refine ⟨k + 1, l.set k r, by go_num, by omega, hid (by rw [List.length_set]; exact hln.out), hid (fun j => ?_), hs, (hxw.trans x3).setCell (p := ⟨g, k, none⟩) hgw _⟩
        rw [set_get l k j r (by rw [hln.out]; omega), hl2.out]
        by_cases e : k = j
        · subst e
          rw [if_pos rfl, if_pos (by omega), Ey.out, Er.out]
        · rw [if_neg e]
          by_cases e2 : j < k
          · rw [if_pos e2, if_pos (by omega)]
          · rw [if_neg e2, if_neg (by omega)]
      case measure => simp [intOf]; omega
    · obtain rfl : n = k := by omega
      go_wp2_with fail
      go_ret
      have e : negL p xs = l := list_ext (by rw [negL_len, Hn.out, hln.out]) fun j hj => by
        rw [negL_len, Hn.out] at hj
        rw [hl2.out, if_pos hj]
        exact tab_get _ (by rw [Hn.out]; exact hj)
      have ho := own_of_blk Hrw.out hgw (by rw [hln.out]; omega)
      rw [hln.out] at ho
      exact ⟨g, rfl, e ▸ ho, hxw⟩
end Go.Proofs.YthomeenmcajmdaaGreatDoor
namespace Go.Proofs.YthomeenmcajmdaaGreatDoor
open Go.RowKit Go.Maps
def powsL (p : Int) (n : Nat) (xs v : List Int) (many : Nat) : List (List Int) := (List.range many).map fun k => powL p n xs k v
theorem powsL_len (p : Int) (n : Nat) (xs v : List Int) (many : Nat) : (powsL p n xs v many).length = many := by simp [powsL]
theorem powsL_get {p : Int} {n many k : Nat} {xs v : List Int} (h : k < many) : (powsL p n xs v many).getD k [] = powL p n xs k v := by simp [powsL, List.getD, h]
def roomS (us : List Value) (m : Nat) : Array Value := (us ++ List.replicate m (Value.slice none 0 0)).toArray
theorem roomS_get {us : List Value} {m j : Nat} (h : j < us.length) : (roomS us m)[j]? = some (us.getD j undef) := by
  simp only [roomS, List.getElem?_toArray]
  rw [List.getElem?_append_left h]
  simp [List.getD, h]
theorem roomS_room {us : List Value} {m j : Nat} (h1 : us.length ≤ j) (h : j < us.length + m) : (roomS us m)[j]? = some (.slice none 0 0) := by
  simp only [roomS, List.getElem?_toArray]
  rw [List.getElem?_append_right h1, List.getElem?_replicate, if_pos (by omega)]
theorem roomS_set {us : List Value} {m k : Nat} (h : us.length = k) (u : Value) : (roomS us (m + 1)).setIfInBounds k u = roomS (us ++ [u]) m := by
  subst h
  simp [roomS, List.replicate_succ]
theorem made_room (n : Nat) : (madeCells #[Value.slice none 0 0] n) = roomS [] n := by
  unfold roomS madeCells
  rw [Array.ext_iff]
  refine ⟨by simp, fun i h1 h2 => ?_⟩
  have e : i % 1 = 0 := by omega
  simp [e]
theorem room_apart {W : World} {g m : Nat} {t : TypeId} {us : List Value} (hB : Blk W g t (roomS us m)) (hu : ∀ j, j < us.length → ∃ a l c, us.getD j undef = .slice a l c) {v : Value} {xs : List Int} (hi : Ints .u64 W v xs) (hl : 0 < xs.length) : ∀ b, v.ownBlock = some b → b ≠ g := fun b hb e => by
  obtain ⟨a, cap, rfl, h1, h2, h3⟩ := hi
  obtain ⟨b', off, rfl, hb', hc⟩ := h3 hl
  have e1 : b' = b := by simpa [Value.ownBlock] using hb
  subst e1; subst e
  have hc0 := hc 0 hl
  rw [hB.cell] at hc0
  rcases Nat.lt_or_ge (off + 0) us.length with c | c
  · obtain ⟨a, l, c', e⟩ := hu _ c
    rw [roomS_get c, e] at hc0
    cases hc0
  · rcases Nat.lt_or_ge (off + 0) (us.length + m) with c' | c'
    · rw [roomS_room c c'] at hc0
      cases hc0
    · rw [roomS, List.getElem?_toArray, List.getElem?_eq_none (by simp; omega)] at hc0
      cases hc0
theorem Ints.setOther {k : IntKind} {w : World} {v : Value} {xs : List Int} (h : Ints k w v xs) {g : Nat} (hg : ∀ b, v.ownBlock = some b → b ≠ g) (i : Nat) (u : Value) : Ints k (w.setCell ⟨g, i, none⟩ u) v xs :=
  h.grown (setCell_grown w ⟨g, i, none⟩ u) fun b hb e => hg b hb (by injection e with e; exact e.symm)
def RetPows (ls : List (List Int)) (w : World) (e : Ending) (w' : World) : Prop := ∃ (g : Nat) (us : List Value), e = .returned (.tuple #[.slice (some ⟨g, 0, none⟩) ls.length ls.length, .int .i64 0]) ∧ us.length = ls.length ∧ Blk w' g 24 us.toArray ∧ (∀ j, j < ls.length → Ints .u64 w' (us.getD j undef) (ls.getD j [])) ∧ Ext w w'
set_option maxRecDepth 100000 in
set_option maxHeartbeats 1000000 in
theorem krPowers (p : Int) (n many : Nat) (v u : Value) (xs b : List Int) (w : World) (ok : MatOk p n n xs) (hv : Ints .u64 w v xs) (hu : Ints .u64 w u b) (hb : b.length = n) (hr : Rng p b) (hmany : many ≤ 200) :
    Calls Tryz.prog 140 #[.int .u64 p, matV n n v, u, .int .i64 many] w (RetPows (powsL p n xs b many) w) := by
  have hp2 := rightB_true ok.hp
  have C1 := hid fun (W : World) (hW : Ext w W) => krBeside p n n v u xs b W (by omega) (by omega) (hv.ext hW) ok.u64 (hu.ext hW) (hr.u64 hp2.2)
  rw [besideB_ok ok hb hr] at C1
  have C2 := hid fun (W : World) (z : Value) (zs : List Int) (hW : Ext w W) (hz : Ints .u64 W z zs) (hr : Rng p zs) (hl : zs.length = n) => mxTimes_yes p n n v z xs zs W ok (hv.ext hW) hz hr hl
  have C3 := hid fun (W : World) (hW : Ext w W) => clone_any u b W (hu.ext hW) (by have := ok.hm; omega)
  have hn := ok.hn
  have PL := hid fun (k : Nat) => powL_len (p := p) (xs := xs) hb k
  have PR := hid fun (k : Nat) => powL_rng (n := n) (xs := xs) hp2.1 hr k
  obtain ⟨F, hF⟩ : ∃ F : Nat → List Int, (fun k => powL p n xs k b) = F := ⟨_, rfl⟩
  have HF := hid (fun k => (congrFun hF k : powL p n xs k b = F k))
  have PG := hid fun (k : Nat) (h : k < many) => (powsL_get (p := p) (n := n) (xs := xs) (v := b) h).trans (HF.out k)
  have PN := hid (powsL_len p n xs b many)
  obtain ⟨L, hL⟩ : ∃ L, powsL p n xs b many = L := ⟨_, rfl⟩
  rw [hL] at PG PN ⊢
  unfold RetPows
  rw [PN.out]
  simp only [HF.out] at PL PR
  have PS := hid (show ∀ k, F (k + 1) = timesL p n n xs (F k) from fun k => by rw [← HF.out, ← HF.out]; rfl)
  have P0 := hid (show F 0 = b from (HF.out 0).symm)
  obtain ⟨a, cap, rfl, k1, k2, k3⟩ := hv
  obtain ⟨a', cap', rfl, k1', k2', k3'⟩ := hu
  rw [hb] at C1 C3 k1'
  rw [hb]
  unfold matV at C1 C2
  unfold matV
  have hA := hid (Blk.new w 26 #[.int .i64 (n : Int), .int .i64 (n : Int), .slice a xs.length cap])
  have hmk := make_rows (P := Tryz.prog) 56 24 24 (by omega) (by kernel_rfl) (by kernel_rfl) many many (Nat.le_refl _) (by omega)
  clear k3 k3' ok hr hF hL hb
  go_enter Tryz.func140, Tryz.ntmps140
  go_wp2_with (go_at_call 139; refine (C1.out _ (by repeat (first | exact Ext.refl _ | assumption | refine Ext.drew ?_ | refine Ext.drewN ?_ _ | refine Ext.alloc ?_ _ | refine Ext.trans ?_ (by assumption)))).mono ?_; rintro _ w1 ⟨rfl, x1⟩)
  obtain ⟨g, hg⟩ : ∃ g, w1.heap.size = g := ⟨_, rfl⟩
  have x0 : Ext w w1 := Ext.trans (by repeat (first | exact Ext.refl _ | assumption | refine Ext.drew ?_ | refine Ext.drewN ?_ _ | refine Ext.alloc ?_ _ | refine Ext.trans ?_ (by assumption))) x1
  have hA1 := hid (hA.out.ext x1)
  obtain ⟨w2, hw2⟩ : ∃ w2, w1.alloc (.cells (madeCells #[Value.slice none 0 0] many) 24) = w2 := ⟨_, rfl⟩
  have hB0 : Blk w2 g 24 (roomS [] many) := by rw [← made_room, ← hw2, ← hg]; exact Blk.new _ _ _
  have x2 : Ext w1 w2 := hw2 ▸ (Ext.refl w1).alloc _
  have hs2 : w2.heap.size = g + 1 := by rw [← hw2, ← hg]; simp
  rw [hg, hw2]
  clear hw2 hmk
  go_loopw [29] (fun i wr => ∃ (k : Nat) (us : List Value), i = .int .i64 k ∧ k ≤ many ∧ Hid (us.length = k) ∧ Hid (Blk wr g 24 (roomS us (many - k))) ∧ Hid (∀ j, j < k → Ints .u64 wr (us.getD j undef) (F j) ∧ ∃ a l c, us.getD j undef = .slice a l c) ∧ Ext w1 wr) (fun i _ => many - (intOf i).toNat)
  case atStart => exact ⟨0, [], rfl, Nat.zero_le _, hid rfl, hid hB0, hid (fun j hj => absurd hj (Nat.not_lt_zero _)), x2⟩
  case round =>
    obtain ⟨k, us, rfl, hk, hul, hB, hus, hxw⟩ := hrel
    clear hB0 x2
    have hgw : w1.heap.size ≤ g := by omega
    by_cases hlt : k < many
    · have hmk : many - k = many - (k + 1) + 1 := by omega
      rw [hmk] at hB
      have c0 := hB.out.cell k
      rw [roomS_room (by rw [hul.out]; exact Nat.le_refl _) (by rw [hul.out]; omega)] at c0
      have f0 := hB.out.frozen k
      clear hmk
      have KEY := hid fun (W : World) (u : Value) (hW : Ext wr W) (hi : Ints .u64 W u (F k)) (hs : ∃ a l c, u = .slice a l c) => (show Blk (W.setCell ⟨g, k, none⟩ u) g 24 (roomS (us ++ [u]) (many - (k + 1))) ∧ (∀ j, j < k + 1 → Ints .u64 (W.setCell ⟨g, k, none⟩ u) ((us ++ [u]).getD j undef) (F j) ∧ ∃ a l c, (us ++ [u]).getD j undef = .slice a l c) from by
        have hBW := hB.out.ext hW
        refine ⟨?_, fun j hj => ?_⟩
        · have := hBW.set_ k u
          rwa [roomS_set hul.out] at this
        · have hap : ∀ (z : Value) (j : Nat), Ints .u64 W z (F j) → ∀ b, z.ownBlock = some b → b ≠ g := fun z j hz => room_apart hBW (fun j hj => (hus.out j (by rw [← hul.out]; exact hj)).2) hz (by rw [PL.out]; omega)
          rcases Nat.lt_or_ge j k with c | c
          · rw [getD_app _ _ _ (by rw [hul.out]; exact c)]
            have h1 := (hus.out j c).1.ext hW
            exact ⟨h1.setOther (hap _ j h1) k u, (hus.out j c).2⟩
          · obtain rfl : j = k := by omega
            rw [getD_end _ _ _ hul.out.symm]
            exact ⟨hi.setOther (hap _ j hi) j u, hs⟩)
      rcases Nat.eq_zero_or_pos k with hk0 | hk0
      · have b0 : ((k : Int) == 0) = true := by rw [hk0]; rfl
        have FK : F k = b := by rw [hk0]; exact P0.out
        have HFK := hid FK
        have HK0 := hid hk0
        clear hk0 FK
        have FKL := hid (show (F k).length = n from PL.out k)
        go_wp2_with (go_at_call 36; refine (C3.out _ (x0.trans hxw)).mono ?_; rintro _ w5 ⟨a5, c5, rfl, q1, q2, q3, x5⟩
                     have d0 := (x5.cells _ _ (cell_lt c0)).trans c0
                     have e0 := (hB.out.ext x5).frozen k)
        have hi5 : Ints .u64 w5 (.slice a5 n c5) (F k) := by
          rw [HFK.out]
          have hbl : b.length = n := by rw [← HFK.out]; exact FKL.out
          obtain ⟨g5, rfl, q4, q5⟩ := q3 (by omega)
          exact q5.ints' hbl q1 q2
        have hkey := KEY.out w5 (.slice a5 n c5) x5 hi5 ⟨_, _, _, rfl⟩
        go_roundw
        case rel => exact ⟨k + 1, us ++ [.slice a5 n c5], by go_num, by omega, hid (by rw [List.length_append, hul.out]; rfl), hid hkey.1, hid hkey.2, (hxw.trans x5).setCell (p := ⟨g, k, none⟩) hgw _⟩
        case measure => simp [intOf]; omega
      · have b0 : ((k : Int) == 0) = false := by rw [beq_eq_false_iff_ne]; omega
        obtain ⟨m, hmk⟩ : ∃ m, k = m + 1 := ⟨k - 1, by omega⟩
        obtain ⟨u1, hu1⟩ : ∃ u1, us.getD m undef = u1 := ⟨_, rfl⟩
        have c1 := hB.out.cell m
        rw [roomS_get (by rw [hul.out]; omega), hu1] at c1
        obtain ⟨hi1, a1, l1, cp1, e1⟩ := hus.out m (by omega)
        rw [hu1] at hi1 e1
        subst e1
        have HI1 := hid hi1
        have HK0 := hid hk0
        have hw0 : IntKind.i64.wrap ((k : Int) - 1) = (m : Int) := by rw [show (k : Int) - 1 = (m : Int) by omega]; rw [IntKind.wrap_i64]; omega
        have hw1 : (0 : Int) ≤ (m : Int) := by omega
        have hw2 : (m : Int) < (many : Int) := by omega
        have hw3 : m < many := by omega
        have hFS : F k = timesL p n n xs (F m) := by rw [hmk]; exact PS.out m
        have HFS := hid hFS; have HMK := hid hmk
        have hAr := hA1.out.ext hxw
        obtain ⟨b1, b2, b3⟩ := hAr.at3
        have fs := hid fun (W : World) (hW : Ext wr W) => (show (W.cell? ⟨w.heap.size, 0, none⟩ = some (.int .i64 (n : Int)) ∧ W.cell? ⟨w.heap.size, 1, none⟩ = some (.int .i64 (n : Int)) ∧ W.cell? ⟨w.heap.size, 2, none⟩ = some (.slice a xs.length cap)) ∧ W.cell? ⟨g, m, none⟩ = some (.slice a1 l1 cp1) from
          ⟨(hAr.ext hW).at3, (hW.cells _ _ (cell_lt c1)).trans c1⟩)
        have fs2 := hid fun (W : World) (u : Value) (hW : Ext wr W) => (show ((W.setCell ⟨g, k, none⟩ u).cell? ⟨w.heap.size, 0, none⟩ = some (.int .i64 (n : Int)) ∧ (W.setCell ⟨g, k, none⟩ u).cell? ⟨w.heap.size, 1, none⟩ = some (.int .i64 (n : Int)) ∧ (W.setCell ⟨g, k, none⟩ u).cell? ⟨w.heap.size, 2, none⟩ = some (.slice a xs.length cap)) ∧ (W.setCell ⟨g, k, none⟩ u).cell? ⟨g, m, none⟩ = some (.slice a1 l1 cp1) from by
          have hgl := hA1.out.lt
          refine ⟨((hAr.ext hW).grown (setCell_grown W ⟨g, k, none⟩ u) (fun e => by injection e with e; exact absurd (show g = w.heap.size from e) (by omega))).at3, ?_⟩
          rw [((hB.out.ext hW).set_ k u).cell m, Array.getElem?_setIfInBounds_ne (by omega), ← (hB.out.ext hW).cell m, (hW.cells _ _ (cell_lt c1)).trans c1])
        clear hk0 hi1 hu1 hAr hFS hmk
        go_wp2_with fail
        go_region_held3 (fun w' => (w'.cell? ⟨w.heap.size, 0, none⟩ = some (.int .i64 (n : Int)) ∧ w'.cell? ⟨w.heap.size, 1, none⟩ = some (.int .i64 (n : Int)) ∧ w'.cell? ⟨w.heap.size, 2, none⟩ = some (.slice a xs.length cap)) ∧ w'.cell? ⟨g, m, none⟩ = some (.slice a1 l1 cp1))
          (first | assumption | exact fs.out _ ((Ext.refl wr).drew) | exact fs.out _ (((Ext.refl wr).drew).trans x5) | exact fs2.out _ _ (((Ext.refl wr).drew).trans x5))
          ((first
            | (go_at_call 21; refine (C2.out _ _ _ ((x0.trans hxw).trans ((Ext.refl wr).drew)) (HI1.out.ext ((Ext.refl wr).drew)) (PR.out m) (PL.out m)).mono ?_; rintro _ w5 ⟨z5, rfl, hi5, x5⟩
               have d0 := (((Ext.refl wr).drew.trans x5).cells _ _ (cell_lt c0)).trans c0
               have e0 := (hB.out.ext ((Ext.refl wr).drew.trans x5)).frozen k
               rw [← HFS.out] at hi5
               have HI5 := hid hi5
               obtain ⟨a5, c5, rfl, -, -, -⟩ := hi5)))
        have x6 : Ext wr w5 := (Ext.refl wr).drew.trans x5
        have hkey := KEY.out w5 (.slice a5 (F k).length c5) x6 HI5.out ⟨_, _, _, rfl⟩
        go_wp2_with fail
        go_roundw
        case rel => exact ⟨k + 1, us ++ [.slice a5 (F k).length c5], by go_num, by omega, hid (by rw [List.length_append, hul.out]; rfl), hid hkey.1, hid hkey.2, (hxw.trans x6).setCell (p := ⟨g, k, none⟩) hgw _⟩
        case measure => simp [intOf]; omega
    · obtain rfl : k = many := by omega
      rw [Nat.sub_self] at hB
      have hBf : Blk wr g 24 us.toArray := by
        have := hB.out
        unfold roomS at this
        rwa [List.replicate_zero, List.append_nil] at this
      go_wp2_with fail
      go_ret2
      exact ⟨g, us, rfl, hul.out, hBf, fun j hj => by rw [PG.out j hj]; exact (hus.out j hj).1, x0.trans hxw⟩
end Go.Proofs.YthomeenmcajmdaaGreatDoor
