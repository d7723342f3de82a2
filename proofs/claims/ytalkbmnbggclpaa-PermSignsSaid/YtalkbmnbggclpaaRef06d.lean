/- The document's own answer of layer 6 on rings: Rings; rows of rows of whole numbers. -/
import Derived.Test.YtalkbmnbggclpaaRef06b
namespace Go.Proofs.Ytalkbmnbggclpaa
open Go.RowKit Go.Maps

/-- in the world w the slice v reads as rows of whole numbers -/
def IntsL (w : World) (v : Value) (ls : List (List Int)) : Prop :=
  ∃ (a : Option Addr) (cap : Nat), v = .slice a ls.length cap ∧ ls.length ≤ cap ∧ cap ≤ 9223372036854775807 ∧
    (0 < ls.length → ∃ b off, a = some ⟨b, off, none⟩ ∧ b < w.heap.size ∧ ∀ j, j < ls.length → ∃ u, w.cell? ⟨b, off + j, none⟩ = some u ∧ Ints .i64 w u (ls.getD j []))
theorem IntsL.ext {w w' : World} {v : Value} {ls : List (List Int)} (h : IntsL w v ls) (he : Ext w w') : IntsL w' v ls := by
  obtain ⟨a, cap, h1, h2, h3, h4⟩ := h
  refine ⟨a, cap, h1, h2, h3, fun hp => ?_⟩
  obtain ⟨b, off, ha, hb, hc⟩ := h4 hp
  refine ⟨b, off, ha, Nat.lt_of_lt_of_le hb he.size, fun j hj => ?_⟩
  obtain ⟨u, c1, c2⟩ := hc j hj
  exact ⟨u, (he.cells _ _ hb).trans c1, c2.ext he⟩
theorem IntsL.nil {w : World} : IntsL w (.slice none 0 0) [] := ⟨none, 0, rfl, by simp, by omega, by simp⟩
/-- what a call answers: rows of whole numbers -/
def RetII (ls : List (List Int)) (w : World) (e : Ending) (w' : World) : Prop := ∃ v, e = .returned v ∧ IntsL w' v ls ∧ Ext w w'

/-- rows that are gathered: the row of them, and each one's own -/
structure RowsI (w0 w : World) (rv : Value) (us : List Value) (ls : List (List Int)) : Prop where
  own : w.ownsRow w0.heap.size 22 1 rv us.length us
  len : us.length = ls.length
  row : ∀ j, j < ls.length → w.ownsRow w0.heap.size 3 1 (us.getD j undef) (ls.getD j []).length ((ls.getD j []).map (Value.int .i64))
  ext : Ext w0 w
theorem RowsI.start (w : World) : RowsI w w (.slice none 0 0) [] [] := ⟨World.ownsRow_nil _ _ _ _, rfl, fun _ h => absurd h (Nat.not_lt_zero _), Ext.refl _⟩
theorem RowsI.ext' {w0 w w' : World} {rv : Value} {us : List Value} {ls : List (List Int)} (h : RowsI w0 w rv us ls) (y : Ext w w') : RowsI w0 w' rv us ls :=
  ⟨ownsRow_ext h.own y, h.len, fun j hj => ownsRow_ext (h.row j hj) y, h.ext.trans y⟩
/-- a row of another kind grows: all stays -/
theorem RowsI.grown {w0 w w' : World} {rv v : Value} {us xs : List Value} {ls : List (List Int)} (h : RowsI w0 w rv us ls) {base n : Nat} (hv : w.ownsRow base 3 1 v n xs) (hb : w0.heap.size ≤ base)
    (ha : ∀ j, j < ls.length → (us.getD j undef).ownBlock = none ∨ (us.getD j undef).ownBlock ≠ v.ownBlock) (hg : w.grownBy w' v.ownBlock) : RowsI w0 w' rv us ls :=
  ⟨h.own.kept hg (ownsRow_apart h.own hv (by decide)), h.len, fun j hj => (h.row j hj).kept hg (ha j hj), h.ext.grown hg fun k e => Nat.le_trans hb (hv.lt k e).1⟩
theorem getD_snoc {α : Type} (l : List α) (x d : α) (j : Nat) : (l ++ [x]).getD j d = if j < l.length then l.getD j d else if j = l.length then x else d := by
  simp only [List.getD, List.getElem?_append]
  split
  · rfl
  · split
    · rename_i h; rw [h, Nat.sub_self]; rfl
    · rw [List.getElem?_eq_none (by simp; omega)]; rfl
/-- a row is put behind -/
theorem RowsI.next {w0 w w' : World} {rv v' u : Value} {us : List Value} {ls : List (List Int)} {l : List Int} (h : RowsI w0 w rv us ls) (hu : w.ownsRow w0.heap.size 3 1 u l.length (l.map (Value.int .i64)))
    (ho : w'.ownsRow w0.heap.size 22 1 v' (us.length + 1) (us ++ [u])) (hg : w.grownBy w' rv.ownBlock) : RowsI w0 w' v' (us ++ [u]) (ls ++ [l]) := by
  refine ⟨by rw [List.length_append]; exact ho, by simp [h.len], fun j hj => ?_, h.ext.grown hg fun k e => (h.own.lt k e).1⟩
  have hlen := h.len
  rw [List.length_append, List.length_cons, List.length_nil] at hj
  rw [getD_snoc, getD_snoc]
  by_cases e : j < ls.length
  · rw [if_pos (by omega), if_pos e]
    exact (h.row j e).kept hg (ownsRow_apart (h.row j e) h.own (by decide))
  · rw [if_neg (by omega), if_neg e, if_pos (by omega), if_pos (by omega)]
    exact hu.kept hg (ownsRow_apart hu h.own (by decide))
theorem RowsI.ints {w0 w : World} {rv : Value} {us : List Value} {ls : List (List Int)} (h : RowsI w0 w rv us ls) : IntsL w rv ls := by
  have hlen := h.len
  have ho := h.own
  obtain ⟨_, ⟨rfl, h1⟩ | ⟨g, cap, cur, rfl, hg, hb, hc1, hc2, hs, ht⟩⟩ := h.own
  · obtain rfl : ls = [] := List.eq_nil_of_length_eq_zero (by omega)
    exact IntsL.nil
  · refine ⟨_, cap, by rw [hlen], by omega, by unfold maxLen at hc2; omega, fun _ => ⟨g, 0, rfl, Blk.lt (t := 22) (cs := cur) hb, fun j hj => ⟨us.getD j undef, ?_, ?_⟩⟩⟩
    · rw [Nat.zero_add, ho.cellAt j (by omega), List.getD, List.getElem?_eq_getElem (show j < us.length by omega)]; rfl
    · obtain ⟨_, _, _, _, hI⟩ := owns_ints (h.row j hj)
      exact hI
theorem info_sip : (Try.prog.info? 22).map (fun i => (i.zero, i.size, i.bytes)) = some (some (.slice none 0 0), 1, 24) := by kernel_rfl

/-- the least of the first so many of a ring? -/
def leastTo (p : List Int) (s j : Nat) : Bool := (List.range j).all fun i => decide (s ≤ itL p i s)
theorem leastTo_succ (p : List Int) (s j : Nat) : leastTo p s (j + 1) = (leastTo p s j && decide (s ≤ itL p j s)) := by
  unfold leastTo
  rw [List.range_succ, List.all_append]
  simp
theorem leastTo_all (p : List Int) (s : Nat) : leastTo p s (perL p s) = leastB p s := by
  unfold leastTo leastB ringL tab
  rw [List.all_map]
  congr 1
  funext i
  simp [Function.comp]
theorem ringsTo_none {p : List Int} {k : Nat} (h : leastB p k = false) : ringsTo p (k + 1) = ringsTo p k := by rw [ringsTo_succ, h]; rfl
theorem ringsTo_some {p : List Int} {k : Nat} (h : leastB p k = true) : ringsTo p (k + 1) = ringsTo p k ++ [ringL p k] := by rw [ringsTo_succ, h]; rfl

def lenV : Value → Nat
  | .slice _ n _ => n
  | _ => 0
set_option maxRecDepth 100000 in
set_option maxHeartbeats 1000000 in
theorem r6Rings (v : Value) (n : Nat) (p : List Int) (w : World) (hv : Ints .i64 w v p) (hp : Ord n p) (hn : n ≤ 64) : Calls Try.prog 20 #[v] w (RetII (ringsL p) w) := by
  obtain ⟨i0, hi, hz0, hz1, hz2⟩ := info_parts info_i64p
  obtain ⟨j0, hj, hj0, hj1, hj2⟩ := info_parts info_sip
  have Hp := hid hp
  have hrings : ringsL p = ringsTo p n := by unfold ringsL; rw [hp.len]
  rw [hrings]
  obtain ⟨a, cap, rfl, k1, k2, k3⟩ := hv
  have K3 := hid k3
  have el := hp.len
  rw [el] at k1 K3
  rw [el]
  have hit := hid (fun (s j : Nat) (hs : s < n) => And.intro (hp.it_lt hs j) (show itL p (j + 1) s = (p.getD (itL p j s) 0).toNat from rfl))
  clear k3 hp hrings el
  go_enter Try.func20, Try.ntmps20
  go_wp2_with fail
  go_loopw [4, 3] (fun iv rv wr => ∃ (s : Nat) (us : List Value), iv = .int .i64 s ∧ s ≤ n ∧ Hid (RowsI w wr rv us (ringsTo p s)) ∧ Hid (us.length ≤ s)) (fun iv _ _ => n - (intOf iv).toNat)
  case atStart => exact ⟨0, [], rfl, Nat.zero_le _, hid (RowsI.start w), hid (Nat.zero_le _)⟩
  case round =>
    obtain ⟨s, us, rfl, hs, HR, hus⟩ := hrel
    rename World => wo
    by_cases hlt : s < n
    · obtain ⟨b, off, rfl, hb, hc⟩ := K3.out (by omega)
      have hxo := HR.out.ext
      have cell := hid (fun (j : Nat) (hj : j < n) (W : World) (hW : Ext wo W) => ((hxo.trans hW).cells _ _ hb).trans (hc j hj))
      have per := hid (Hp.out.per hlt)
      have g1 := cell.out s hlt _ ((Ext.refl wo).alloc (.cells #[.int .i64 (s : Int)] 3))
      have h1 := (hit.out s 1 hlt).1
      have h2 := Hp.out.get hlt
      have h3 := (hit.out s 0 hlt).2
      obtain ⟨y, ey⟩ : ∃ y, p.getD s 0 = y := ⟨_, rfl⟩
      have e1 : itL p 1 s = y.toNat := by rw [← ey]; exact h3
      rw [ey] at g1 h2
      rw [e1] at h1
      obtain ⟨q, rfl⟩ := Int.eq_ofNat_of_zero_le h2.1
      rw [Int.toNat_natCast] at e1 h1
      have E1 := hid e1
      clear e1 h2 h3 hc ey
      go_wp2_with fail
      have hring0 := hid (World.ownsRow_lit (base := wo.heap.size) (e := 3) (size := 1) wo #[.int .i64 (s : Int)] 1 (Nat.le_refl _) (by decide) rfl)
      have hx1 : Ext wo (wo.alloc (.cells #[.int .i64 (s : Int)] 3)) := (Ext.refl wo).alloc _
      go_loopw [7, 5, 6] (fun kv gv lv wr => ∃ (j k : Nat) (B : Bool), kv = .int .i64 k ∧ lv = .bool B ∧ 1 ≤ j ∧ Hid (j ≤ perL p s) ∧ Hid (k = itL p j s) ∧ Hid (B = leastTo p s j) ∧ k < n ∧ j ≤ n ∧ Hid (wr.ownsRow wo.heap.size 3 1 gv j ((tab j fun i => (itL p i s : Int)).map (Value.int .i64))) ∧ Ext wo wr) (fun _ gv _ _ => perL p s - lenV gv)
      case atStart => exact ⟨1, q, true, rfl, rfl, Nat.le_refl _, hid per.out.1, hid E1.out.symm, hid (by simp [leastTo, itL]), h1, by omega, hring0, hx1⟩
      case round =>
        rename World => wi
        obtain ⟨j, k, B, rfl, rfl, hj1', hjp, hk, hB, hkn, hjn, hown, hxi⟩ := hrel
        obtain ⟨ag, cg, rfl, hlg, hIg⟩ := owns_ints hown.out
        clear hIg hlg
        have hBs := leastTo_succ p s j
        rw [← hk.out, ← hB.out] at hBs
        by_cases hks : k = s
        · have hjq : j = perL p s := by
            rcases Nat.lt_or_ge j (perL p s) with h | h
            · exact absurd (hk.out.symm.trans hks) (per.out.2.2.2 j hj1' h)
            · have := hjp.out; omega
          have hBl : leastB p s = B := by rw [← leastTo_all, ← hjq]; exact hB.out.symm
          have hring := hid (show wi.ownsRow w.heap.size 3 1 (.slice ag j cg) (ringL p s).length ((ringL p s).map (Value.int .i64)) by
            rw [ringL_len, ← hjq]
            have e : ringL p s = tab j fun i => (itL p i s : Int) := by rw [hjq]; rfl
            rw [e]
            exact ownsRow_low hown.out hxo.size)
          have HR2 := hid (HR.out.ext' hxi)
          have hsz := HR2.out.ext.size
          subst hks
          clear hBs
          cases B with
          | false =>
            have hrs := hid (ringsTo_none hBl)
            have husb := hus.out
            clear hjq hBl hus
            go_wp2_with fail
            go_roundw
            case rel => exact ⟨k + 1, us, by go_num, by omega, hid (by rw [hrs.out]; exact HR2.out), hid (by omega)⟩
            case measure => simp [intOf]; omega
          | true =>
            have hrs := hid (ringsTo_some hBl)
            have husb := hus.out
            clear hjq hBl hus
            go_wp2_with (first | (at_builtin; refine wpList_append_own _ rfl _ _ 37 rfl w.heap.size 22 j0 (.slice none 0 0) 1 24 Try.underlying37 hj hj0 hj1 hj2 rfl (by decide) _ _ _ rfl (HR2.out.own.alloc _) ⟨wi.heap.size, 0, none⟩ 1 1 [.slice ag j cg] rfl rfl (cells_new _ _ _ (by simp)) (by simp [Value.oneCell']) (by simp only [maxLen]; omega) (by omega) (by simp; omega) ?_; intro v' w6 hown6 hgrow6 hnil6) | fail)
            have hfin := hid ((HR2.out.ext' ((Ext.refl _).alloc _)).next (hring.out.alloc _) hown6 hgrow6)
            go_roundw
            case rel => exact ⟨k + 1, us ++ [.slice ag j cg], by go_num, by omega, hid (by rw [hrs.out]; exact hfin.out), hid (by simp; omega)⟩
            case measure => simp [intOf]; omega
        · have hjlt : j < perL p s := by
            have := hjp.out
            rcases Nat.lt_or_ge j (perL p s) with h | h
            · exact h
            · exfalso
              have e : j = perL p s := by omega
              exact hks (by rw [hk.out, e]; exact per.out.2.2.1)
          have hpn := per.out.2.1
          have hnk := (hit.out s j hlt).2
          rw [← hk.out] at hnk
          have hr := Hp.out.get hkn
          have hsz := hxi.size
          have happ := hid (show ((tab j fun i => (itL p i s : Int)).map (Value.int .i64)) ++ [Value.int .i64 (k : Int)] = (tab (j + 1) fun i => (itL p i s : Int)).map (Value.int .i64) by rw [tab_succ, List.map_append, hk.out]; rfl)
          obtain ⟨z, ez⟩ : ∃ z, p.getD k 0 = z := ⟨_, rfl⟩
          have Ez := hid ez
          rw [ez] at hnk hr
          obtain ⟨t, rfl⟩ := Int.eq_ofNat_of_zero_le hr.1
          rw [Int.toNat_natCast] at hnk
          have Hnk := hid hnk.symm
          have Hjlt := hid hjlt
          have htn : t < n := by omega
          have b1 : ((k : Int) != (s : Int)) = true := by rw [bne_iff_ne]; omega
          have fin : ∀ B' : Bool, B' = leastTo p s (j + 1) → Hid (B' = leastTo p s (j + 1)) := fun _ h => h
          have HB := hid hBs
          have hcap : j + 1 ≤ 64 := by omega
          clear hBs ez hnk hjlt hr
          rcases Nat.lt_or_ge s k with hsk | hsk
          all_goals
            cases B
            all_goals
              have hnew := hid HB.out
              first
                | rw [decide_eq_true (show s ≤ k by omega)] at hnew
                | rw [decide_eq_false (show ¬ s ≤ k by omega)] at hnew
              simp only [Bool.and_true, Bool.and_false] at hnew
              have Hnew := hid hnew
              clear hnew HB
              go_wp2_with (first | (at_builtin; refine wpList_append_own _ rfl _ _ 22 rfl wo.heap.size 3 i0 (.int .i64 0) 1 8 Try.underlying22 hi hz0 hz1 hz2 rfl (by decide) _ _ _ rfl (hown.out.alloc _) ⟨wi.heap.size, 0, none⟩ 1 1 [.int .i64 (k : Int)] rfl rfl (cells_new _ _ _ (by simp)) (by simp [Value.oneCell']) (by simp only [maxLen]; omega) (by omega) (by simp; omega) ?_; intro v' w6 hown6 hgrow6 hnil6; have hx6 := (hxi.alloc (.cells #[.int .i64 (k : Int)] 3)).grown hgrow6 (fun t e => (hown.out.lt t e).1); have g6 := cell.out k hkn w6 hx6; rw [Ez.out] at g6) | fail)
              obtain ⟨a6, c6, rfl, _, _⟩ := owns_ints (xs := tab (j + 1) fun i => (itL p i s : Int)) (happ.out ▸ hown6)
              go_roundw
              case rel => exact ⟨j + 1, t, _, rfl, rfl, by omega, hid (by have := Hjlt.out; omega), hid Hnk.out, hid (by first | exact Hnew.out.symm | (rw [decide_eq_false (by omega)]; exact Hnew.out.symm) | (rw [decide_eq_true (by omega)]; exact Hnew.out.symm)), htn, by have := Hjlt.out; omega, hid (by rw [← happ.out]; exact hown6), hx6⟩
              case measure => have := Hjlt.out; simp [lenV]; omega
    · obtain rfl : s = n := by omega
      have hI := hid HR.out.ints
      have hxo := HR.out.ext
      clear HR
      go_wp2_with fail
      go_ret
      exact ⟨_, rfl, hI.out, hxo⟩
end Go.Proofs.Ytalkbmnbggclpaa
