import Derived.Test.YthomeenmcajmdaaGreatDoorBun04
import Derived.Test.YthomeenmcajmdaaGreatDoorBun03
import Derived.Lib.LazyBuf
namespace Go.Proofs.YthomeenmcajmdaaGreatDoor
open Go.RowKit Go.Maps
set_option maxRecDepth 100000 in
set_option maxHeartbeats 1000000 in
theorem clone_own (v : Value) (xs : List Int) (w : World) (hv : Ints .u64 w v xs) (hl : xs.length ≤ 1000000) :
    Calls Tryz.prog 36 #[v] w fun e w' => ∃ v', e = .returned v' ∧ w'.ownsRow w.heap.size 22 1 v' xs.length (xs.map (Value.int .u64)) ∧ Ext w w' := by
  have q22 : ∀ (w : World) (a : Option Addr) (n c n' c' : Nat), (binOp .eql 24 (.slice a n c) (.slice none n' c')).run Tryz.prog w = .ok (.bool a.isNone) w := fun w a n c n' c' => Lib.run_eql_slice_nil w _ _ a n c n' c' Tryz.underlying24
  obtain ⟨a, cap, rfl, hc1, hc2, hc⟩ := hv
  cases a with
  | none =>
    have h0 : xs.length = 0 := by
      rcases Nat.eq_zero_or_pos xs.length with h | h
      · exact h
      · obtain ⟨b, off, e, _⟩ := hc h; cases e
    obtain rfl : xs = [] := List.eq_nil_of_length_eq_zero h0
    clear hc
    go_enter Tryz.func36, Tryz.ntmps36
    go_wp2_with fail
    go_ret
    exact ⟨_, rfl, World.ownsRow_nil _ _ _ _, (by repeat (first | exact Ext.refl _ | assumption | refine Ext.drew ?_ | refine Ext.drewN ?_ _ | refine Ext.alloc ?_ _ | refine Ext.trans ?_ (by assumption)))⟩
  | some ad =>
    obtain ⟨i0, hi, hz0, hz1, hz2⟩ := info_parts info_u64p
    have hnews : ∀ j u, (xs.map (Value.int .u64))[j]? = some u → (w.alloc (.cells #[] 22)).cell? (ad.add j) = some u := fun j u hj => by
      have hjl : j < xs.length := by
        rcases Nat.lt_or_ge j xs.length with h | h
        · exact h
        · rw [List.getElem?_eq_none (by simpa using h)] at hj; cases hj
      obtain ⟨b, off, e, hb, hcell⟩ := hc (by omega)
      injection e with e; subst e
      rw [show ((⟨b, off, none⟩ : Addr).add j) = ⟨b, off + j, none⟩ from Go.WideShapes.add_plain _ _ _, ((Ext.refl w).alloc _).cells _ _ hb, hcell j hjl]
      rw [List.getElem?_map, List.getElem?_eq_getElem hjl] at hj
      simp only [Option.map_some, Option.some.injEq] at hj
      rw [← hj]
      simp [List.getD, List.getElem?_eq_getElem hjl]
    have hone : ∀ u ∈ xs.map (Value.int .u64), u.oneCell' = true := by
      intro u hu
      obtain ⟨y, _, rfl⟩ := List.mem_map.1 hu
      rfl
    have hlm : (xs.map (Value.int .u64)).length = xs.length * 1 := by simp
    obtain ⟨cs, hcs⟩ : ∃ cs, xs.map (Value.int .u64) = cs := ⟨_, rfl⟩
    rw [hcs] at hnews hone hlm
    have Hn := hid hnews; have Ho := hid hone; have Hl := hid hlm
    have Hown := hid (World.ownsRow_lit (base := w.heap.size) (e := 22) (size := 1) w #[] 0 (Nat.le_refl _) (by simp [maxLen]) rfl)
    have Hcs := hid hcs
    clear hnews hone hlm hc hcs
    go_enter Tryz.func36, Tryz.ntmps36
    go_wp2_with (at_builtin; refine wpList_append_own _ rfl _ _ 24 rfl w.heap.size 22 i0 (.int .u64 0) 1 8 Tryz.underlying24 hi hz0 hz1 hz2 rfl (by decide) _ 0 [] rfl Hown.out ad xs.length cap cs rfl Hl.out Hn.out Ho.out (by simp only [maxLen]; omega) (by omega) (by simp) ?_; intro v' w1 hown1 hgrow1 _)
    go_ret
    have hx : Ext w w1 := ((Ext.refl w).alloc _).grown hgrow1 (fun k e => by cases e; exact Nat.le_refl _)
    rw [Nat.zero_add, List.nil_append, ← Hcs.out] at hown1
    exact ⟨_, rfl, hown1, hx⟩
theorem clone_any (v : Value) (xs : List Int) (w : World) (hv : Ints .u64 w v xs) (hl : xs.length ≤ 1000000) :
    Calls Tryz.prog 36 #[v] w fun e w' => ∃ a cap, e = .returned (.slice a xs.length cap) ∧ xs.length ≤ cap ∧ cap ≤ 9223372036854775807 ∧
      (0 < xs.length → ∃ g, a = some ⟨g, 0, none⟩ ∧ w.heap.size ≤ g ∧ WRow w' g 0 xs) ∧ Ext w w' :=
  (clone_own v xs w hv hl).mono fun e w' ⟨v', he, ho, hx⟩ => by
    obtain ⟨a', cap', rfl, h1, h2, h3, h4⟩ := WRow.of_owns ho
    exact ⟨a', cap', he, h1, h2, h4, hx⟩
theorem rev_get (xs : List Int) {j : Nat} (h : j < xs.length) : xs.reverse.getD j 0 = xs.getD (xs.length - 1 - j) 0 := by
  simp [List.getD, h, show xs.length - 1 - j < xs.length by omega]
set_option maxHeartbeats 1000000 in
theorem reverse_any (g n cap : Nat) (xs : List Int) (w w0 : World) (hn : xs.length = n) (h1 : 1 ≤ n) (hc2 : n ≤ 1000000) (hr : WRow w g 0 xs) (h0 : Ext w0 w) (hg : w0.heap.size ≤ g) :
    Calls Tryz.prog 174 #[.slice (some ⟨g, 0, none⟩) n cap] w fun e w' => (∃ v, e = .returned v) ∧ WRow w' g 0 xs.reverse ∧ Ext w0 w' := by
  have Hn := hid hn; have Hr := hid hr
  clear hn hr
  go_enter Tryz.func174, Tryz.ntmps174
  go_wp2_with fail
  go_loopw [2, 3] (fun i j wr => ∃ (k m : Nat) (l : List Int), i = .int .i64 k ∧ j = .int .i64 m ∧ k + m + 1 = n ∧ k ≤ m + 1 ∧ Hid (l.length = n) ∧ Hid (∀ t, t < n → l.getD t 0 = if t < k ∨ m < t then xs.getD (n - 1 - t) 0 else xs.getD t 0) ∧ WRow wr g 0 l ∧ Ext w0 wr) (fun _ j _ => (intOf j).toNat)
  case atStart => exact ⟨0, n - 1, xs, rfl, by go_num, by omega, by omega, Hn, hid (fun t ht => by rw [if_neg (by omega)]), Hr.out, h0⟩
  case round =>
    obtain ⟨k, m, l, rfl, rfl, hkm, hk1, hl, hget, hrw, hxw⟩ := hrel
    have Hrw := hid hrw
    clear hrw
    by_cases hlt : k < m
    · have c1 := (Hrw.out.2 k (by rw [hl.out]; omega)).1
      have f1 := (Hrw.out.2 k (by rw [hl.out]; omega)).2
      have c2 := (Hrw.out.2 m (by rw [hl.out]; omega)).1
      have f2 := (Hrw.out.2 m (by rw [hl.out]; omega)).2
      rw [Nat.zero_add] at c1 f1 c2 f2
      obtain ⟨x, ex⟩ : ∃ x, l.getD k 0 = x := ⟨_, rfl⟩
      obtain ⟨y, ey⟩ : ∃ y, l.getD m 0 = y := ⟨_, rfl⟩
      rw [ex] at c1; rw [ey] at c2
      have hs : Hid (∀ q, WRow (((wr.drewN q).setCell ⟨g, k, none⟩ (.int .u64 y)).setCell ⟨g, m, none⟩ (.int .u64 x)) g 0 ((l.set k y).set m x)) := hid (fun q => by
        have h2 := ((Hrw.out.ext ((Ext.refl _).drewN q)).set_ (i := k) (by rw [hl.out]; omega) y).set_ (i := m) (by rw [List.length_set, hl.out]; omega) x
        rw [Nat.zero_add, Nat.zero_add] at h2
        exact h2)
      have Ex := hid ex; have Ey := hid ey
      clear ex ey
      go_wp2_with fail
      go_region
      go_wp2_with fail
      go_roundw
      case rel =>
        refine ⟨k + 1, m - 1, (l.set k y).set m x, by go_num, by go_num, by omega, by omega, hid (by rw [List.length_set, List.length_set]; exact hl.out), hid (fun t ht => ?_), hs.out _, ((hxw.drewN _).setCell hg _).setCell hg _⟩
        rw [set_get _ _ _ _ (by rw [List.length_set, hl.out]; omega), set_get _ _ _ _ (by rw [hl.out]; omega)]
        by_cases e : m = t
        · subst e
          rw [if_pos rfl, if_pos (by omega), ← Ex.out, hget.out k (by omega), if_neg (by omega), show n - 1 - m = k by omega]
        · rw [if_neg e]
          by_cases e2 : k = t
          · subst e2
            rw [if_pos rfl, if_pos (by omega), ← Ey.out, hget.out m (by omega), if_neg (by omega), show n - 1 - k = m by omega]
          · rw [if_neg e2, hget.out t ht]
            by_cases e3 : t < k ∨ m < t
            · rw [if_pos e3, if_pos (by omega)]
            · rw [if_neg e3, if_neg (by omega)]
      case measure => simp [intOf]; omega
    · go_wp2_with fail
      go_end0
      refine ⟨⟨_, rfl⟩, ?_, hxw⟩
      have e : xs.reverse = l := list_ext (by rw [List.length_reverse, hl.out]; exact Hn.out) fun t ht => by
        rw [List.length_reverse, Hn.out] at ht
        rw [rev_get xs (by rw [Hn.out]; exact ht), hget.out t ht, Hn.out]
        split
        · rfl
        · rw [show n - 1 - t = t by omega]
      rw [e]
      exact Hrw.out
end Go.Proofs.YthomeenmcajmdaaGreatDoor
namespace Go.Proofs.YthomeenmcajmdaaGreatDoor
open Go.RowKit
def RetT (p : Int) (f : Ser p) (w : World) (e : Ending) (w' : World) : Prop := ∃ v zs, e = .returned (.tuple #[v, .int .i64 0]) ∧ Ints .u64 w' v zs ∧ Pol p zs ∧ pol p zs = f ∧ Ext w w'
end Go.Proofs.YthomeenmcajmdaaGreatDoor
