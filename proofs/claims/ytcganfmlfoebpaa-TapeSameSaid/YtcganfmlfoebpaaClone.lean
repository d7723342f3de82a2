/- slices.Clone and slices.Reverse at numbers. -/
import Derived.Test.YtcganfmlfoebpaaOwn
import Derived.Test.YtcganfmlfoebpaaFld
import Derived.Lib.LazyBuf
namespace Go.Proofs.Ytcganfmlfoebpaa
open Go.RowKit Go.Maps

set_option maxRecDepth 100000 in
set_option maxHeartbeats 1000000 in
theorem clone_own (v : Value) (xs : List Int) (w : World) (hv : Ints .u64 w v xs) (hl : xs.length ≤ 1000000) :
    Calls Try.prog 24 #[v] w fun e w' => ∃ v', e = .returned v' ∧ w'.ownsRow w.heap.size 22 1 v' xs.length (xs.map (Value.int .u64)) ∧ Ext w w' := by
  have q22 : ∀ (w : World) (a : Option Addr) (n c n' c' : Nat), (binOp .eql 23 (.slice a n c) (.slice none n' c')).run Try.prog w = .ok (.bool a.isNone) w := fun w a n c n' c' => Lib.run_eql_slice_nil w _ _ a n c n' c' Try.underlying23
  obtain ⟨a, cap, rfl, hc1, hc2, hc⟩ := hv
  cases a with
  | none =>
    have h0 : xs.length = 0 := by
      rcases Nat.eq_zero_or_pos xs.length with h | h
      · exact h
      · obtain ⟨b, off, e, _⟩ := hc h; cases e
    obtain rfl : xs = [] := List.eq_nil_of_length_eq_zero h0
    clear hc
    go_enter Try.func24, Try.ntmps24
    go_wp2_with fail
    go_ret
    exact ⟨_, rfl, World.ownsRow_nil _ _ _ _, (by repeat (first | exact Ext.refl _ | assumption | refine Ext.drew ?_ | refine Ext.drewN ?_ _ | refine Ext.alloc ?_ _ | refine Ext.trans ?_ (by assumption)))⟩
  | some ad =>
    obtain ⟨i0, hi, hz0, hz1, hz2⟩ := info_parts info_u64p
    have hnews : ∀ j u, (xs.map (Value.int .u64))[j]? = some u → (w.alloc (.cells #[] 22)).cell? (ad.add j) = some u := fun j u hj => by
      have hjl : j < xs.length := by
        rcases Nat.lt_or_ge j xs.length with h | h
        · exact h
        · rw [List.getElem?_eq_none (by simpa using h)] at hj; cases hj
      obtain ⟨b, off, e, hb, hcell⟩ := hc (by omega)
      injection e with e; subst e
      rw [show ((⟨b, off, none⟩ : Addr).add j) = ⟨b, off + j, none⟩ from Go.WideShapes.add_plain _ _ _, ((Ext.refl w).alloc _).cells _ _ hb, hcell j hjl]
      rw [List.getElem?_map, List.getElem?_eq_getElem hjl] at hj
      simp only [Option.map_some, Option.some.injEq] at hj
      rw [← hj]
      simp [List.getD, List.getElem?_eq_getElem hjl]
    have hone : ∀ u ∈ xs.map (Value.int .u64), u.oneCell' = true := by
      intro u hu
      obtain ⟨y, _, rfl⟩ := List.mem_map.1 hu
      rfl
    have hlm : (xs.map (Value.int .u64)).length = xs.length * 1 := by simp
    obtain ⟨cs, hcs⟩ : ∃ cs, xs.map (Value.int .u64) = cs := ⟨_, rfl⟩
    rw [hcs] at hnews hone hlm
    have Hn := hid hnews; have Ho := hid hone; have Hl := hid hlm
    have Hown := hid (World.ownsRow_lit (base := w.heap.size) (e := 22) (size := 1) w #[] 0 (Nat.le_refl _) (by simp [maxLen]) rfl)
    have Hcs := hid hcs
    clear hnews hone hlm hc hcs
    go_enter Try.func24, Try.ntmps24
    go_wp2_with (at_builtin; refine wpList_append_own _ rfl _ _ 23 rfl w.heap.size 22 i0 (.int .u64 0) 1 8 Try.underlying23 hi hz0 hz1 hz2 rfl (by decide) _ 0 [] rfl Hown.out ad xs.length cap cs rfl Hl.out Hn.out Ho.out (by simp only [maxLen]; omega) (by omega) (by simp) ?_; intro v' w1 hown1 hgrow1 _)
    go_ret
    have hx : Ext w w1 := ((Ext.refl w).alloc _).grown hgrow1 (fun k e => by cases e; exact Nat.le_refl _)
    rw [Nat.zero_add, List.nil_append, ← Hcs.out] at hown1
    exact ⟨_, rfl, hown1, hx⟩
theorem clone_any (v : Value) (xs : List Int) (w : World) (hv : Ints .u64 w v xs) (hl : xs.length ≤ 1000000) :
    Calls Try.prog 24 #[v] w fun e w' => ∃ a cap, e = .returned (.slice a xs.length cap) ∧ xs.length ≤ cap ∧ cap ≤ 9223372036854775807 ∧
      (0 < xs.length → ∃ g, a = some ⟨g, 0, none⟩ ∧ w.heap.size ≤ g ∧ WRow w' g 0 xs) ∧ Ext w w' :=
  (clone_own v xs w hv hl).mono fun e w' ⟨v', he, ho, hx⟩ => by
    obtain ⟨a', cap', rfl, h1, h2, h3, h4⟩ := WRow.of_owns ho
    exact ⟨a', cap', he, h1, h2, h4, hx⟩

theorem rev_get (xs : List Int) {j : Nat} (h : j < xs.length) : xs.reverse.getD j 0 = xs.getD (xs.length - 1 - j) 0 := by
  simp [List.getD, h, show xs.length - 1 - j < xs.length by omega]

end Go.Proofs.Ytcganfmlfoebpaa
