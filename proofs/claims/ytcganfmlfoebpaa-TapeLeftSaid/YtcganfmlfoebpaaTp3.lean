/- Package tape: Many, Other, Draw, Left. -/
import Derived.Test.YtcganfmlfoebpaaTp2
namespace Go.Proofs.Ytcganfmlfoebpaa
open Go.RowKit Go.Maps

set_option maxHeartbeats 1000000 in
theorem tpMany (p n k : Int) (v : Value) (xs : List Int) (w : World) (h0 : 0 ≤ p) (h1 : p ≤ 18446744073709551615) (hn : -9223372036854775808 ≤ n ∧ n ≤ 9223372036854775807) (hk : -9223372036854775808 ≤ k ∧ k ≤ 9223372036854775807)
    (hv : Ints .u64 w v xs) (hx : U64s xs) (hl : xs.length ≤ 1000000) :
    Calls Try.prog 10 #[.int .u64 p, tapeV v k, .int .i64 n] w (RetDr p 0 n k xs w) := by
  have C := hid fun (W : World) (hW : Ext w W) => tpDrawn p 0 n k v xs W h0 h1 hn hk (hv.ext hW) hx hl
  obtain ⟨a, cap, rfl, -, -, -⟩ := hv
  unfold tapeV at C
  unfold tapeV
  have hZ := hid (Blk.new (w.alloc (.cells #[.slice a xs.length cap, .int .i64 k] 25)) 25 #[.slice none 0 0, .int .i64 0])
  go_enter Try.func10, Try.ntmps10
  go_wp2_with (go_at_call 23; refine (C.out _ (by repeat (first | exact Ext.refl _ | assumption | refine Ext.drew ?_ | refine Ext.drewN ?_ _ | refine Ext.alloc ?_ _ | refine Ext.trans ?_ (by assumption)))).mono ?_; rintro _ w1 ⟨u, v', rfl, o1, o2, x1⟩
               have hZ1 := hZ.out.ext x1
               rw [alloc_size] at hZ1
               obtain ⟨z0, z1⟩ := hZ1.at2
               have y0 := hZ1.frozen 0
               have y1 := hZ1.frozen 1
               obtain ⟨au, cu, rfl, -, -, -, -⟩ := WRow.of_owns o1
               obtain ⟨av, cv, rfl, -, -, -, -⟩ := WRow.of_owns o2
               have HZ1 := hid hZ1; have O1 := hid o1; have O2 := hid o2
               clear hZ1 o1 o2
               unfold tapeV)
  refine bodyPost_ret (results_tmp_cell_tmp rfl _ _ (w.heap.size + 1) 25 _ (0, 0) _ rfl (HZ1.out.put2 _ _) Try.underlying25 rfl (by kernel_rfl)) rfl ?_
  exact ⟨_, _, rfl, ownsRow_low (own_set (own_set O1.out HZ1.out (by decide) 0 _) (HZ1.out.set_ 0 _) (by decide) 1 _) (by simp; omega), ownsRow_low (own_set (own_set O2.out HZ1.out (by decide) 0 _) (HZ1.out.set_ 0 _) (by decide) 1 _) (by simp; omega), ((Ext.trans (by repeat (first | exact Ext.refl _ | assumption | refine Ext.drew ?_ | refine Ext.drewN ?_ _ | refine Ext.alloc ?_ _ | refine Ext.trans ?_ (by assumption))) x1).setCell (by simp) _).setCell (by simp) _⟩
set_option maxHeartbeats 1000000 in
theorem tpOther (p n k : Int) (v : Value) (xs : List Int) (w : World) (h0 : 0 ≤ p) (h1 : p ≤ 18446744073709551615) (hn : -9223372036854775808 ≤ n ∧ n ≤ 9223372036854775807) (hk : -9223372036854775808 ≤ k ∧ k ≤ 9223372036854775807)
    (hv : Ints .u64 w v xs) (hx : U64s xs) (hl : xs.length ≤ 1000000) :
    Calls Try.prog 11 #[.int .u64 p, tapeV v k, .int .i64 n] w (RetDr p 1 n k xs w) := by
  have C := hid fun (W : World) (hW : Ext w W) => tpDrawn p 1 n k v xs W h0 h1 hn hk (hv.ext hW) hx hl
  obtain ⟨a, cap, rfl, -, -, -⟩ := hv
  unfold tapeV at C
  unfold tapeV
  have hZ := hid (Blk.new (w.alloc (.cells #[.slice a xs.length cap, .int .i64 k] 25)) 25 #[.slice none 0 0, .int .i64 0])
  go_enter Try.func11, Try.ntmps11
  go_wp2_with (go_at_call 23; refine (C.out _ (by repeat (first | exact Ext.refl _ | assumption | refine Ext.drew ?_ | refine Ext.drewN ?_ _ | refine Ext.alloc ?_ _ | refine Ext.trans ?_ (by assumption)))).mono ?_; rintro _ w1 ⟨u, v', rfl, o1, o2, x1⟩
               have hZ1 := hZ.out.ext x1
               rw [alloc_size] at hZ1
               obtain ⟨z0, z1⟩ := hZ1.at2
               have y0 := hZ1.frozen 0
               have y1 := hZ1.frozen 1
               obtain ⟨au, cu, rfl, -, -, -, -⟩ := WRow.of_owns o1
               obtain ⟨av, cv, rfl, -, -, -, -⟩ := WRow.of_owns o2
               have HZ1 := hid hZ1; have O1 := hid o1; have O2 := hid o2
               clear hZ1 o1 o2
               unfold tapeV)
  refine bodyPost_ret (results_tmp_cell_tmp rfl _ _ (w.heap.size + 1) 25 _ (0, 0) _ rfl (HZ1.out.put2 _ _) Try.underlying25 rfl (by kernel_rfl)) rfl ?_
  exact ⟨_, _, rfl, ownsRow_low (own_set (own_set O1.out HZ1.out (by decide) 0 _) (HZ1.out.set_ 0 _) (by decide) 1 _) (by simp; omega), ownsRow_low (own_set (own_set O2.out HZ1.out (by decide) 0 _) (HZ1.out.set_ 0 _) (by decide) 1 _) (by simp; omega), ((Ext.trans (by repeat (first | exact Ext.refl _ | assumption | refine Ext.drew ?_ | refine Ext.drewN ?_ _ | refine Ext.alloc ?_ _ | refine Ext.trans ?_ (by assumption))) x1).setCell (by simp) _).setCell (by simp) _⟩

/-- a number that is drawn -/
def drX (p k : Int) (xs : List Int) : Int := (drL p 0 1 k xs).getD 0 0
def RetD1 (p k : Int) (xs : List Int) (w : World) (e : Ending) (w' : World) : Prop :=
  ∃ v', e = .returned (.tuple #[.int .u64 (drX p k xs), tapeV v' (drK p 0 1 k xs), .int .i64 (drE p 0 1 k xs)]) ∧ w'.ownsRow w.heap.size 22 1 v' xs.length (xs.map (Value.int .u64)) ∧ Ext w w'
theorem dr_off {p m n k : Int} {xs : List Int} (h : drE p m n k xs ≠ 0) : drL p m n k xs = [] := by
  unfold drE at h
  unfold drL
  cases hM : dMay p n k xs
  · rfl
  · cases hO : okW (goodB p m) n.toNat (xs.drop k.toNat)
    · rfl
    · rw [hM, hO] at h; simp at h
set_option maxHeartbeats 1000000 in
theorem tpDraw (p k : Int) (v : Value) (xs : List Int) (w : World) (h0 : 0 ≤ p) (h1 : p ≤ 18446744073709551615) (hk : -9223372036854775808 ≤ k ∧ k ≤ 9223372036854775807)
    (hv : Ints .u64 w v xs) (hx : U64s xs) (hl : xs.length ≤ 1000000) :
    Calls Try.prog 9 #[.int .u64 p, tapeV v k] w (RetD1 p k xs w) := by
  have C := hid fun (W : World) (hW : Ext w W) => tpDrawn p 0 1 k v xs W h0 h1 (by omega) hk (hv.ext hW) hx hl
  have hEE := dr_err p 0 1 k xs
  have hLL := hid (dr_len (p := p) (m := 0) (n := 1) (k := k) (xs := xs))
  have hOF := hid (dr_off (p := p) (m := 0) (n := 1) (k := k) (xs := xs))
  unfold RetD1 drX
  unfold RetDr at C
  generalize drE p 0 1 k xs = E at *
  generalize drL p 0 1 k xs = L at *
  generalize drK p 0 1 k xs = K at *
  obtain ⟨a, cap, rfl, -, -, -⟩ := hv
  unfold tapeV at C
  unfold tapeV
  have hZ := hid (Blk.new (w.alloc (.cells #[.slice a xs.length cap, .int .i64 k] 25)) 25 #[.slice none 0 0, .int .i64 0])
  by_cases hE : E = 0
  · have hl1 : L.length = 1 := hLL.out hE
    obtain ⟨x, rfl⟩ : ∃ x, L = [x] := by
      match L, hl1 with
      | [x], _ => exact ⟨x, rfl⟩
    subst hE
    clear hLL hOF hl1
    go_enter Try.func9, Try.ntmps9
    go_wp2_with (go_at_call 23; refine (C.out _ (by repeat (first | exact Ext.refl _ | assumption | refine Ext.drew ?_ | refine Ext.drewN ?_ _ | refine Ext.alloc ?_ _ | refine Ext.trans ?_ (by assumption)))).mono ?_; rintro _ w1 ⟨u, v', rfl, o1, o2, x1⟩
                 have hZ1 := hZ.out.ext x1
                 rw [alloc_size] at hZ1
                 obtain ⟨au, cu, rfl, hu1, hu2, -, hu3⟩ := WRow.of_owns o1
                 obtain ⟨av, cv, rfl, -, -, -, -⟩ := WRow.of_owns o2
                 have hZ2 := hZ1.ext ((Ext.refl w1).alloc (.cells #[.slice av xs.length cv, .int .i64 K] 25))
                 obtain ⟨z0, z1⟩ := hZ2.at2
                 have y0 := hZ2.frozen 0
                 have y1 := hZ2.frozen 1
                 obtain ⟨b0, b1⟩ := (Blk.new w1 25 #[.slice av xs.length cv, .int .i64 K]).at2
                 have HZ2 := hid hZ2; have O2 := hid o2
                 obtain ⟨g, rfl, hg, hw⟩ := hu3 (by simp)
                 have c0 := (((Ext.refl w1).alloc (.cells #[.slice av xs.length cv, .int .i64 K] 25)).cells _ _ hw.1).trans (hw.2 0 (by simp)).1
                 rw [Nat.zero_add] at c0
                 simp at c0
                 clear hw
                 clear hZ1 hZ2 o1 o2 hu3)
    go_region
    go_wp2_with fail
    refine bodyPost_ret (results_tmp_cell_tmp rfl _ _ (w.heap.size + 1) 25 _ (0, 0) _ rfl (HZ2.out.put2 _ _) Try.underlying25 rfl (by kernel_rfl)) rfl ?_
    exact ⟨.slice av xs.length cv, rfl, ownsRow_low (ownsRow_ext (own_set (own_set (O2.out.alloc _) HZ2.out (by decide) 0 _) (HZ2.out.set_ 0 _) (by decide) 1 _) ((Ext.refl _).drew)) (by simp; omega), ((((Ext.trans (by repeat (first | exact Ext.refl _ | assumption | refine Ext.drew ?_ | refine Ext.drewN ?_ _ | refine Ext.alloc ?_ _ | refine Ext.trans ?_ (by assumption))) x1).alloc _).setCell (by simp) _).setCell (by simp) _).drew⟩
  · have e0 : (E != 0) = true := by simpa using hE
    obtain rfl := hOF.out hE
    clear hLL hOF
    go_enter Try.func9, Try.ntmps9
    go_wp2_with (go_at_call 23; refine (C.out _ (by repeat (first | exact Ext.refl _ | assumption | refine Ext.drew ?_ | refine Ext.drewN ?_ _ | refine Ext.alloc ?_ _ | refine Ext.trans ?_ (by assumption)))).mono ?_; rintro _ w1 ⟨u, v', rfl, o1, o2, x1⟩
                 have hZ1 := hZ.out.ext x1
                 rw [alloc_size] at hZ1
                 obtain ⟨au, cu, rfl, hu1, hu2, -, hu3⟩ := WRow.of_owns o1
                 obtain ⟨av, cv, rfl, -, -, -, -⟩ := WRow.of_owns o2
                 have hZ2 := hZ1.ext ((Ext.refl w1).alloc (.cells #[.slice av xs.length cv, .int .i64 K] 25))
                 obtain ⟨z0, z1⟩ := hZ2.at2
                 have y0 := hZ2.frozen 0
                 have y1 := hZ2.frozen 1
                 obtain ⟨b0, b1⟩ := (Blk.new w1 25 #[.slice av xs.length cv, .int .i64 K]).at2
                 have HZ2 := hid hZ2; have O2 := hid o2
                 clear hZ1 hZ2 o1 o2 hu3)
    go_region
    go_wp2_with fail
    refine bodyPost_ret (results_tmp_cell_tmp rfl _ _ (w.heap.size + 1) 25 _ (0, 0) _ rfl (HZ2.out.put2 _ _) Try.underlying25 rfl (by kernel_rfl)) rfl ?_
    exact ⟨.slice av xs.length cv, rfl, ownsRow_low (ownsRow_ext (own_set (own_set (O2.out.alloc _) HZ2.out (by decide) 0 _) (HZ2.out.set_ 0 _) (by decide) 1 _) ((Ext.refl _).drew)) (by simp; omega), ((((Ext.trans (by repeat (first | exact Ext.refl _ | assumption | refine Ext.drew ?_ | refine Ext.drewN ?_ _ | refine Ext.alloc ?_ _ | refine Ext.trans ?_ (by assumption))) x1).alloc _).setCell (by simp) _).setCell (by simp) _).drew⟩
end Go.Proofs.Ytcganfmlfoebpaa
