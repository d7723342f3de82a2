/- Package solve: what isn't right. -/
import Derived.Test.YtfpmcajndgkgeaaSv9
namespace Go.Proofs.Ytfpmcajndgkgeaa
open Go.RowKit Go.Maps

def noS : Value := .slice none 0 0
set_option maxHeartbeats 1000000 in
theorem svTake_no (p r c : Int) (v : Value) (xs : List Int) (w : World) (h0 : 0 ≤ p) (h1 : p ≤ 18446744073709551615) (hv : Ints .u64 w v xs) (hx : U64s xs) (h : matB p r c xs = false) :
    Calls Try.prog 56 #[.int .u64 p, matV r c v] w (Ret (.tuple #[apV noS noS noS noS p c, .int .i64 1]) w) := by
  have C := hid fun (W : World) (hW : Ext w W) => cmTake_no p r c v xs W h0 h1 (hv.ext hW) hx h
  unfold noCup at C
  unfold apV noS
  obtain ⟨a, cap, rfl, k1, k2, k3⟩ := hv
  unfold matV at C ⊢
  have hb2 := hid (boxes2 w 25 73 #[.int .i64 r, .int .i64 c, .slice a xs.length cap] #[.slice none 0 0, .slice none 0 0, .slice none 0 0, .slice none 0 0, .int .u64 0, .int .i64 0])
  clear k3 hx h
  go_enter Try.func56, Try.ntmps56
  go_wp2_with (first
    | (go_at_call 94; refine (C.out _ (by repeat (first | exact Ext.refl _ | assumption | refine Ext.drew ?_ | refine Ext.drewN ?_ _ | refine Ext.alloc ?_ _ | refine Ext.trans ?_ (by assumption)))).mono ?_; rintro _ w1 ⟨rfl, x1⟩
       have HR := hid ((hb2.out.2.1.ext x1).ext ((Ext.refl w1).alloc (.cells #[.slice none 0 0, .slice none 0 0, .slice none 0 0, .slice none 0 0] 71)))
       have c1 := ((hb2.out.1.ext x1).ext ((Ext.refl w1).alloc (.cells #[.slice none 0 0, .slice none 0 0, .slice none 0 0, .slice none 0 0] 71))).cell 1
       have f0 := HR.out.frozen 0; have f1 := HR.out.frozen 1; have f2 := HR.out.frozen 2; have f3 := HR.out.frozen 3; have f4 := HR.out.frozen 4; have f5 := HR.out.frozen 5
       have r0 := HR.out.cell 0; have r1 := HR.out.cell 1; have r2 := HR.out.cell 2; have r3 := HR.out.cell 3; have r4 := HR.out.cell 4; have r5 := HR.out.cell 5))
  have FF := (((((HR.out.set_ 0 (.slice none 0 0)).set_ 1 (.slice none 0 0)).set_ 2 (.slice none 0 0)).set_ 3 (.slice none 0 0)).set_ 4 (.int .u64 p)).set_ 5 (.int .i64 c)
  have hgr : w1.grownBy _ (some (w.heap.size + 1)) := ((((((((Ext.refl w1).alloc (.cells #[.slice none 0 0, .slice none 0 0, .slice none 0 0, .slice none 0 0] 71)).grownBy (some (w.heap.size + 1))).trans (setCell_grown _ ⟨w.heap.size + 1, 0, none⟩ (.slice none 0 0))).trans (setCell_grown _ ⟨w.heap.size + 1, 1, none⟩ (.slice none 0 0))).trans (setCell_grown _ ⟨w.heap.size + 1, 2, none⟩ (.slice none 0 0))).trans (setCell_grown _ ⟨w.heap.size + 1, 3, none⟩ (.slice none 0 0))).trans (setCell_grown _ ⟨w.heap.size + 1, 4, none⟩ (.int .u64 p))).trans (setCell_grown _ ⟨w.heap.size + 1, 5, none⟩ (.int .i64 c))
  have hX : Ext w w1 := (by repeat (first | exact Ext.refl _ | assumption | refine Ext.drew ?_ | refine Ext.drewN ?_ _ | refine Ext.alloc ?_ _ | refine Ext.trans ?_ (by assumption)))
  have hX9 := grown_ext hgr hX (Nat.le_succ _)
  refine bodyPost_ret (results_cell_row_tmp rfl _ _ (w.heap.size + 1) 73 _ (0, 0) _ rfl FF Try.underlying73 rfl (by kernel_rfl)) rfl ?_
  exact ⟨rfl, hX9⟩
set_option maxHeartbeats 1000000 in
theorem svKernel_arg (p r c : Int) (v : Value) (xs : List Int) (w : World) (h0 : 0 ≤ p) (h1 : p ≤ 18446744073709551615) (hv : Ints .u64 w v xs) (hx : U64s xs) (h : matB p r c xs = false) : Calls Try.prog 13 #[.int .u64 p, matV r c v] w (RetE 1 [] w) := by
  have C := hid fun (W : World) (hW : Ext w W) => svTake_no p r c v xs W h0 h1 (hv.ext hW) hx h
  obtain ⟨a, cap, rfl, k1, k2, k3⟩ := hv
  unfold matV apV noS at C
  unfold matV
  clear k3 hx h
  go_enter Try.func13, Try.ntmps13
  go_wp2_with (go_at_call 56; refine (C.out _ (by repeat (first | exact Ext.refl _ | assumption | refine Ext.drew ?_ | refine Ext.drewN ?_ _ | refine Ext.alloc ?_ _ | refine Ext.trans ?_ (by assumption)))).mono ?_; rintro _ w1 ⟨rfl, x1⟩)
  go_ret2
  exact ⟨_, rfl, Ints.nil, (by repeat (first | exact Ext.refl _ | assumption | refine Ext.drew ?_ | refine Ext.drewN ?_ _ | refine Ext.alloc ?_ _ | refine Ext.trans ?_ (by assumption)))⟩
set_option maxHeartbeats 1000000 in
theorem svLeft_arg (p r c : Int) (v : Value) (xs : List Int) (w : World) (h0 : 0 ≤ p) (h1 : p ≤ 18446744073709551615) (hv : Ints .u64 w v xs) (hx : U64s xs) (h : matB p r c xs = false) : Calls Try.prog 14 #[.int .u64 p, matV r c v] w (RetE 1 [] w) := by
  have C := hid fun (W : World) (hW : Ext w W) => svTake_no p r c v xs W h0 h1 (hv.ext hW) hx h
  obtain ⟨a, cap, rfl, k1, k2, k3⟩ := hv
  unfold matV apV noS at C
  unfold matV
  clear k3 hx h
  go_enter Try.func14, Try.ntmps14
  go_wp2_with (go_at_call 56; refine (C.out _ (by repeat (first | exact Ext.refl _ | assumption | refine Ext.drew ?_ | refine Ext.drewN ?_ _ | refine Ext.alloc ?_ _ | refine Ext.trans ?_ (by assumption)))).mono ?_; rintro _ w1 ⟨rfl, x1⟩)
  go_ret2
  exact ⟨_, rfl, Ints.nil, (by repeat (first | exact Ext.refl _ | assumption | refine Ext.drew ?_ | refine Ext.drewN ?_ _ | refine Ext.alloc ?_ _ | refine Ext.trans ?_ (by assumption)))⟩
set_option maxHeartbeats 1000000 in
theorem svSolve_arg (p r c : Int) (v u : Value) (xs b : List Int) (w : World) (h0 : 0 ≤ p) (h1 : p ≤ 18446744073709551615) (hv : Ints .u64 w v xs) (hx : U64s xs) (hu : Ints .u64 w u b) (hb : U64s b) (h : (matB p r c xs && vecB p r b) = false) : Calls Try.prog 11 #[.int .u64 p, matV r c v, u] w (RetE 1 [] w) := by
  have C1 := hid fun (W : World) (hW : Ext w W) => svBeside p r c v u xs b W h0 h1 (hv.ext hW) (hu.ext hW) hb
  by_cases hm : matB p r c xs = false
  · have C := hid fun (W : World) (hW : Ext w W) => svTake_no p r c v xs W h0 h1 (hv.ext hW) hx hm
    obtain ⟨B, eB⟩ : ∃ B, vecB p r b = B := ⟨_, rfl⟩
    rw [eB] at C1
    obtain ⟨a, cap, rfl, k1, k2, k3⟩ := hv
    obtain ⟨a', cap', rfl, k1', k2', k3'⟩ := hu
    have hA := hid (Blk.new w 25 #[.int .i64 r, .int .i64 c, .slice a xs.length cap])
    obtain ⟨b0, b1, b2⟩ := hA.out.at3
    unfold matV apV noS at C
    unfold matV at C1
    unfold matV
    clear k3 k3' hx hb h hm eB
    cases B with
    | false =>
      go_enter Try.func11, Try.ntmps11
      go_wp2_with (go_at_call 55; refine (C1.out _ (by repeat (first | exact Ext.refl _ | assumption | refine Ext.drew ?_ | refine Ext.drewN ?_ _ | refine Ext.alloc ?_ _ | refine Ext.trans ?_ (by assumption)))).mono ?_; rintro _ w1 ⟨rfl, x1⟩)
      go_ret2
      exact ⟨_, rfl, Ints.nil, (by repeat (first | exact Ext.refl _ | assumption | refine Ext.drew ?_ | refine Ext.drewN ?_ _ | refine Ext.alloc ?_ _ | refine Ext.trans ?_ (by assumption)))⟩
    | true =>
      go_enter Try.func11, Try.ntmps11
      go_wp2_with (first
        | (go_at_call 55; refine (C1.out _ (by repeat (first | exact Ext.refl _ | assumption | refine Ext.drew ?_ | refine Ext.drewN ?_ _ | refine Ext.alloc ?_ _ | refine Ext.trans ?_ (by assumption)))).mono ?_; rintro _ w1 ⟨rfl, x1⟩; have HA1 := hid (hA.out.ext x1); obtain ⟨d0, d1, d2⟩ := HA1.out.at3)
        | (go_at_call 56; refine (C.out _ (by repeat (first | exact Ext.refl _ | assumption | refine Ext.drew ?_ | refine Ext.drewN ?_ _ | refine Ext.alloc ?_ _ | refine Ext.trans ?_ (by assumption)))).mono ?_; rintro _ w2 ⟨rfl, x2⟩))
      go_ret2
      exact ⟨_, rfl, Ints.nil, (by repeat (first | exact Ext.refl _ | assumption | refine Ext.drew ?_ | refine Ext.drewN ?_ _ | refine Ext.alloc ?_ _ | refine Ext.trans ?_ (by assumption)))⟩
  · have hvf : vecB p r b = false := by
      have : matB p r c xs = true := by simpa using hm
      rw [this] at h; simpa using h
    rw [hvf] at C1
    obtain ⟨a, cap, rfl, k1, k2, k3⟩ := hv
    obtain ⟨a', cap', rfl, k1', k2', k3'⟩ := hu
    have hA := hid (Blk.new w 25 #[.int .i64 r, .int .i64 c, .slice a xs.length cap])
    obtain ⟨b0, b1, b2⟩ := hA.out.at3
    unfold matV at C1
    unfold matV
    clear k3 k3' hx hb h hm hvf
    go_enter Try.func11, Try.ntmps11
    go_wp2_with (go_at_call 55; refine (C1.out _ (by repeat (first | exact Ext.refl _ | assumption | refine Ext.drew ?_ | refine Ext.drewN ?_ _ | refine Ext.alloc ?_ _ | refine Ext.trans ?_ (by assumption)))).mono ?_; rintro _ w1 ⟨rfl, x1⟩)
    go_ret2
    exact ⟨_, rfl, Ints.nil, (by repeat (first | exact Ext.refl _ | assumption | refine Ext.drew ?_ | refine Ext.drewN ?_ _ | refine Ext.alloc ?_ _ | refine Ext.trans ?_ (by assumption)))⟩
set_option maxHeartbeats 1000000 in
theorem svAgainst_arg (p r c : Int) (v u : Value) (xs b : List Int) (w : World) (h0 : 0 ≤ p) (h1 : p ≤ 18446744073709551615) (hv : Ints .u64 w v xs) (hx : U64s xs) (hu : Ints .u64 w u b) (hb : U64s b) (h : (matB p r c xs && vecB p r b) = false) : Calls Try.prog 12 #[.int .u64 p, matV r c v, u] w (RetE 1 [] w) := by
  have C1 := hid fun (W : World) (hW : Ext w W) => svBeside p r c v u xs b W h0 h1 (hv.ext hW) (hu.ext hW) hb
  by_cases hm : matB p r c xs = false
  · have C := hid fun (W : World) (hW : Ext w W) => svTake_no p r c v xs W h0 h1 (hv.ext hW) hx hm
    obtain ⟨B, eB⟩ : ∃ B, vecB p r b = B := ⟨_, rfl⟩
    rw [eB] at C1
    obtain ⟨a, cap, rfl, k1, k2, k3⟩ := hv
    obtain ⟨a', cap', rfl, k1', k2', k3'⟩ := hu
    have hA := hid (Blk.new w 25 #[.int .i64 r, .int .i64 c, .slice a xs.length cap])
    obtain ⟨b0, b1, b2⟩ := hA.out.at3
    unfold matV apV noS at C
    unfold matV at C1
    unfold matV
    clear k3 k3' hx hb h hm eB
    cases B with
    | false =>
      go_enter Try.func12, Try.ntmps12
      go_wp2_with (go_at_call 55; refine (C1.out _ (by repeat (first | exact Ext.refl _ | assumption | refine Ext.drew ?_ | refine Ext.drewN ?_ _ | refine Ext.alloc ?_ _ | refine Ext.trans ?_ (by assumption)))).mono ?_; rintro _ w1 ⟨rfl, x1⟩)
      go_ret2
      exact ⟨_, rfl, Ints.nil, (by repeat (first | exact Ext.refl _ | assumption | refine Ext.drew ?_ | refine Ext.drewN ?_ _ | refine Ext.alloc ?_ _ | refine Ext.trans ?_ (by assumption)))⟩
    | true =>
      go_enter Try.func12, Try.ntmps12
      go_wp2_with (first
        | (go_at_call 55; refine (C1.out _ (by repeat (first | exact Ext.refl _ | assumption | refine Ext.drew ?_ | refine Ext.drewN ?_ _ | refine Ext.alloc ?_ _ | refine Ext.trans ?_ (by assumption)))).mono ?_; rintro _ w1 ⟨rfl, x1⟩; have HA1 := hid (hA.out.ext x1); obtain ⟨d0, d1, d2⟩ := HA1.out.at3)
        | (go_at_call 56; refine (C.out _ (by repeat (first | exact Ext.refl _ | assumption | refine Ext.drew ?_ | refine Ext.drewN ?_ _ | refine Ext.alloc ?_ _ | refine Ext.trans ?_ (by assumption)))).mono ?_; rintro _ w2 ⟨rfl, x2⟩))
      go_ret2
      exact ⟨_, rfl, Ints.nil, (by repeat (first | exact Ext.refl _ | assumption | refine Ext.drew ?_ | refine Ext.drewN ?_ _ | refine Ext.alloc ?_ _ | refine Ext.trans ?_ (by assumption)))⟩
  · have hvf : vecB p r b = false := by
      have : matB p r c xs = true := by simpa using hm
      rw [this] at h; simpa using h
    rw [hvf] at C1
    obtain ⟨a, cap, rfl, k1, k2, k3⟩ := hv
    obtain ⟨a', cap', rfl, k1', k2', k3'⟩ := hu
    have hA := hid (Blk.new w 25 #[.int .i64 r, .int .i64 c, .slice a xs.length cap])
    obtain ⟨b0, b1, b2⟩ := hA.out.at3
    unfold matV at C1
    unfold matV
    clear k3 k3' hx hb h hm hvf
    go_enter Try.func12, Try.ntmps12
    go_wp2_with (go_at_call 55; refine (C1.out _ (by repeat (first | exact Ext.refl _ | assumption | refine Ext.drew ?_ | refine Ext.drewN ?_ _ | refine Ext.alloc ?_ _ | refine Ext.trans ?_ (by assumption)))).mono ?_; rintro _ w1 ⟨rfl, x1⟩)
    go_ret2
    exact ⟨_, rfl, Ints.nil, (by repeat (first | exact Ext.refl _ | assumption | refine Ext.drew ?_ | refine Ext.drewN ?_ _ | refine Ext.alloc ?_ _ | refine Ext.trans ?_ (by assumption)))⟩
set_option maxHeartbeats 1000000 in
theorem svRows_arg (p r c i : Int) (v : Value) (xs : List Int) (w : World) (h0 : 0 ≤ p) (h1 : p ≤ 18446744073709551615) (hv : Ints .u64 w v xs) (hx : U64s xs) (h : (matB p r c xs && (decide (0 ≤ i) && decide (i < r))) = false) : Calls Try.prog 15 #[.int .u64 p, matV r c v, .int .i64 i] w (RetE 1 [] w) := by
  have CT := hid fun (hm : matB p r c xs = false) (W : World) (hW : Ext w W) => svTake_no p r c v xs W h0 h1 (hv.ext hW) hx hm
  obtain ⟨a, cap, rfl, k1, k2, k3⟩ := hv
  have hA := hid (Blk.new w 25 #[.int .i64 r, .int .i64 c, .slice a xs.length cap])
  obtain ⟨b0, b1, b2⟩ := hA.out.at3
  unfold matV apV noS at CT
  unfold matV
  clear k3 hx
  by_cases n0 : i < 0
  · have t0 : decide (i < 0) = true := decide_eq_true n0
    clear h
    go_enter Try.func15, Try.ntmps15
    go_wp2_with fail
    go_ret2
    exact ⟨_, rfl, Ints.nil, (by repeat (first | exact Ext.refl _ | assumption | refine Ext.drew ?_ | refine Ext.drewN ?_ _ | refine Ext.alloc ?_ _ | refine Ext.trans ?_ (by assumption)))⟩
  · have t0 : decide (i < 0) = false := decide_eq_false n0
    by_cases n1 : i < r
    · have t1 : decide (r ≤ i) = false := decide_eq_false (by omega)
      rw [decide_eq_true (show 0 ≤ i by omega), decide_eq_true n1, Bool.and_true, Bool.and_true] at h
      have C := hid (CT.out h)
      clear h CT
      go_enter Try.func15, Try.ntmps15
      go_wp2_with (go_at_call 56; refine (C.out _ (by repeat (first | exact Ext.refl _ | assumption | refine Ext.drew ?_ | refine Ext.drewN ?_ _ | refine Ext.alloc ?_ _ | refine Ext.trans ?_ (by assumption)))).mono ?_; rintro _ w1 ⟨rfl, x1⟩)
      go_ret2
      exact ⟨_, rfl, Ints.nil, (by repeat (first | exact Ext.refl _ | assumption | refine Ext.drew ?_ | refine Ext.drewN ?_ _ | refine Ext.alloc ?_ _ | refine Ext.trans ?_ (by assumption)))⟩
    · have t1 : decide (r ≤ i) = true := decide_eq_true (by omega)
      clear h
      go_enter Try.func15, Try.ntmps15
      go_wp2_with fail
      go_ret2
      exact ⟨_, rfl, Ints.nil, (by repeat (first | exact Ext.refl _ | assumption | refine Ext.drew ?_ | refine Ext.drewN ?_ _ | refine Ext.alloc ?_ _ | refine Ext.trans ?_ (by assumption)))⟩
/-- no matrix, and an error's number -/
def RetNo (code : Int) (w : World) (e : Ending) (w' : World) : Prop := ∃ u, e = .returned (.tuple #[matV 0 0 u, .int .i64 code]) ∧ Ints .u64 w' u [] ∧ Ext w w'
theorem retNo {w w9 : World} {H : Nat} {code : Int} {tmps : Array Value} {x y z : Value} (hB : Blk w9 H 25 #[x, y, z]) (hx : Ext w w9) (hH : w.heap.size ≤ H) (h4 : tmps.getD 4 undef = .pointer (some ⟨H, 0, none⟩)) (h5 : tmps.getD 5 undef = .int .i64 code) :
    bodyPost Try.prog Try.f45 (RetNo code w) .ret { tmps := tmps, defers := [] } (((w9.setCell ⟨H, 0, none⟩ (.int .i64 0)).setCell ⟨H, 1, none⟩ (.int .i64 0)).setCell ⟨H, 2, none⟩ (.slice none 0 0)) := by
  refine bodyPost_ret (results_cell_row_tmp rfl _ _ H 25 _ (0, 0) _ h4 (((hB.set_ 0 (.int .i64 0)).set_ 1 (.int .i64 0)).set_ 2 (.slice none 0 0)) Try.underlying25 rfl (by kernel_rfl)) rfl ?_
  refine ⟨_, ?_, Ints.nil, ((hx.setCell (p := ⟨H, 0, none⟩) hH (.int .i64 0)).setCell (p := ⟨H, 1, none⟩) hH (.int .i64 0)).setCell (p := ⟨H, 2, none⟩) hH (.slice none 0 0)⟩
  rw [h5]; rfl
set_option maxHeartbeats 1000000 in
theorem svInverse_arg (p r c : Int) (v : Value) (xs : List Int) (w : World) (h0 : 0 ≤ p) (h1 : p ≤ 18446744073709551615) (hv : Ints .u64 w v xs) (hx : U64s xs) (h : (matB p r c xs && decide (r = c)) = false) : Calls Try.prog 45 #[.int .u64 p, matV r c v] w (RetNo 1 w) := by
  have CT := hid fun (hm : matB p r c xs = false) (W : World) (hW : Ext w W) => svTake_no p r c v xs W h0 h1 (hv.ext hW) hx hm
  obtain ⟨a, cap, rfl, k1, k2, k3⟩ := hv
  have hb2 := hid (boxes2 w 25 25 #[.int .i64 r, .int .i64 c, .slice a xs.length cap] #[.int .i64 0, .int .i64 0, .slice none 0 0])
  obtain ⟨c0, c1, c2⟩ := hb2.out.1.at3
  unfold matV apV noS at CT
  unfold matV
  clear k3 hx
  by_cases e : r = c
  · have t0 : (r != c) = false := by simp [e]
    rw [decide_eq_true e, Bool.and_true] at h
    have C := hid (CT.out h)
    clear e h CT
    go_enter Try.func45, Try.ntmps45
    go_wp2_with (go_at_call 56; refine (C.out _ (by repeat (first | exact Ext.refl _ | assumption | refine Ext.drew ?_ | refine Ext.drewN ?_ _ | refine Ext.alloc ?_ _ | refine Ext.trans ?_ (by assumption)))).mono ?_; rintro _ w1 ⟨rfl, x1⟩
                 have HR := hid ((hb2.out.2.1.ext x1).ext ((Ext.refl w1).alloc (.cells #[.slice none 0 0, .slice none 0 0, .slice none 0 0, .slice none 0 0, .int .u64 p, .int .i64 c] 73)))
                 obtain ⟨r0, r1, r2⟩ := HR.out.at3
                 have s0 := HR.out.frozen 0; have s1 := HR.out.frozen 1; have s2 := HR.out.frozen 2)
    exact retNo HR.out ((hb2.out.2.2.trans x1).alloc _) (Nat.le_succ _) rfl rfl
  · have t0 : (r != c) = true := by simp [e]
    obtain ⟨r0, r1, r2⟩ := hb2.out.2.1.at3
    have s0 := hb2.out.2.1.frozen 0; have s1 := hb2.out.2.1.frozen 1; have s2 := hb2.out.2.1.frozen 2
    clear e h CT
    go_enter Try.func45, Try.ntmps45
    go_wp2_with fail
    refine bodyPost_ret (results_cell_row_tmp rfl _ _ (w.heap.size + 1) 25 _ (0, 0) _ rfl hb2.out.2.1 Try.underlying25 rfl (by kernel_rfl)) rfl ?_
    exact ⟨_, rfl, Ints.nil, hb2.out.2.2⟩
set_option maxHeartbeats 1000000 in
theorem svInverse_no (p : Int) (n : Nat) (v : Value) (xs : List Int) (w : World) (ok : MatOk p n n xs) (hf : Fld p) (hv : Ints .u64 w v xs) (hr : (takeL p n n xs).U.length ≠ n) : Calls Try.prog 45 #[.int .u64 p, matV n n v] w (RetNo 6 w) := by
  have C2 := hid fun (W : World) (hW : Ext w W) => svTake p n n v xs W ok hf (hv.ext hW)
  have P := take_pt ok hf
  have rr := P.rr
  have hle := (takeL_ok (m := n) (n := n) (rightB_true ok.hp).1 hf ok.hx).le
  have lenR : (zL (takeL p n n xs).rows).length < n := by rw [zL_len, rr]; omega
  obtain ⟨CC, eC⟩ : ∃ CC, (takeL p n n xs).C.map (padL (takeL p n n xs).U.length) = CC := ⟨_, rfl⟩
  rw [eC] at C2
  obtain ⟨UU, eU⟩ : ∃ UU, (takeL p n n xs).U = UU := ⟨_, rfl⟩
  rw [eU] at C2
  obtain ⟨RR, eR⟩ : ∃ RR, (takeL p n n xs).rows = RR := ⟨_, rfl⟩
  rw [eR] at C2 lenR
  obtain ⟨KK, eK⟩ : ∃ KK, (takeL p n n xs).cols = KK := ⟨_, rfl⟩
  rw [eK] at C2
  obtain ⟨a, cap, rfl, k1, k2, k3⟩ := hv
  have hb2 := hid (boxes2 w 25 25 #[.int .i64 (n : Int), .int .i64 (n : Int), .slice a xs.length cap] #[.int .i64 0, .int .i64 0, .slice none 0 0])
  obtain ⟨c0, c1, c2⟩ := hb2.out.1.at3
  unfold matV at C2
  unfold matV
  have e1 : ((n : Int) != (n : Int)) = false := by simp
  clear k3 ok hf P rr eC eU eR eK hr hle
  go_enter Try.func45, Try.ntmps45
  go_wp2_with (first
    | (go_at_call 56; refine (C2.out _ (by repeat (first | exact Ext.refl _ | assumption | refine Ext.drew ?_ | refine Ext.drewN ?_ _ | refine Ext.alloc ?_ _ | refine Ext.trans ?_ (by assumption)))).mono ?_; rintro _ w2 ⟨rv, kv, Cv, Uv, rfl, hM, x2⟩
       obtain ⟨h1, h2, h3, h4⟩ := hM
       unfold apV
       obtain ⟨ar, cr, rfl, -, -, -⟩ := h1
       obtain ⟨ac, cc, rfl, -, -, -⟩ := h2
       obtain ⟨aC, cC, rfl, -, -, -⟩ := h3
       obtain ⟨aU, cU, rfl, -, -, -⟩ := h4
       obtain ⟨lr, elr⟩ : ∃ lr, (zL RR).length = lr := ⟨_, rfl⟩
       rw [elr] at lenR ⊢
       have e2 : decide ((lr : Int) < (n : Int)) = true := decide_eq_true (by omega)
       have e2' : decide (lr < n) = true := decide_eq_true lenR
       have HA2 := hid ((hb2.out.1.ext x2).ext ((Ext.refl w2).alloc (.cells #[.slice ar lr cr, .slice ac (zL KK).length cc, .slice aC CC.length cC, .slice aU UU.length cU, .int .u64 p, .int .i64 (n : Int)] 73)))
       obtain ⟨d0, d1, d2⟩ := HA2.out.at3
       have HR := hid ((hb2.out.2.1.ext x2).ext ((Ext.refl w2).alloc (.cells #[.slice ar lr cr, .slice ac (zL KK).length cc, .slice aC CC.length cC, .slice aU UU.length cU, .int .u64 p, .int .i64 (n : Int)] 73)))
       obtain ⟨r0, r1, r2⟩ := HR.out.at3
       have s0 := HR.out.frozen 0; have s1 := HR.out.frozen 1; have s2 := HR.out.frozen 2
       clear elr))
  exact retNo HR.out ((hb2.out.2.2.trans x2).alloc _) (Nat.le_succ _) rfl rfl
end Go.Proofs.Ytfpmcajndgkgeaa
