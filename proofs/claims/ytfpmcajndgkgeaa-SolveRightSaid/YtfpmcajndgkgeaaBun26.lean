/- What the texts SvN, SvC, SvR, SvT, SvA, Awake08 show, in one text. -/
import Derived.Test.YtfpmcajndgkgeaaSv9
import Derived.Test.YtfpmcajndgkgeaaBun15
import Derived.Test.YtfpmcajndgkgeaaBun19
import Derived.Test.YtfpmcajndgkgeaaBun18
import Derived.Test.YtfpmcajndgkgeaaBun21
import Derived.Test.YtfpmcajndgkgeaaBun25
import Derived.Test.YtfpmcajndgkgeaaBun05
import Derived.Test.YtfpmcajndgkgeaaBun11
/- Package solve: what isn't right. -/
namespace Go.Proofs.Ytfpmcajndgkgeaa
open Go.RowKit Go.Maps

def noS : Value := .slice none 0 0
set_option maxHeartbeats 1000000 in
theorem svTake_no (p r c : Int) (v : Value) (xs : List Int) (w : World) (h0 : 0 ≤ p) (h1 : p ≤ 18446744073709551615) (hv : Ints .u64 w v xs) (hx : U64s xs) (h : matB p r c xs = false) :
    Calls Try.prog 56 #[.int .u64 p, matV r c v] w (Ret (.tuple #[apV noS noS noS noS p c, .int .i64 1]) w) := by
  have C := hid fun (W : World) (hW : Ext w W) => cmTake_no p r c v xs W h0 h1 (hv.ext hW) hx h
  unfold noCup at C
  unfold apV noS
  obtain ⟨a, cap, rfl, k1, k2, k3⟩ := hv
  unfold matV at C ⊢
  have hb2 := hid (boxes2 w 25 73 #[.int .i64 r, .int .i64 c, .slice a xs.length cap] #[.slice none 0 0, .slice none 0 0, .slice none 0 0, .slice none 0 0, .int .u64 0, .int .i64 0])
  clear k3 hx h
  go_enter Try.func56, Try.ntmps56
  go_wp2_with (first
    | (go_at_call 94; refine (C.out _ (by repeat (first | exact Ext.refl _ | assumption | refine Ext.drew ?_ | refine Ext.drewN ?_ _ | refine Ext.alloc ?_ _ | refine Ext.trans ?_ (by assumption)))).mono ?_; rintro _ w1 ⟨rfl, x1⟩
       have HR := hid ((hb2.out.2.1.ext x1).ext ((Ext.refl w1).alloc (.cells #[.slice none 0 0, .slice none 0 0, .slice none 0 0, .slice none 0 0] 71)))
       have c1 := ((hb2.out.1.ext x1).ext ((Ext.refl w1).alloc (.cells #[.slice none 0 0, .slice none 0 0, .slice none 0 0, .slice none 0 0] 71))).cell 1
       have f0 := HR.out.frozen 0; have f1 := HR.out.frozen 1; have f2 := HR.out.frozen 2; have f3 := HR.out.frozen 3; have f4 := HR.out.frozen 4; have f5 := HR.out.frozen 5
       have r0 := HR.out.cell 0; have r1 := HR.out.cell 1; have r2 := HR.out.cell 2; have r3 := HR.out.cell 3; have r4 := HR.out.cell 4; have r5 := HR.out.cell 5))
  have FF := (((((HR.out.set_ 0 (.slice none 0 0)).set_ 1 (.slice none 0 0)).set_ 2 (.slice none 0 0)).set_ 3 (.slice none 0 0)).set_ 4 (.int .u64 p)).set_ 5 (.int .i64 c)
  have hgr : w1.grownBy _ (some (w.heap.size + 1)) := ((((((((Ext.refl w1).alloc (.cells #[.slice none 0 0, .slice none 0 0, .slice none 0 0, .slice none 0 0] 71)).grownBy (some (w.heap.size + 1))).trans (setCell_grown _ ⟨w.heap.size + 1, 0, none⟩ (.slice none 0 0))).trans (setCell_grown _ ⟨w.heap.size + 1, 1, none⟩ (.slice none 0 0))).trans (setCell_grown _ ⟨w.heap.size + 1, 2, none⟩ (.slice none 0 0))).trans (setCell_grown _ ⟨w.heap.size + 1, 3, none⟩ (.slice none 0 0))).trans (setCell_grown _ ⟨w.heap.size + 1, 4, none⟩ (.int .u64 p))).trans (setCell_grown _ ⟨w.heap.size + 1, 5, none⟩ (.int .i64 c))
  have hX : Ext w w1 := (by repeat (first | exact Ext.refl _ | assumption | refine Ext.drew ?_ | refine Ext.drewN ?_ _ | refine Ext.alloc ?_ _ | refine Ext.trans ?_ (by assumption)))
  have hX9 := grown_ext hgr hX (Nat.le_succ _)
  refine bodyPost_ret (results_cell_row_tmp rfl _ _ (w.heap.size + 1) 73 _ (0, 0) _ rfl FF Try.underlying73 rfl (by kernel_rfl)) rfl ?_
  exact ⟨rfl, hX9⟩
set_option maxHeartbeats 1000000 in
theorem svKernel_arg (p r c : Int) (v : Value) (xs : List Int) (w : World) (h0 : 0 ≤ p) (h1 : p ≤ 18446744073709551615) (hv : Ints .u64 w v xs) (hx : U64s xs) (h : matB p r c xs = false) : Calls Try.prog 13 #[.int .u64 p, matV r c v] w (RetE 1 [] w) := by
  have C := hid fun (W : World) (hW : Ext w W) => svTake_no p r c v xs W h0 h1 (hv.ext hW) hx h
  obtain ⟨a, cap, rfl, k1, k2, k3⟩ := hv
  unfold matV apV noS at C
  unfold matV
  clear k3 hx h
  go_enter Try.func13, Try.ntmps13
  go_wp2_with (go_at_call 56; refine (C.out _ (by repeat (first | exact Ext.refl _ | assumption | refine Ext.drew ?_ | refine Ext.drewN ?_ _ | refine Ext.alloc ?_ _ | refine Ext.trans ?_ (by assumption)))).mono ?_; rintro _ w1 ⟨rfl, x1⟩)
  go_ret2
  exact ⟨_, rfl, Ints.nil, (by repeat (first | exact Ext.refl _ | assumption | refine Ext.drew ?_ | refine Ext.drewN ?_ _ | refine Ext.alloc ?_ _ | refine Ext.trans ?_ (by assumption)))⟩
set_option maxHeartbeats 1000000 in
theorem svLeft_arg (p r c : Int) (v : Value) (xs : List Int) (w : World) (h0 : 0 ≤ p) (h1 : p ≤ 18446744073709551615) (hv : Ints .u64 w v xs) (hx : U64s xs) (h : matB p r c xs = false) : Calls Try.prog 14 #[.int .u64 p, matV r c v] w (RetE 1 [] w) := by
  have C := hid fun (W : World) (hW : Ext w W) => svTake_no p r c v xs W h0 h1 (hv.ext hW) hx h
  obtain ⟨a, cap, rfl, k1, k2, k3⟩ := hv
  unfold matV apV noS at C
  unfold matV
  clear k3 hx h
  go_enter Try.func14, Try.ntmps14
  go_wp2_with (go_at_call 56; refine (C.out _ (by repeat (first | exact Ext.refl _ | assumption | refine Ext.drew ?_ | refine Ext.drewN ?_ _ | refine Ext.alloc ?_ _ | refine Ext.trans ?_ (by assumption)))).mono ?_; rintro _ w1 ⟨rfl, x1⟩)
  go_ret2
  exact ⟨_, rfl, Ints.nil, (by repeat (first | exact Ext.refl _ | assumption | refine Ext.drew ?_ | refine Ext.drewN ?_ _ | refine Ext.alloc ?_ _ | refine Ext.trans ?_ (by assumption)))⟩
set_option maxHeartbeats 1000000 in
theorem svSolve_arg (p r c : Int) (v u : Value) (xs b : List Int) (w : World) (h0 : 0 ≤ p) (h1 : p ≤ 18446744073709551615) (hv : Ints .u64 w v xs) (hx : U64s xs) (hu : Ints .u64 w u b) (hb : U64s b) (h : (matB p r c xs && vecB p r b) = false) : Calls Try.prog 11 #[.int .u64 p, matV r c v, u] w (RetE 1 [] w) := by
  have C1 := hid fun (W : World) (hW : Ext w W) => svBeside p r c v u xs b W h0 h1 (hv.ext hW) (hu.ext hW) hb
  by_cases hm : matB p r c xs = false
  · have C := hid fun (W : World) (hW : Ext w W) => svTake_no p r c v xs W h0 h1 (hv.ext hW) hx hm
    obtain ⟨B, eB⟩ : ∃ B, vecB p r b = B := ⟨_, rfl⟩
    rw [eB] at C1
    obtain ⟨a, cap, rfl, k1, k2, k3⟩ := hv
    obtain ⟨a', cap', rfl, k1', k2', k3'⟩ := hu
    have hA := hid (Blk.new w 25 #[.int .i64 r, .int .i64 c, .slice a xs.length cap])
    obtain ⟨b0, b1, b2⟩ := hA.out.at3
    unfold matV apV noS at C
    unfold matV at C1
    unfold matV
    clear k3 k3' hx hb h hm eB
    cases B with
    | false =>
      go_enter Try.func11, Try.ntmps11
      go_wp2_with (go_at_call 55; refine (C1.out _ (by repeat (first | exact Ext.refl _ | assumption | refine Ext.drew ?_ | refine Ext.drewN ?_ _ | refine Ext.alloc ?_ _ | refine Ext.trans ?_ (by assumption)))).mono ?_; rintro _ w1 ⟨rfl, x1⟩)
      go_ret2
      exact ⟨_, rfl, Ints.nil, (by repeat (first | exact Ext.refl _ | assumption | refine Ext.drew ?_ | refine Ext.drewN ?_ _ | refine Ext.alloc ?_ _ | refine Ext.trans ?_ (by assumption)))⟩
    | true =>
      go_enter Try.func11, Try.ntmps11
      go_wp2_with (first
        | (go_at_call 55; refine (C1.out _ (by repeat (first | exact Ext.refl _ | assumption | refine Ext.drew ?_ | refine Ext.drewN ?_ _ | refine Ext.alloc ?_ _ | refine Ext.trans ?_ (by assumption)))).mono ?_; rintro _ w1 ⟨rfl, x1⟩; have HA1 := hid (hA.out.ext x1); obtain ⟨d0, d1, d2⟩ := HA1.out.at3)
        | (go_at_call 56; refine (C.out _ (by repeat (first | exact Ext.refl _ | assumption | refine Ext.drew ?_ | refine Ext.drewN ?_ _ | refine Ext.alloc ?_ _ | refine Ext.trans ?_ (by assumption)))).mono ?_; rintro _ w2 ⟨rfl, x2⟩))
      go_ret2
      exact ⟨_, rfl, Ints.nil, (by repeat (first | exact Ext.refl _ | assumption | refine Ext.drew ?_ | refine Ext.drewN ?_ _ | refine Ext.alloc ?_ _ | refine Ext.trans ?_ (by assumption)))⟩
  · have hvf : vecB p r b = false := by
      have : matB p r c xs = true := by simpa using hm
      rw [this] at h; simpa using h
    rw [hvf] at C1
    obtain ⟨a, cap, rfl, k1, k2, k3⟩ := hv
    obtain ⟨a', cap', rfl, k1', k2', k3'⟩ := hu
    have hA := hid (Blk.new w 25 #[.int .i64 r, .int .i64 c, .slice a xs.length cap])
    obtain ⟨b0, b1, b2⟩ := hA.out.at3
    unfold matV at C1
    unfold matV
    clear k3 k3' hx hb h hm hvf
    go_enter Try.func11, Try.ntmps11
    go_wp2_with (go_at_call 55; refine (C1.out _ (by repeat (first | exact Ext.refl _ | assumption | refine Ext.drew ?_ | refine Ext.drewN ?_ _ | refine Ext.alloc ?_ _ | refine Ext.trans ?_ (by assumption)))).mono ?_; rintro _ w1 ⟨rfl, x1⟩)
    go_ret2
    exact ⟨_, rfl, Ints.nil, (by repeat (first | exact Ext.refl _ | assumption | refine Ext.drew ?_ | refine Ext.drewN ?_ _ | refine Ext.alloc ?_ _ | refine Ext.trans ?_ (by assumption)))⟩
set_option maxHeartbeats 1000000 in
theorem svAgainst_arg (p r c : Int) (v u : Value) (xs b : List Int) (w : World) (h0 : 0 ≤ p) (h1 : p ≤ 18446744073709551615) (hv : Ints .u64 w v xs) (hx : U64s xs) (hu : Ints .u64 w u b) (hb : U64s b) (h : (matB p r c xs && vecB p r b) = false) : Calls Try.prog 12 #[.int .u64 p, matV r c v, u] w (RetE 1 [] w) := by
  have C1 := hid fun (W : World) (hW : Ext w W) => svBeside p r c v u xs b W h0 h1 (hv.ext hW) (hu.ext hW) hb
  by_cases hm : matB p r c xs = false
  · have C := hid fun (W : World) (hW : Ext w W) => svTake_no p r c v xs W h0 h1 (hv.ext hW) hx hm
    obtain ⟨B, eB⟩ : ∃ B, vecB p r b = B := ⟨_, rfl⟩
    rw [eB] at C1
    obtain ⟨a, cap, rfl, k1, k2, k3⟩ := hv
    obtain ⟨a', cap', rfl, k1', k2', k3'⟩ := hu
    have hA := hid (Blk.new w 25 #[.int .i64 r, .int .i64 c, .slice a xs.length cap])
    obtain ⟨b0, b1, b2⟩ := hA.out.at3
    unfold matV apV noS at C
    unfold matV at C1
    unfold matV
    clear k3 k3' hx hb h hm eB
    cases B with
    | false =>
      go_enter Try.func12, Try.ntmps12
      go_wp2_with (go_at_call 55; refine (C1.out _ (by repeat (first | exact Ext.refl _ | assumption | refine Ext.drew ?_ | refine Ext.drewN ?_ _ | refine Ext.alloc ?_ _ | refine Ext.trans ?_ (by assumption)))).mono ?_; rintro _ w1 ⟨rfl, x1⟩)
      go_ret2
      exact ⟨_, rfl, Ints.nil, (by repeat (first | exact Ext.refl _ | assumption | refine Ext.drew ?_ | refine Ext.drewN ?_ _ | refine Ext.alloc ?_ _ | refine Ext.trans ?_ (by assumption)))⟩
    | true =>
      go_enter Try.func12, Try.ntmps12
      go_wp2_with (first
        | (go_at_call 55; refine (C1.out _ (by repeat (first | exact Ext.refl _ | assumption | refine Ext.drew ?_ | refine Ext.drewN ?_ _ | refine Ext.alloc ?_ _ | refine Ext.trans ?_ (by assumption)))).mono ?_; rintro _ w1 ⟨rfl, x1⟩; have HA1 := hid (hA.out.ext x1); obtain ⟨d0, d1, d2⟩ := HA1.out.at3)
        | (go_at_call 56; refine (C.out _ (by repeat (first | exact Ext.refl _ | assumption | refine Ext.drew ?_ | refine Ext.drewN ?_ _ | refine Ext.alloc ?_ _ | refine Ext.trans ?_ (by assumption)))).mono ?_; rintro _ w2 ⟨rfl, x2⟩))
      go_ret2
      exact ⟨_, rfl, Ints.nil, (by repeat (first | exact Ext.refl _ | assumption | refine Ext.drew ?_ | refine Ext.drewN ?_ _ | refine Ext.alloc ?_ _ | refine Ext.trans ?_ (by assumption)))⟩
  · have hvf : vecB p r b = false := by
      have : matB p r c xs = true := by simpa using hm
      rw [this] at h; simpa using h
    rw [hvf] at C1
    obtain ⟨a, cap, rfl, k1, k2, k3⟩ := hv
    obtain ⟨a', cap', rfl, k1', k2', k3'⟩ := hu
    have hA := hid (Blk.new w 25 #[.int .i64 r, .int .i64 c, .slice a xs.length cap])
    obtain ⟨b0, b1, b2⟩ := hA.out.at3
    unfold matV at C1
    unfold matV
    clear k3 k3' hx hb h hm hvf
    go_enter Try.func12, Try.ntmps12
    go_wp2_with (go_at_call 55; refine (C1.out _ (by repeat (first | exact Ext.refl _ | assumption | refine Ext.drew ?_ | refine Ext.drewN ?_ _ | refine Ext.alloc ?_ _ | refine Ext.trans ?_ (by assumption)))).mono ?_; rintro _ w1 ⟨rfl, x1⟩)
    go_ret2
    exact ⟨_, rfl, Ints.nil, (by repeat (first | exact Ext.refl _ | assumption | refine Ext.drew ?_ | refine Ext.drewN ?_ _ | refine Ext.alloc ?_ _ | refine Ext.trans ?_ (by assumption)))⟩
set_option maxHeartbeats 1000000 in
theorem svRows_arg (p r c i : Int) (v : Value) (xs : List Int) (w : World) (h0 : 0 ≤ p) (h1 : p ≤ 18446744073709551615) (hv : Ints .u64 w v xs) (hx : U64s xs) (h : (matB p r c xs && (decide (0 ≤ i) && decide (i < r))) = false) : Calls Try.prog 15 #[.int .u64 p, matV r c v, .int .i64 i] w (RetE 1 [] w) := by
  have CT := hid fun (hm : matB p r c xs = false) (W : World) (hW : Ext w W) => svTake_no p r c v xs W h0 h1 (hv.ext hW) hx hm
  obtain ⟨a, cap, rfl, k1, k2, k3⟩ := hv
  have hA := hid (Blk.new w 25 #[.int .i64 r, .int .i64 c, .slice a xs.length cap])
  obtain ⟨b0, b1, b2⟩ := hA.out.at3
  unfold matV apV noS at CT
  unfold matV
  clear k3 hx
  by_cases n0 : i < 0
  · have t0 : decide (i < 0) = true := decide_eq_true n0
    clear h
    go_enter Try.func15, Try.ntmps15
    go_wp2_with fail
    go_ret2
    exact ⟨_, rfl, Ints.nil, (by repeat (first | exact Ext.refl _ | assumption | refine Ext.drew ?_ | refine Ext.drewN ?_ _ | refine Ext.alloc ?_ _ | refine Ext.trans ?_ (by assumption)))⟩
  · have t0 : decide (i < 0) = false := decide_eq_false n0
    by_cases n1 : i < r
    · have t1 : decide (r ≤ i) = false := decide_eq_false (by omega)
      rw [decide_eq_true (show 0 ≤ i by omega), decide_eq_true n1, Bool.and_true, Bool.and_true] at h
      have C := hid (CT.out h)
      clear h CT
      go_enter Try.func15, Try.ntmps15
      go_wp2_with (go_at_call 56; refine (C.out _ (by repeat (first | exact Ext.refl _ | assumption | refine Ext.drew ?_ | refine Ext.drewN ?_ _ | refine Ext.alloc ?_ _ | refine Ext.trans ?_ (by assumption)))).mono ?_; rintro _ w1 ⟨rfl, x1⟩)
      go_ret2
      exact ⟨_, rfl, Ints.nil, (by repeat (first | exact Ext.refl _ | assumption | refine Ext.drew ?_ | refine Ext.drewN ?_ _ | refine Ext.alloc ?_ _ | refine Ext.trans ?_ (by assumption)))⟩
    · have t1 : decide (r ≤ i) = true := decide_eq_true (by omega)
      clear h
      go_enter Try.func15, Try.ntmps15
      go_wp2_with fail
      go_ret2
      exact ⟨_, rfl, Ints.nil, (by repeat (first | exact Ext.refl _ | assumption | refine Ext.drew ?_ | refine Ext.drewN ?_ _ | refine Ext.alloc ?_ _ | refine Ext.trans ?_ (by assumption)))⟩
/-- no matrix, and an error's number -/
def RetNo (code : Int) (w : World) (e : Ending) (w' : World) : Prop := ∃ u, e = .returned (.tuple #[matV 0 0 u, .int .i64 code]) ∧ Ints .u64 w' u [] ∧ Ext w w'
theorem retNo {w w9 : World} {H : Nat} {code : Int} {tmps : Array Value} {x y z : Value} (hB : Blk w9 H 25 #[x, y, z]) (hx : Ext w w9) (hH : w.heap.size ≤ H) (h4 : tmps.getD 4 undef = .pointer (some ⟨H, 0, none⟩)) (h5 : tmps.getD 5 undef = .int .i64 code) :
    bodyPost Try.prog Try.f45 (RetNo code w) .ret { tmps := tmps, defers := [] } (((w9.setCell ⟨H, 0, none⟩ (.int .i64 0)).setCell ⟨H, 1, none⟩ (.int .i64 0)).setCell ⟨H, 2, none⟩ (.slice none 0 0)) := by
  refine bodyPost_ret (results_cell_row_tmp rfl _ _ H 25 _ (0, 0) _ h4 (((hB.set_ 0 (.int .i64 0)).set_ 1 (.int .i64 0)).set_ 2 (.slice none 0 0)) Try.underlying25 rfl (by kernel_rfl)) rfl ?_
  refine ⟨_, ?_, Ints.nil, ((hx.setCell (p := ⟨H, 0, none⟩) hH (.int .i64 0)).setCell (p := ⟨H, 1, none⟩) hH (.int .i64 0)).setCell (p := ⟨H, 2, none⟩) hH (.slice none 0 0)⟩
  rw [h5]; rfl
set_option maxHeartbeats 1000000 in
theorem svInverse_arg (p r c : Int) (v : Value) (xs : List Int) (w : World) (h0 : 0 ≤ p) (h1 : p ≤ 18446744073709551615) (hv : Ints .u64 w v xs) (hx : U64s xs) (h : (matB p r c xs && decide (r = c)) = false) : Calls Try.prog 45 #[.int .u64 p, matV r c v] w (RetNo 1 w) := by
  have CT := hid fun (hm : matB p r c xs = false) (W : World) (hW : Ext w W) => svTake_no p r c v xs W h0 h1 (hv.ext hW) hx hm
  obtain ⟨a, cap, rfl, k1, k2, k3⟩ := hv
  have hb2 := hid (boxes2 w 25 25 #[.int .i64 r, .int .i64 c, .slice a xs.length cap] #[.int .i64 0, .int .i64 0, .slice none 0 0])
  obtain ⟨c0, c1, c2⟩ := hb2.out.1.at3
  unfold matV apV noS at CT
  unfold matV
  clear k3 hx
  by_cases e : r = c
  · have t0 : (r != c) = false := by simp [e]
    rw [decide_eq_true e, Bool.and_true] at h
    have C := hid (CT.out h)
    clear e h CT
    go_enter Try.func45, Try.ntmps45
    go_wp2_with (go_at_call 56; refine (C.out _ (by repeat (first | exact Ext.refl _ | assumption | refine Ext.drew ?_ | refine Ext.drewN ?_ _ | refine Ext.alloc ?_ _ | refine Ext.trans ?_ (by assumption)))).mono ?_; rintro _ w1 ⟨rfl, x1⟩
                 have HR := hid ((hb2.out.2.1.ext x1).ext ((Ext.refl w1).alloc (.cells #[.slice none 0 0, .slice none 0 0, .slice none 0 0, .slice none 0 0, .int .u64 p, .int .i64 c] 73)))
                 obtain ⟨r0, r1, r2⟩ := HR.out.at3
                 have s0 := HR.out.frozen 0; have s1 := HR.out.frozen 1; have s2 := HR.out.frozen 2)
    exact retNo HR.out ((hb2.out.2.2.trans x1).alloc _) (Nat.le_succ _) rfl rfl
  · have t0 : (r != c) = true := by simp [e]
    obtain ⟨r0, r1, r2⟩ := hb2.out.2.1.at3
    have s0 := hb2.out.2.1.frozen 0; have s1 := hb2.out.2.1.frozen 1; have s2 := hb2.out.2.1.frozen 2
    clear e h CT
    go_enter Try.func45, Try.ntmps45
    go_wp2_with fail
    refine bodyPost_ret (results_cell_row_tmp rfl _ _ (w.heap.size + 1) 25 _ (0, 0) _ rfl hb2.out.2.1 Try.underlying25 rfl (by kernel_rfl)) rfl ?_
    exact ⟨_, rfl, Ints.nil, hb2.out.2.2⟩
set_option maxHeartbeats 1000000 in
theorem svInverse_no (p : Int) (n : Nat) (v : Value) (xs : List Int) (w : World) (ok : MatOk p n n xs) (hf : Fld p) (hv : Ints .u64 w v xs) (hr : (takeL p n n xs).U.length ≠ n) : Calls Try.prog 45 #[.int .u64 p, matV n n v] w (RetNo 6 w) := by
  have C2 := hid fun (W : World) (hW : Ext w W) => svTake p n n v xs W ok hf (hv.ext hW)
  have P := take_pt ok hf
  have rr := P.rr
  have hle := (takeL_ok (m := n) (n := n) (rightB_true ok.hp).1 hf ok.hx).le
  have lenR : (zL (takeL p n n xs).rows).length < n := by rw [zL_len, rr]; omega
  obtain ⟨CC, eC⟩ : ∃ CC, (takeL p n n xs).C.map (padL (takeL p n n xs).U.length) = CC := ⟨_, rfl⟩
  rw [eC] at C2
  obtain ⟨UU, eU⟩ : ∃ UU, (takeL p n n xs).U = UU := ⟨_, rfl⟩
  rw [eU] at C2
  obtain ⟨RR, eR⟩ : ∃ RR, (takeL p n n xs).rows = RR := ⟨_, rfl⟩
  rw [eR] at C2 lenR
  obtain ⟨KK, eK⟩ : ∃ KK, (takeL p n n xs).cols = KK := ⟨_, rfl⟩
  rw [eK] at C2
  obtain ⟨a, cap, rfl, k1, k2, k3⟩ := hv
  have hb2 := hid (boxes2 w 25 25 #[.int .i64 (n : Int), .int .i64 (n : Int), .slice a xs.length cap] #[.int .i64 0, .int .i64 0, .slice none 0 0])
  obtain ⟨c0, c1, c2⟩ := hb2.out.1.at3
  unfold matV at C2
  unfold matV
  have e1 : ((n : Int) != (n : Int)) = false := by simp
  clear k3 ok hf P rr eC eU eR eK hr hle
  go_enter Try.func45, Try.ntmps45
  go_wp2_with (first
    | (go_at_call 56; refine (C2.out _ (by repeat (first | exact Ext.refl _ | assumption | refine Ext.drew ?_ | refine Ext.drewN ?_ _ | refine Ext.alloc ?_ _ | refine Ext.trans ?_ (by assumption)))).mono ?_; rintro _ w2 ⟨rv, kv, Cv, Uv, rfl, hM, x2⟩
       obtain ⟨h1, h2, h3, h4⟩ := hM
       unfold apV
       obtain ⟨ar, cr, rfl, -, -, -⟩ := h1
       obtain ⟨ac, cc, rfl, -, -, -⟩ := h2
       obtain ⟨aC, cC, rfl, -, -, -⟩ := h3
       obtain ⟨aU, cU, rfl, -, -, -⟩ := h4
       obtain ⟨lr, elr⟩ : ∃ lr, (zL RR).length = lr := ⟨_, rfl⟩
       rw [elr] at lenR ⊢
       have e2 : decide ((lr : Int) < (n : Int)) = true := decide_eq_true (by omega)
       have e2' : decide (lr < n) = true := decide_eq_true lenR
       have HA2 := hid ((hb2.out.1.ext x2).ext ((Ext.refl w2).alloc (.cells #[.slice ar lr cr, .slice ac (zL KK).length cc, .slice aC CC.length cC, .slice aU UU.length cU, .int .u64 p, .int .i64 (n : Int)] 73)))
       obtain ⟨d0, d1, d2⟩ := HA2.out.at3
       have HR := hid ((hb2.out.2.1.ext x2).ext ((Ext.refl w2).alloc (.cells #[.slice ar lr cr, .slice ac (zL KK).length cc, .slice aC CC.length cC, .slice aU UU.length cU, .int .u64 p, .int .i64 (n : Int)] 73)))
       obtain ⟨r0, r1, r2⟩ := HR.out.at3
       have s0 := HR.out.frozen 0; have s1 := HR.out.frozen 1; have s2 := HR.out.frozen 2
       clear elr))
  exact retNo HR.out ((hb2.out.2.2.trans x2).alloc _) (Nat.le_succ _) rfl rfl
end Go.Proofs.Ytfpmcajndgkgeaa
/- What the functions of package solve answer: Sv1 to SvN show it of the program. -/
namespace Go.Proofs.Ytfpmcajndgkgeaa
open Go.RowKit

/-- what is against is the first of those that are -/
theorem AgOf.of {p : Int} {m n : Nat} {xs b : List Int} (ok : MatOk p m n xs) (hf : Fld p) (hb : b.length = m) (hr : Rng p b) (h : ¬ ∃ x, IsX p m n xs b x) : ∃ y, AgOf p m n xs b y := by
  have hex : ∃ i, ∃ y, i < m ∧ i ∉ (takeL p m n xs).rows ∧ IsY p m n xs i y ∧ dotF m (atV y) (atV b) % p ≠ 0 := by
    refine Classical.byContradiction fun hn => h (IsX.or ok hf hb hr fun i y hi hc hy => Classical.byContradiction fun hne => hn ⟨i, y, hi, hc, hy, hne⟩)
  obtain ⟨i, ⟨y, h1, h2, h3, h4⟩, h5⟩ : ∃ i, (∃ y, i < m ∧ i ∉ (takeL p m n xs).rows ∧ IsY p m n xs i y ∧ dotF m (atV y) (atV b) % p ≠ 0) ∧ ∀ k, k < i → ¬ ∃ y, k < m ∧ k ∉ (takeL p m n xs).rows ∧ IsY p m n xs k y ∧ dotF m (atV y) (atV b) % p ≠ 0 := by
    obtain ⟨i, hi⟩ := hex
    induction i using Nat.strongRecOn with
    | ind i ih =>
      by_cases hk : ∃ k, k < i ∧ ∃ y, k < m ∧ k ∉ (takeL p m n xs).rows ∧ IsY p m n xs k y ∧ dotF m (atV y) (atV b) % p ≠ 0
      · obtain ⟨k, hki, hk⟩ := hk
        exact ih k hki hk
      · exact ⟨i, hi, fun k hki hk' => hk ⟨k, hki, hk'⟩⟩
  exact ⟨y, i, h1, h2, h3, h4, fun k z hk hc hz => Classical.byContradiction fun hne => h5 k hk ⟨z, by omega, hc, hz, hne⟩⟩
theorem AgOf.none {p : Int} {m n : Nat} {xs b : List Int} {x : List Int} (h : IsX p m n xs b x) : ¬ ∃ y, AgOf p m n xs b y := fun ⟨_, _, _, _, hy, hne, _⟩ => hne (h.none hy)
end Go.Proofs.Ytfpmcajndgkgeaa
/- What solve's functions tell, in the document's own numbers. -/
namespace Go.Proofs.Ytfpmcajndgkgeaa
open Go.RowKit Go.Maps

theorem svSolveR (p : Int) (m n : Nat) (v u : Value) (xs b : List Int) (w : World) (ok : MatOk p m n xs) (hf : Fld p) (hv : Ints .u64 w v xs) (hu : Ints .u64 w u b) (hb : b.length = m) (hr : Rng p b) :
    Calls Try.prog 11 #[.int .u64 p, matV m n v, u] w (RetE (solCode p m n xs b) (solTold p m n xs b) w) := by
  unfold solCode solTold
  by_cases h : timesL p m n xs (solX p m n xs b) = b
  · rw [if_pos h, if_pos h]
    exact svSolve_yes p m n v u xs b _ w ok hf hv hu hb hr (solX_is ok hf h)
  · rw [if_neg h, if_neg h]
    exact svSolve_no p m n v u xs b w ok hf hv hu hb hr fun ⟨x, hx⟩ => h (by rw [solX_eq ok hf hx]; exact hx.sol)
/-- what Kernel tells -/
noncomputable def kCode (p : Int) (m n : Nat) (xs : List Int) : Int := if freeC n (takeL p m n xs).cols < n then 0 else 6
noncomputable def kTold (p : Int) (m n : Nat) (xs : List Int) : List Int := if freeC n (takeL p m n xs).cols < n then solK p m n xs else []
theorem r8KernelA (p : Int) (m n : Nat) (v : Value) (xs : List Int) (w : World) (ok : MatOk p m n xs) (hf : Fld p) (hv : Ints .u64 w v xs) :
    Calls Try.prog 21 #[.int .u64 p, matV m n v] w (RetE (kCode p m n xs) (kTold p m n xs) w) := by
  unfold kCode kTold
  by_cases h : freeC n (takeL p m n xs).cols < n
  · rw [if_pos h, if_pos h]
    exact r8Kernel p m n v xs w ok hf hv h
  · rw [if_neg h, if_neg h]
    exact r8Kernel_no p m n v xs w ok hf hv h
theorem free_rank {p : Int} {m n : Nat} {xs : List Int} (ok : MatOk p m n xs) (hf : Fld p) : freeC n (takeL p m n xs).cols < n ↔ (takeL p m n xs).U.length < n := by
  have h := takeL_ok (m := m) (n := n) (rightB_true ok.hp).1 hf ok.hx
  rw [← h.lk]
  exact freeC_lt h.cols_nodup fun c hc => h.cols_lt hc
theorem svKernelR (p : Int) (m n : Nat) (v : Value) (xs : List Int) (w : World) (ok : MatOk p m n xs) (hf : Fld p) (hv : Ints .u64 w v xs) :
    Calls Try.prog 13 #[.int .u64 p, matV m n v] w (RetE (kCode p m n xs) (kTold p m n xs) w) := by
  unfold kCode kTold
  by_cases h : freeC n (takeL p m n xs).cols < n
  · rw [if_pos h, if_pos h]
    have hr := (free_rank ok hf).1 h
    obtain ⟨x, hx⟩ := IsK.of ok hf hr
    rw [solK_eq ok hf hx h]
    exact svKernel_yes p m n v xs x w ok hf hv hx hr
  · rw [if_neg h, if_neg h]
    exact svKernel_no p m n v xs w ok hf hv fun hr => h ((free_rank ok hf).2 hr)
theorem svRowsR (p : Int) (m n : Nat) (v : Value) (xs : List Int) (I : Nat) (w : World) (ok : MatOk p m n xs) (hf : Fld p) (hv : Ints .u64 w v xs) (hI : I < m) :
    Calls Try.prog 15 #[.int .u64 p, matV m n v, .int .i64 (I : Int)] w (RetE (yCode p m n xs I) (yTold p m n xs I) w) := by
  unfold yCode yTold
  by_cases e : I ∈ (takeL p m n xs).rows
  · rw [if_pos e, if_pos e]
    exact svRows_no p m n I v xs w ok hf hv hI e
  · rw [if_neg e, if_neg e]
    obtain ⟨y, hy⟩ := IsY.of ok hf hI e
    rw [solY_eq ok hf hI e hy]
    exact svRows_yes p m n I v xs y w ok hf hv hI e hy
theorem LQ.one {p : Int} {m n : Nat} {xs : List Int} {c d : Int} {l k : List Int} (h : LQ p m n xs c l) (g : LQ p m n xs d k) : c = d ∧ l = k := by
  rcases h with ⟨rfl, i, h1, h2, h3, rfl⟩ | ⟨rfl, rfl, h1⟩ <;> rcases g with ⟨rfl, j, g1, g2, g3, rfl⟩ | ⟨rfl, rfl, g1⟩
  · rcases Nat.lt_trichotomy i j with c | c | c
    · exact absurd (g3 i c) h2
    · subst c; exact ⟨rfl, rfl⟩
    · exact absurd (h3 j c) g2
  · exact absurd (g1 i h1) h2
  · exact absurd (h1 j g1) g2
  · exact ⟨rfl, rfl⟩
theorem AQ.one {p : Int} {m n : Nat} {xs b : List Int} {c d : Int} {l k : List Int} (h : AQ p m n xs b c l) (g : AQ p m n xs b d k) : c = d ∧ l = k := by
  rcases h with ⟨rfl, i, h1, h2, h4, h3, rfl⟩ | ⟨rfl, rfl, h1⟩ <;> rcases g with ⟨rfl, j, g1, g2, g4, g3, rfl⟩ | ⟨rfl, rfl, g1⟩
  · rcases Nat.lt_trichotomy i j with c | c | c
    · exact absurd (g3 i c h2) h4
    · subst c; exact ⟨rfl, rfl⟩
    · exact absurd (h3 j c g2) g4
  · exact absurd (g1 i h1 h2) h4
  · exact absurd (h1 j g1 g2) g4
  · exact ⟨rfl, rfl⟩
theorem isY_dot {p : Int} {m n : Nat} {xs b : List Int} (ok : MatOk p m n xs) (hf : Fld p) (hb : b.length = m) {i : Nat} {y : List Int} (hi : i < m) (hc : i ∉ (takeL p m n xs).rows) (hy : IsY p m n xs i y) : solY p m n xs i = y ∧ dotZ (solY p m n xs i) b = dotF m (atV y) (atV b) := by
  have e := solY_eq ok hf hi hc hy
  refine ⟨e, ?_⟩
  rw [e, dotZ_sm y b (by rw [hy.len, hb]), hy.len]
  rfl
theorem AgQ.to {p : Int} {m n : Nat} {xs b : List Int} {c : Int} {l : List Int} (ok : MatOk p m n xs) (hf : Fld p) (hb : b.length = m) (h : AgQ p m n xs b c l) : AQ p m n xs b c l := by
  rcases h with ⟨rfl, i, h1, h2, h3, h4, h5⟩ | ⟨rfl, rfl, h1⟩
  · obtain ⟨e1, e2⟩ := isY_dot ok hf hb h1 h2 h3
    refine Or.inl ⟨rfl, i, h1, h2, by rw [e2]; exact h4, fun k hk hkc => ?_, e1.symm⟩
    obtain ⟨z, hz⟩ := IsY.of ok hf (Nat.lt_trans hk h1) hkc
    rw [(isY_dot ok hf hb (Nat.lt_trans hk h1) hkc hz).2]
    exact h5 k z hk hkc hz
  · refine Or.inr ⟨rfl, rfl, ?_⟩
    intro k
    induction k using Nat.strongRecOn with
    | _ k ih =>
      intro hk hkc
      obtain ⟨z, hz⟩ := IsY.of ok hf hk hkc
      rw [(isY_dot ok hf hb hk hkc hz).2]
      refine Classical.byContradiction fun hne => h1 ⟨z, k, hk, hkc, hz, hne, fun j y hj hjc hy => ?_⟩
      rw [← (isY_dot ok hf hb (Nat.lt_trans hj hk) hjc hy).2]
      exact ih j hj (Nat.lt_trans hj hk) hjc
theorem svAgainstR (p : Int) (m n : Nat) (v u : Value) (xs b : List Int) (w : World) (ok : MatOk p m n xs) (hf : Fld p) (hv : Ints .u64 w v xs) (hu : Ints .u64 w u b) (hb : b.length = m) (hr : Rng p b) :
    Calls Try.prog 12 #[.int .u64 p, matV m n v, u] w fun e w' => ∃ code l, AQ p m n xs b code l ∧ RetE code l w e w' :=
  (svAgainst p m n v u xs b w ok hf hv hu hb hr).mono fun _ _ ⟨code, l, hq, he⟩ => ⟨code, l, hq.to ok hf hb, he⟩
theorem rows_nd {p : Int} {m n : Nat} {xs : List Int} (ok : MatOk p m n xs) (hf : Fld p) : (takeL p m n xs).rows.Nodup := by
  have ht := takeL_ok (m := m) (n := n) (rightB_true ok.hp).1 hf ok.hx
  unfold List.Nodup
  rw [List.pairwise_iff_getElem]
  intro i k hi hk hik e
  have := ht.inc i k hik hk
  simp only [List.getD, List.getElem?_eq_getElem hi, List.getElem?_eq_getElem hk, Option.getD_some] at this
  omega
theorem svLeftR (p : Int) (m n : Nat) (v : Value) (xs : List Int) (w : World) (ok : MatOk p m n xs) (hf : Fld p) (hv : Ints .u64 w v xs) :
    Calls Try.prog 14 #[.int .u64 p, matV m n v] w fun e w' => ∃ code l, LQ p m n xs code l ∧ RetE code l w e w' := by
  have h := takeL_ok (m := m) (n := n) (rightB_true ok.hp).1 hf ok.hx
  have hnd := rows_nd ok hf
  by_cases hr : (takeL p m n xs).U.length < m
  · have hfr : freeC m (takeL p m n xs).rows < m := (freeC_lt hnd fun c hc => h.rows_lt hc).2 (by rw [h.lr]; exact hr)
    obtain ⟨y, hy⟩ := IsY.of ok hf hfr (freeC_not hfr)
    exact (svLeft_yes p m n v xs y w ok hf hv ⟨_, hfr, freeC_not hfr, hy, fun k hk => freeC_low hk⟩).mono fun _ _ he => ⟨0, y, Or.inl ⟨rfl, _, hfr, freeC_not hfr, fun k hk => freeC_low hk, (solY_eq ok hf hfr (freeC_not hfr) hy).symm⟩, he⟩
  · refine (svLeft_no p m n v xs w ok hf hv hr).mono fun _ _ he => ⟨6, [], Or.inr ⟨rfl, rfl, fun k hk => ?_⟩, he⟩
    refine Classical.byContradiction fun hk' => ?_
    have hl := offE_len (k := m) hnd fun c hc => h.rows_lt hc
    have hmem : k ∈ offE m (takeL p m n xs).rows := offE_mem.2 ⟨hk, hk'⟩
    have := List.length_pos_of_mem hmem
    have := h.lr
    omega
end Go.Proofs.Ytfpmcajndgkgeaa
/- What the law SolveRight finds: each function's code and numbers, and the document's. -/
namespace Go.Proofs.Ytfpmcajndgkgeaa
open Go.RowKit Go.Maps

theorem LQ.ex (p : Int) (m n : Nat) (xs : List Int) : ∃ c l, LQ p m n xs c l := by
  by_cases h : ∀ k, k < m → k ∈ (takeL p m n xs).rows
  · exact ⟨6, [], Or.inr ⟨rfl, rfl, h⟩⟩
  · have hf : freeC m (takeL p m n xs).rows < m := Classical.byContradiction fun hn => h fun k hk => freeC_low (n := m) (by have := freeC_le m (takeL p m n xs).rows; omega)
    exact ⟨0, _, Or.inl ⟨rfl, _, hf, freeC_not hf, fun k hk => freeC_low hk, rfl⟩⟩
theorem AQ.ex (p : Int) (m n : Nat) (xs b : List Int) : ∃ c l, AQ p m n xs b c l := by
  by_cases h : ∀ k, k < m → k ∉ (takeL p m n xs).rows → dotZ (solY p m n xs k) b % p = 0
  · exact ⟨6, [], Or.inr ⟨rfl, rfl, h⟩⟩
  · have hex : ∃ k, k < m ∧ k ∉ (takeL p m n xs).rows ∧ dotZ (solY p m n xs k) b % p ≠ 0 := Classical.byContradiction fun hn => h fun k hk hc => Classical.byContradiction fun hne => hn ⟨k, hk, hc, hne⟩
    obtain ⟨i, h1, h2, h3, h4⟩ : ∃ i, i < m ∧ i ∉ (takeL p m n xs).rows ∧ dotZ (solY p m n xs i) b % p ≠ 0 ∧ ∀ k, k < i → k ∉ (takeL p m n xs).rows → dotZ (solY p m n xs k) b % p = 0 := by
      obtain ⟨i, hi⟩ := hex
      induction i using Nat.strongRecOn with
      | ind i ih =>
        by_cases hk : ∃ k, k < i ∧ k ∉ (takeL p m n xs).rows ∧ dotZ (solY p m n xs k) b % p ≠ 0
        · obtain ⟨k, hki, hk⟩ := hk
          exact ih k hki ⟨Nat.lt_trans hki hi.1, hk⟩
        · exact ⟨i, hi.1, hi.2.1, hi.2.2, fun k hki hc => Classical.byContradiction fun hne => hk ⟨k, hki, hc, hne⟩⟩
    exact ⟨0, _, Or.inl ⟨rfl, i, h1, h2, h3, h4, rfl⟩⟩
/-- the document's five answers, as far as they are asked -/
def Asked (p : Int) (m n : Nat) (v u : Value) (b : List Int) (i : Int) (w : World) (e1 : Int) (l1 : List Int) (e2 : Int) (l2 : List Int) (e3 : Int) (l3 : List Int) (e4 : Int) (l4 : List Int) (e5 : Int) (l5 : List Int) : Prop :=
  (vecB p m b = false → (e1 = 1 ∧ l1 = []) ∧ (e2 = 1 ∧ l2 = [])) ∧
  (vecB p m b = true → (∀ W, Ext w W → Calls Try.prog 18 #[.int .u64 p, matV m n v, u] W (RetE e1 l1 W)) ∧ (∀ W, Ext w W → Calls Try.prog 19 #[.int .u64 p, matV m n v, u] W (RetE e2 l2 W))) ∧
  (∀ W, Ext w W → Calls Try.prog 21 #[.int .u64 p, matV m n v] W (RetE e3 l3 W)) ∧
  (∀ W, Ext w W → Calls Try.prog 22 #[.int .u64 p, matV m n v] W (RetE e4 l4 W)) ∧
  ((decide (0 ≤ i) && decide (i < (m : Int))) = false → e5 = 1 ∧ l5 = []) ∧
  ((decide (0 ≤ i) && decide (i < (m : Int))) = true → ∀ W, Ext w W → Calls Try.prog 23 #[.int .u64 p, matV m n v, .int .i64 i] W (RetE e5 l5 W))
/-- what the program tells, whatever it is asked -/
def Told (p r c : Int) (v u : Value) (i : Int) (w : World) (e1 : Int) (l1 : List Int) (e2 : Int) (l2 : List Int) (e3 : Int) (l3 : List Int) (e4 : Int) (l4 : List Int) (e5 : Int) (l5 : List Int) : Prop :=
  (∀ W, Ext w W → Calls Try.prog 11 #[.int .u64 p, matV r c v, u] W (RetE e1 l1 W)) ∧
  (∀ W, Ext w W → Calls Try.prog 12 #[.int .u64 p, matV r c v, u] W (RetE e2 l2 W)) ∧
  (∀ W, Ext w W → Calls Try.prog 13 #[.int .u64 p, matV r c v] W (RetE e3 l3 W)) ∧
  (∀ W, Ext w W → Calls Try.prog 14 #[.int .u64 p, matV r c v] W (RetE e4 l4 W)) ∧
  (∀ W, Ext w W → Calls Try.prog 15 #[.int .u64 p, matV r c v, .int .i64 i] W (RetE e5 l5 W))
theorem told_no (p r c : Int) (v u : Value) (xs b : List Int) (i : Int) (w : World) (h0 : 0 ≤ p) (h1 : p ≤ 18446744073709551615) (hv : Ints .u64 w v xs) (hx : U64s xs) (hu : Ints .u64 w u b) (hb : U64s b) (h : matB p r c xs = false) :
    Told p r c v u i w 1 [] 1 [] 1 [] 1 [] 1 [] :=
  ⟨fun W hW => svSolve_arg p r c v u xs b W h0 h1 (hv.ext hW) hx (hu.ext hW) hb (by rw [h]; rfl), fun W hW => svAgainst_arg p r c v u xs b W h0 h1 (hv.ext hW) hx (hu.ext hW) hb (by rw [h]; rfl),
    fun W hW => svKernel_arg p r c v xs W h0 h1 (hv.ext hW) hx h, fun W hW => svLeft_arg p r c v xs W h0 h1 (hv.ext hW) hx h, fun W hW => svRows_arg p r c i v xs W h0 h1 (hv.ext hW) hx (by rw [h]; rfl)⟩
theorem told_yes (p : Int) (m n : Nat) (v u : Value) (xs b : List Int) (i : Int) (w : World) (ok : MatOk p m n xs) (hf : Fld p) (hv : Ints .u64 w v xs) (hu : Ints .u64 w u b) (hb : U64s b) :
    ∃ e1 l1 e2 l2 e3 l3 e4 l4 e5 l5, Told p m n v u i w e1 l1 e2 l2 e3 l3 e4 l4 e5 l5 ∧ Asked p m n v u b i w e1 l1 e2 l2 e3 l3 e4 l4 e5 l5 := by
  have hp2 := rightB_true ok.hp
  obtain ⟨ce, cl, hL⟩ := LQ.ex p m n xs
  have K3 := fun W hW => svKernelR p m n v xs W ok hf (hv.ext (w' := W) hW)
  have R3 := fun W hW => r8KernelA p m n v xs W ok hf (hv.ext (w' := W) hW)
  have K4 : ∀ W, Ext w W → Calls Try.prog 14 #[.int .u64 p, matV m n v] W (RetE ce cl W) := fun W hW => (svLeftR p m n v xs W ok hf (hv.ext hW)).mono fun _ _ ⟨_, _, hq, he⟩ => by
    obtain ⟨rfl, rfl⟩ := LQ.one hL hq
    exact he
  have R4 : ∀ W, Ext w W → Calls Try.prog 22 #[.int .u64 p, matV m n v] W (RetE ce cl W) := fun W hW => (r8Left p m n v xs W ok hf (hv.ext hW)).mono fun _ _ ⟨_, _, hq, he⟩ => by
    obtain ⟨rfl, rfl⟩ := LQ.one hL hq
    exact he
  have H5 : ∃ e5 l5, (∀ W, Ext w W → Calls Try.prog 15 #[.int .u64 p, matV m n v, .int .i64 i] W (RetE e5 l5 W)) ∧ ((decide (0 ≤ i) && decide (i < (m : Int))) = false → e5 = 1 ∧ l5 = []) ∧
      ((decide (0 ≤ i) && decide (i < (m : Int))) = true → ∀ W, Ext w W → Calls Try.prog 23 #[.int .u64 p, matV m n v, .int .i64 i] W (RetE e5 l5 W)) := by
    cases hi : (decide (0 ≤ i) && decide (i < (m : Int))) with
    | false => exact ⟨1, [], fun W hW => svRows_arg p m n i v xs W (by omega) (by omega) (hv.ext hW) ok.u64 (by rw [hi, Bool.and_false]), fun _ => ⟨rfl, rfl⟩, fun h => Bool.noConfusion h⟩
    | true =>
      simp only [Bool.and_eq_true, decide_eq_true_eq] at hi
      obtain ⟨I, rfl⟩ := Int.eq_ofNat_of_zero_le hi.1
      have hI : I < m := by omega
      exact ⟨_, _, fun W hW => svRowsR p m n v xs I W ok hf (hv.ext hW) hI, fun h => Bool.noConfusion h, fun _ W hW => r8RowsA p m n v xs I W ok hf (hv.ext hW) hI⟩
  obtain ⟨e5, l5, K5, N5, R5⟩ := H5
  cases hvb : vecB p m b with
  | false =>
    exact ⟨1, [], 1, [], _, _, ce, cl, e5, l5, ⟨fun W hW => svSolve_arg p m n v u xs b W (by omega) (by omega) (hv.ext hW) ok.u64 (hu.ext hW) hb (by rw [hvb, Bool.and_false]), fun W hW => svAgainst_arg p m n v u xs b W (by omega) (by omega) (hv.ext hW) ok.u64 (hu.ext hW) hb (by rw [hvb, Bool.and_false]), K3, K4, K5⟩,
      ⟨fun _ => ⟨⟨rfl, rfl⟩, rfl, rfl⟩, fun h => Bool.noConfusion (hvb.symm.trans h), R3, R4, N5, R5⟩⟩
  | true =>
    obtain ⟨_, hr, hl⟩ := vecB_true hb hvb
    have hl' : b.length = m := by omega
    obtain ⟨ae, al, hA⟩ := AQ.ex p m n xs b
    refine ⟨_, _, ae, al, _, _, ce, cl, e5, l5, ⟨fun W hW => svSolveR p m n v u xs b W ok hf (hv.ext hW) (hu.ext hW) hl' hr, fun W hW => (svAgainstR p m n v u xs b W ok hf (hv.ext hW) (hu.ext hW) hl' hr).mono fun _ _ ⟨_, _, hq, he⟩ => ?_, K3, K4, K5⟩,
      ⟨fun h => Bool.noConfusion (hvb.symm.trans h), fun _ => ⟨fun W hW => r8Solve p m n v u xs b W ok hf (hv.ext hW) (hu.ext hW) hl' hr, fun W hW => (r8Against p m n v u xs b W ok hf (hv.ext hW) (hu.ext hW) hl' hr).mono fun _ _ ⟨_, _, hq, he⟩ => ?_⟩, R3, R4, N5, R5⟩⟩
    · obtain ⟨rfl, rfl⟩ := AQ.one hA hq
      exact he
    · obtain ⟨rfl, rfl⟩ := AQ.one hA hq
      exact he
end Go.Proofs.Ytfpmcajndgkgeaa
/- The matrices of layer 8's first look, taken apart by hand (in plain Lean; nothing of a program). -/
namespace Go.Proofs.Ytfpmcajndgkgeaa

def xs8 : List Int := [1, 2, 2, 4]
theorem ok8 : MatOk 7 2 2 xs8 := ⟨by decide, by unfold Rng xs8; decide, by decide, by decide, rfl⟩
theorem take8 : takeL 7 2 2 xs8 = ⟨[[1], [2]], [0], [0], [[1, 2]]⟩ := by
  have hm : minv 7 1 = 1 := minv_eq (by decide) (by decide) (by decide)
  have s0 : stepE 7 2 .nil 0 (rowOf 2 xs8 0) = some ⟨[[1]], [0], [0], [[1, 2]]⟩ := by
    unfold stepE
    simp only [ElE.nil, List.length_nil, elimE]
    rw [if_pos (by decide), if_pos (by decide)]
    rfl
  have hq : mulE 7 [1, 2] 0 (rowOf 2 xs8 1) = 2 := by
    unfold mulE
    rw [show ([1, 2] : List Int).getD 0 0 = 1 from rfl, hm]
    decide
  have hr : restE 7 2 [1, 2] 0 (rowOf 2 xs8 1) = [0, 0] := by
    unfold restE
    rw [hq]
    decide
  have he : elimE 7 2 [[1, 2]] [0] (rowOf 2 xs8 1) 1 = ([2], [0, 0]) := by
    show (([] : List Int) ++ [mulE 7 [1, 2] 0 (rowOf 2 xs8 1)], restE 7 2 [1, 2] 0 (rowOf 2 xs8 1)) = _
    rw [hq, hr]; rfl
  have s1 : stepE 7 2 ⟨[[1]], [0], [0], [[1, 2]]⟩ 1 (rowOf 2 xs8 1) = some ⟨[[1], [2]], [0], [0], [[1, 2]]⟩ := by
    unfold stepE
    simp only [List.length_cons, List.length_nil, Nat.zero_add]
    rw [he, if_neg (by decide)]
    rfl
  unfold takeL
  simp only [takeE, Option.bind_some, s0, s1, Option.getD_some]
theorem sol8 : IsX 7 2 2 xs8 [1, 2] [1, 0] := by
  refine ⟨rfl, by unfold Rng; decide, by decide, fun j hj hc => ?_⟩
  rw [take8] at hc
  have : j = 0 ∨ j = 1 := by omega
  rcases this with rfl | rfl
  · exact absurd (by decide) hc
  · rfl
theorem y8 : IsY 7 2 2 xs8 1 [5, 1] := by
  refine ⟨rfl, by unfold Rng; decide, by decide, rfl, fun j hj hc hne => ?_⟩
  rw [take8] at hc
  have : j = 0 := by omega
  subst this
  exact absurd (by decide) hc
theorem ag8 : AgOf 7 2 2 xs8 [1, 3] [5, 1] := by
  refine ⟨1, by decide, by rw [take8]; decide, y8, by decide, fun k z hk hc => ?_⟩
  rw [take8] at hc
  have : k = 0 := by omega
  subst this
  exact absurd (by decide) hc
theorem le8 : LeOf 7 2 2 xs8 [5, 1] := by
  refine ⟨1, by decide, by rw [take8]; decide, y8, fun k hk => ?_⟩
  rw [take8]
  have : k = 0 := by omega
  subst this
  decide
theorem k8 : IsK 7 2 2 xs8 [5, 1] := by
  have hf : freeC 2 (takeL 7 2 2 xs8).cols = 1 := by rw [take8]; decide
  refine ⟨rfl, by unfold Rng; decide, by decide, by rw [hf]; rfl, fun j hj hc hne => ?_⟩
  rw [hf] at hne
  rw [take8] at hc
  have : j = 0 := by omega
  subst this
  exact absurd (by decide) hc
theorem ok8i : MatOk 7 1 1 [3] := ⟨by decide, by unfold Rng; decide, by decide, by decide, rfl⟩
theorem inv8 : IsInv 7 1 [3] [5] := ⟨rfl, by unfold Rng; decide, by decide⟩
theorem rank8i : (takeL 7 1 1 [3]).U.length = 1 := by
  have h := det_rank (n := 1) (xs := [3]) (p := 7) (by decide) fld7 ok8i.hx
  have e : detF 1 (atF 1 [3]) % 7 = 3 := by decide
  rw [e] at h
  exact Classical.byContradiction fun hn => absurd (h.2 hn) (by decide)
end Go.Proofs.Ytfpmcajndgkgeaa
/- The first look of layer 8's laws: it answers true. -/
namespace Go.Proofs.Ytfpmcajndgkgeaa
open Go.RowKit Go.Maps

set_option maxRecDepth 100000 in
set_option maxHeartbeats 2000000 in
theorem awake08 (w : World) : Calls Try.prog 9 #[] w (Ret (.bool true) w) := by
  have C1 := hid fun (W : World) (v u : Value) (hv : Ints .u64 W v xs8) (hu : Ints .u64 W u [1, 2]) => (show Calls Try.prog 11 #[.int .u64 7, .agg #[.int .i64 2, .int .i64 2, v], u] W (RetE 0 [1, 0] W) from svSolve_yes 7 2 2 v u xs8 [1, 2] [1, 0] W ok8 fld7 hv hu rfl (by unfold Rng; decide) sol8)
  have C2 := hid fun (W : World) (v u : Value) (hv : Ints .u64 W v xs8) (hu : Ints .u64 W u [1, 3]) => (show Calls Try.prog 12 #[.int .u64 7, .agg #[.int .i64 2, .int .i64 2, v], u] W (RetE 0 [5, 1] W) from svAgainst_yes 7 2 2 v u xs8 [1, 3] [5, 1] W ok8 fld7 hv hu rfl (by unfold Rng; decide) ag8)
  have C3 := hid fun (W : World) (v : Value) (hv : Ints .u64 W v xs8) => (show Calls Try.prog 13 #[.int .u64 7, .agg #[.int .i64 2, .int .i64 2, v]] W (RetE 0 [5, 1] W) from svKernel_yes 7 2 2 v xs8 [5, 1] W ok8 fld7 hv k8 (by rw [take8]; decide))
  have C4 := hid fun (W : World) (v : Value) (hv : Ints .u64 W v xs8) => (show Calls Try.prog 14 #[.int .u64 7, .agg #[.int .i64 2, .int .i64 2, v]] W (RetE 0 [5, 1] W) from svLeft_yes 7 2 2 v xs8 [5, 1] W ok8 fld7 hv le8)
  have C5 := hid fun (W : World) (v : Value) (hv : Ints .u64 W v [3]) => (show Calls Try.prog 45 #[.int .u64 7, .agg #[.int .i64 1, .int .i64 1, v]] W (RetN 1 1 [5] W) from svInverse_yes 7 1 v [3] [5] W ok8i fld7 hv rank8i inv8)
  have C6 := hid fun (W : World) (v : Value) (hv : Ints .u64 W v xs8) => (show Calls Try.prog 15 #[.int .u64 7, .agg #[.int .i64 2, .int .i64 2, v], .int .i64 1] W (RetE 0 [5, 1] W) from svRows_yes 7 2 2 1 v xs8 [5, 1] W ok8 fld7 hv (by decide) (by rw [take8]; decide) y8)
  have IM0 := (show Ints .u64 ((w.alloc (.cells #[.int .u64 1, .int .u64 2, .int .u64 2, .int .u64 4] 22)).alloc (.cells #[.int .i64 2, .int .i64 2, .slice (some ⟨w.heap.size, 0, none⟩) 4 4] 25)) (.slice (some ⟨w.heap.size, 0, none⟩) 4 4) xs8 from (Ints.lit (k := .u64) (w := w) (t := 22) xs8 (by decide) rfl).alloc (.cells #[.int .i64 2, .int .i64 2, .slice (some ⟨w.heap.size, 0, none⟩) 4 4] 25))
  have HA0 := (show Blk ((w.alloc (.cells #[.int .u64 1, .int .u64 2, .int .u64 2, .int .u64 4] 22)).alloc (.cells #[.int .i64 2, .int .i64 2, .slice (some ⟨w.heap.size, 0, none⟩) 4 4] 25)) (w.heap.size + 1) 25 #[.int .i64 2, .int .i64 2, .slice (some ⟨w.heap.size, 0, none⟩) 4 4] from Blk.at_ (w := w.alloc (.cells #[.int .u64 1, .int .u64 2, .int .u64 2, .int .u64 4] 22)) (t := 25) (cs := #[.int .i64 2, .int .i64 2, .slice (some ⟨w.heap.size, 0, none⟩) 4 4]) (g := w.heap.size + 1) (by rw [alloc_size]))
  have hx0 : Ext w ((w.alloc (.cells #[.int .u64 1, .int .u64 2, .int .u64 2, .int .u64 4] 22)).alloc (.cells #[.int .i64 2, .int .i64 2, .slice (some ⟨w.heap.size, 0, none⟩) 4 4] 25)) := (((Ext.refl w).alloc _)).alloc _
  unfold RetE at C1 C2 C3 C4 C6
  unfold RetN matV at C5
  go_enter Try.func9, Try.ntmps9
  go_upto_region 2 with fail
  obtain ⟨W0, e0⟩ : ∃ W, ((w.alloc (.cells #[.int .u64 1, .int .u64 2, .int .u64 2, .int .u64 4] 22)).alloc (.cells #[.int .i64 2, .int .i64 2, .slice (some ⟨w.heap.size, 0, none⟩) 4 4] 25)) = W := ⟨_, rfl⟩
  rw [e0] at IM0 HA0 hx0
  rw [e0]
  have IM := hid IM0; have HA := hid HA0; have hW0 := hid hx0
  clear e0 IM0 HA0 hx0
  obtain ⟨ha_0, ha_1, ha_2⟩ := HA.out.at3
  go_wp2_with fail
  have z2 := (Ext.refl W0).alloc (.cells #[.int .u64 1, .int .u64 2] 22)
  refine (C1.out _ _ _ (IM.out.ext z2) (Ints.lit (k := .u64) (w := W0) (t := 22) [1, 2] (by decide) rfl)).mono ?_
  rintro _ w1 ⟨v1, rfl, i1, xw1⟩
  clear ha_0 ha_1 ha_2
  have I1 := hid i1
  obtain ⟨a1, k1, rfl, _, _, kk⟩ := i1
  clear kk
  obtain ⟨ha_0, ha_1, ha_2⟩ := (HA.out.ext (z2.trans xw1)).at3
  go_wp2_with fail
  have z4 := (Ext.refl w1).alloc (.cells #[.int .u64 1, .int .u64 3] 22)
  refine (C2.out _ _ _ (IM.out.ext (z2.trans (xw1.trans z4))) (Ints.lit (k := .u64) (w := w1) (t := 22) [1, 3] (by decide) rfl)).mono ?_
  rintro _ w2 ⟨v2, rfl, i2, xw2⟩
  clear ha_0 ha_1 ha_2
  have I2 := hid i2
  obtain ⟨a2, k2, rfl, _, _, kk⟩ := i2
  clear kk
  obtain ⟨ha_0, ha_1, ha_2⟩ := (HA.out.ext (z2.trans (xw1.trans (z4.trans xw2)))).at3
  go_wp2_with fail
  refine (C3.out _ _ (IM.out.ext (z2.trans (xw1.trans (z4.trans xw2))))).mono ?_
  rintro _ w3 ⟨v3, rfl, i3, xw3⟩
  clear ha_0 ha_1 ha_2
  have I3 := hid i3
  obtain ⟨a3, k3, rfl, _, _, kk⟩ := i3
  clear kk
  obtain ⟨ha_0, ha_1, ha_2⟩ := (HA.out.ext (z2.trans (xw1.trans (z4.trans (xw2.trans xw3))))).at3
  go_wp2_with fail
  refine (C4.out _ _ (IM.out.ext (z2.trans (xw1.trans (z4.trans (xw2.trans xw3)))))).mono ?_
  rintro _ w4 ⟨v4, rfl, i4, xw4⟩
  clear ha_0 ha_1 ha_2
  have I4 := hid i4
  obtain ⟨a4, k4, rfl, _, _, kk⟩ := i4
  clear kk
  go_wp2_with fail
  have z8 := (Ext.refl w4).alloc (.cells #[.int .u64 3] 22)
  refine (C5.out _ _ (Ints.lit (k := .u64) (w := w4) (t := 22) [3] (by decide) rfl)).mono ?_
  rintro _ w5 ⟨v5, rfl, i5, xw5⟩
  have I5 := hid i5
  obtain ⟨a5, k5, rfl, _, _, kk⟩ := i5
  clear kk
  have z10 := (Ext.refl w5).alloc (.cells #[.int .i64 1, .int .i64 1, .slice a5 1 k5] 25)
  have HN := hid (Blk.new w5 25 #[.int .i64 1, .int .i64 1, .slice a5 1 k5])
  obtain ⟨ha_0, ha_1, ha_2⟩ := (HA.out.ext (z2.trans (xw1.trans (z4.trans (xw2.trans (xw3.trans (xw4.trans (z8.trans (xw5.trans z10))))))))).at3
  go_wp2_with fail
  refine (C6.out _ _ (IM.out.ext (z2.trans (xw1.trans (z4.trans (xw2.trans (xw3.trans (xw4.trans (z8.trans (xw5.trans z10)))))))))).mono ?_
  rintro _ w6 ⟨v6, rfl, i6, xw6⟩
  clear ha_0 ha_1 ha_2
  have I6 := hid i6
  obtain ⟨a6, k6, rfl, _, _, kk⟩ := i6
  clear kk
  go_wp2_with fail
  have z12 := (Ext.refl w6).alloc (.cells #[.int .u64 1, .int .u64 0] 22)
  refine (same_yes _ _ _ _ (I1.out.ext (z4.trans (xw2.trans (xw3.trans (xw4.trans (z8.trans (xw5.trans (z10.trans (xw6.trans z12))))))))) (Ints.lit (k := .u64) (w := w6) (t := 22) [1, 0] (by decide) rfl)).mono ?_
  rintro _ w7 ⟨rfl, xw7⟩
  go_wp2_with fail
  have z14 := (Ext.refl w7).alloc (.cells #[.int .u64 5, .int .u64 1] 22)
  refine (same_yes _ _ _ _ (I2.out.ext (xw3.trans (xw4.trans (z8.trans (xw5.trans (z10.trans (xw6.trans (z12.trans (xw7.trans z14))))))))) (Ints.lit (k := .u64) (w := w7) (t := 22) [5, 1] (by decide) rfl)).mono ?_
  rintro _ w8 ⟨rfl, xw8⟩
  go_wp2_with fail
  have z16 := (Ext.refl w8).alloc (.cells #[.int .u64 5, .int .u64 1] 22)
  refine (same_yes _ _ _ _ (I3.out.ext (xw4.trans (z8.trans (xw5.trans (z10.trans (xw6.trans (z12.trans (xw7.trans (z14.trans (xw8.trans z16)))))))))) (Ints.lit (k := .u64) (w := w8) (t := 22) [5, 1] (by decide) rfl)).mono ?_
  rintro _ w9 ⟨rfl, xw9⟩
  go_wp2_with fail
  refine (same_yes _ _ _ _ (I4.out.ext (z8.trans (xw5.trans (z10.trans (xw6.trans (z12.trans (xw7.trans (z14.trans (xw8.trans (z16.trans xw9)))))))))) (I2.out.ext (xw3.trans (xw4.trans (z8.trans (xw5.trans (z10.trans (xw6.trans (z12.trans (xw7.trans (z14.trans (xw8.trans (z16.trans xw9))))))))))))).mono ?_
  rintro _ w10 ⟨rfl, xw10⟩
  go_wp2_with fail
  refine (same_yes _ _ _ _ (I6.out.ext (z12.trans (xw7.trans (z14.trans (xw8.trans (z16.trans (xw9.trans xw10))))))) (I2.out.ext (xw3.trans (xw4.trans (z8.trans (xw5.trans (z10.trans (xw6.trans (z12.trans (xw7.trans (z14.trans (xw8.trans (z16.trans (xw9.trans xw10)))))))))))))).mono ?_
  rintro _ w11 ⟨rfl, xw11⟩
  obtain ⟨hn_0, hn_1, hn_2⟩ := (HN.out.ext (xw6.trans (z12.trans (xw7.trans (z14.trans (xw8.trans (z16.trans (xw9.trans (xw10.trans xw11))))))))).at3
  go_wp2_with fail
  have z20 := (Ext.refl w11).alloc (.cells #[.int .u64 5] 22)
  refine (same_yes _ _ _ _ (I5.out.ext (z10.trans (xw6.trans (z12.trans (xw7.trans (z14.trans (xw8.trans (z16.trans (xw9.trans (xw10.trans (xw11.trans z20))))))))))) (Ints.lit (k := .u64) (w := w11) (t := 22) [5] (by decide) rfl)).mono ?_
  rintro _ w12 ⟨rfl, xw12⟩
  clear hn_0 hn_1 hn_2
  go_wp2_with fail
  go_ret
  exact ⟨rfl, (hW0.out.trans (z2.trans (xw1.trans (z4.trans (xw2.trans (xw3.trans (xw4.trans (z8.trans (xw5.trans (z10.trans (xw6.trans (z12.trans (xw7.trans (z14.trans (xw8.trans (z16.trans (xw9.trans (xw10.trans (xw11.trans (z20.trans xw12))))))))))))))))))))⟩
end Go.Proofs.Ytfpmcajndgkgeaa
