/- Package shape: Of. -/
import Derived.Test.YtnfnommiabalfaaBun20
import Derived.Test.YtnfnommiabalfaaShpO
import Derived.Test.YtnfnommiabalfaaBun13
import Derived.Test.YtnfnommiabalfaaBun16
import Derived.Deep.RegionHeld3
import Derived.BigQuiet
namespace Go.Proofs.Ytnfnommiabalfaa
open Go.RowKit Go.Maps

/-- answers a claim -/
def RetClm (R K : List Int) (C U : List (List Int)) (w : World) (e : Ending) (w' : World) : Prop := ∃ rv kv cv uv, e = .returned (.tuple #[.agg #[rv, kv, cv, uv], .int .i64 0]) ∧ ClmR w' rv kv cv uv R K C U ∧ Ext w w'
/-- answers that numbers are no claim's -/
def noClm : Value := .tuple #[.agg #[.slice none 0 0, .slice none 0 0, .slice none 0 0, .slice none 0 0], .int .i64 2]
theorem blk_put4 {w : World} {g : Nat} {t : TypeId} {a b c d : Value} (h : Blk w g t #[a, b, c, d]) (a' b' c' d' : Value) : Blk ((((w.setCell ⟨g, 0, none⟩ a').setCell ⟨g, 1, none⟩ b').setCell ⟨g, 2, none⟩ c').setCell ⟨g, 3, none⟩ d') g t #[a', b', c', d'] := by
  have := (((h.set_ 0 a').set_ 1 b').set_ 2 c').set_ 3 d'
  simpa using this
theorem ext_put4 {w0 w : World} {g : Nat} (h : Ext w0 w) (hg : w0.heap.size ≤ g) (a b c d : Value) : Ext w0 ((((w.setCell ⟨g, 0, none⟩ a).setCell ⟨g, 1, none⟩ b).setCell ⟨g, 2, none⟩ c).setCell ⟨g, 3, none⟩ d) :=
  (((h.setCell (p := ⟨g, 0, none⟩) hg a).setCell (p := ⟨g, 1, none⟩) hg b).setCell (p := ⟨g, 2, none⟩) hg c).setCell (p := ⟨g, 3, none⟩) hg d

set_option maxRecDepth 100000 in
set_option maxHeartbeats 2000000 in
theorem shOf_no (w : World) (rows cols : Int) (v : Value) (l : List Int) (hv : Ints .u64 w v l) (hu : U64s l) (h : ofB rows cols l = false) :
    Calls Try.prog 21 #[v, .int .i64 rows, .int .i64 cols] w (Ret noClm w) := by
  have C1 := hid fun W => shSide rows W
  have C2 := hid fun W => shSide cols W
  obtain ⟨B1, e1⟩ : ∃ B, sideB rows = B := ⟨_, rfl⟩
  obtain ⟨B2, e2⟩ : ∃ B, sideB cols = B := ⟨_, rfl⟩
  have H := hid h
  have hside := hid fun (q1 : B1 = true) (q2 : B2 = true) => (show (1 ≤ rows ∧ rows ≤ 64) ∧ 1 ≤ cols ∧ cols ≤ 64 by
    rw [← e1] at q1; rw [← e2] at q2
    exact ⟨of_decide_eq_true q1, of_decide_eq_true q2⟩)
  have Hn := hid fun (q1 : B1 = true) (q2 : B2 = true) (q3 : 0 < l.length) (q4 : l.getD 0 0 ≤ 64) => (show (l.length : Int) ≠ 1 + (ofN l : Int) * (2 + rows + cols) by
    intro q5
    unfold ofB at h
    rw [e1, e2, q1, q2, decide_eq_true ⟨q3, q4, q5⟩] at h
    cases h)
  rw [e1] at C1; rw [e2] at C2
  have Hu := hid hu
  have HV := hid hv
  obtain ⟨a, cap, rfl, k1, k2, k3⟩ := hv
  have K3 := hid k3
  obtain ⟨L, eL⟩ : ∃ L, l.length = L := ⟨_, rfl⟩
  have EL := hid eL
  rw [eL] at k1 K3 Hn HV ⊢
  clear e1 e2 h hu k3 eL
  have hB := hid (show Blk (w.alloc (.cells #[.slice none 0 0, .slice none 0 0, .slice none 0 0, .slice none 0 0] 29)) w.heap.size 29 #[.slice none 0 0, .slice none 0 0, .slice none 0 0, .slice none 0 0] from Blk.new w _ _)
  have hX := hid (show Ext w (w.alloc (.cells #[.slice none 0 0, .slice none 0 0, .slice none 0 0, .slice none 0 0] 29)) from (Ext.refl w).alloc _)
  have tail := hid fun (W : World) (x : Ext (w.alloc (.cells #[.slice none 0 0, .slice none 0 0, .slice none 0 0, .slice none 0 0] 29)) W) => (show Blk W w.heap.size 29 #[.slice none 0 0, .slice none 0 0, .slice none 0 0, .slice none 0 0] ∧ Ext w W from ⟨hB.out.ext x, hX.out.trans x⟩)
  unfold noClm
  go_enter Try.func21, Try.ntmps21
  obtain ⟨b0, b1, b2, b3⟩ := hB.out.at4
  have f0 := hB.out.frozen 0
  have f1 := hB.out.frozen 1
  have f2 := hB.out.frozen 2
  have f3 := hB.out.frozen 3
  go_wp2_with fail
  refine (C1.out _).mono ?_
  rintro _ _ ⟨rfl, rfl⟩
  cases B1
  · have T := tail.out _ (Ext.refl _)
    go_wp2_with fail
    refine bodyPost_ret (results_cell_row_tmp rfl _ _ w.heap.size 29 _ (0, 0) _ rfl T.1 Try.underlying29 rfl (by kernel_rfl)) rfl ?_
    exact ⟨rfl, T.2⟩
  go_wp2_with fail
  refine (C2.out _).mono ?_
  rintro _ _ ⟨rfl, rfl⟩
  cases B2
  · have T := tail.out _ (Ext.refl _)
    go_wp2_with fail
    refine bodyPost_ret (results_cell_row_tmp rfl _ _ w.heap.size 29 _ (0, 0) _ rfl T.1 Try.underlying29 rfl (by kernel_rfl)) rfl ?_
    exact ⟨rfl, T.2⟩
  obtain ⟨hr, hc⟩ := hside.out (by trivial) (by trivial)
  by_cases h0 : L = 0
  · have T := tail.out _ (Ext.refl _)
    subst h0
    go_wp2_with fail
    refine bodyPost_ret (results_cell_row_tmp rfl _ _ w.heap.size 29 _ (0, 0) _ rfl T.1 Try.underlying29 rfl (by kernel_rfl)) rfl ?_
    exact ⟨rfl, T.2⟩
  have t0 : ((L : Int) == 0) = false := by simp; omega
  obtain ⟨b, off, rfl, hb, hcell⟩ := K3.out (by omega)
  have g1 := (hX.out.cells _ _ hb).trans (hcell 0 (by omega))
  rw [Nat.add_zero] at g1
  have hy := Hu.out _ (getD_mem (0 : Int) (show 0 < l.length by rw [EL.out]; omega))
  have Hnn := hid (Hn.out (by trivial) (by trivial) (by omega))
  obtain ⟨y, ey⟩ : ∃ y, l.getD 0 0 = y := ⟨_, rfl⟩
  rw [ey] at g1 hy Hnn
  have Ey := hid ey
  clear hcell ey Hn
  by_cases h64 : 64 < y
  · have t1 : decide (64 < y) = true := decide_eq_true h64
    have T := tail.out _ (Ext.refl _)
    clear h64
    go_wp2_with fail
    refine bodyPost_ret (results_cell_row_tmp rfl _ _ w.heap.size 29 _ (0, 0) _ rfl T.1 Try.underlying29 rfl (by kernel_rfl)) rfl ?_
    exact ⟨rfl, T.2⟩
  have t1 : decide (64 < y) = false := decide_eq_false h64
  obtain ⟨r, rfl⟩ := Int.eq_ofNat_of_zero_le hy.1
  obtain ⟨m, rfl⟩ := Int.eq_ofNat_of_zero_le (show 0 ≤ rows by omega)
  obtain ⟨n, rfl⟩ := Int.eq_ofNat_of_zero_le (show 0 ≤ cols by omega)
  have hne := hid (show (L : Int) ≠ 1 + (r : Int) * (2 + (m : Int) + (n : Int)) by
    have := Hnn.out (by omega)
    rwa [show ofN l = r by unfold ofN; rw [Ey.out]; exact Int.toNat_natCast r] at this)
  obtain ⟨a1, s1, I1⟩ := cut_l HV.out 1 (by omega)
  have s1' : ∀ W, (Instr.slice 23 (.slice (some ⟨b, off, none⟩) L cap) (some (.int .i64 1)) none none).run Try.prog W = .ok (.slice a1 (L - 1) (cap - 1)) W := s1
  obtain ⟨L1, eL1⟩ : ∃ L1, L - 1 = L1 := ⟨_, rfl⟩
  obtain ⟨c1, ec1⟩ : ∃ c1, cap - 1 = c1 := ⟨_, rfl⟩
  rw [eL1, ec1] at s1'
  have w1 : IntKind.i64.wrap (r : Int) = (r : Int) := IntWalk.i64_in _ (by omega)
  obtain ⟨Q, eQ⟩ : ∃ Q, r * (2 + m + n) = Q := ⟨_, rfl⟩
  have hQ : Q ≤ 64 * 130 := by rw [← eQ]; exact Nat.mul_le_mul (by omega) (by omega)
  have m1 : (r : Int) * (2 + (m : Int) + (n : Int)) = (Q : Int) := by rw [← eQ]; push_cast; rfl
  have t2 : ((L1 : Int) != (Q : Int)) = true := by
    have := hne.out
    rw [m1] at this
    simp; omega
  have T := tail.out _ ((Ext.refl _).drewN 2)
  clear h64 I1 s1 eL1 ec1 eQ hne Hnn
  go_wp2_with fail
  go_quiet (fail)
  go_wp2_with fail
  refine bodyPost_ret (results_cell_row_tmp rfl _ _ w.heap.size 29 _ (0, 0) _ rfl (blk_put4 (hB.out.ext ((Ext.refl _).drewN _)) _ _ _ _) Try.underlying29 rfl (by kernel_rfl)) rfl ?_
  exact ⟨rfl, ext_put4 (hX.out.drewN _) (Nat.le_refl _) _ _ _ _⟩

theorem fall_take {many q : Nat} (xs : List Int) : fallL many q (xs.take (many * q)) = fallL many q xs := by
  unfold fallL
  refine List.map_congr_left fun i hi => ?_
  have him : i < many := List.mem_range.1 hi
  have h1 : i * q + q ≤ many * q := by rw [← Nat.succ_mul]; exact Nat.mul_le_mul_right _ him
  rw [List.drop_take, List.take_take, Nat.min_eq_left (by omega)]
theorem fall_drop {many q d : Nat} (xs : List Int) : fallL many q (xs.drop d) = (List.range many).map fun i => (xs.drop (d + i * q)).take q := by
  unfold fallL
  refine List.map_congr_left fun i _ => ?_
  rw [List.drop_drop]

set_option maxRecDepth 100000 in
set_option maxHeartbeats 2000000 in
theorem shOf_yes (w : World) (m n : Nat) (v : Value) (l : List Int) (hv : Ints .u64 w v l) (hu : U64s l) (h : ofB m n l = true) :
    Calls Try.prog 21 #[v, .int .i64 m, .int .i64 n] w (RetClm (ofR l) (ofK l) (ofC m l) (ofU m n l) w) := by
  obtain ⟨m', n', e1, e2, hm, hn, hy0, h64, hl⟩ := (ofB_iff hu).1 h
  have e1' : m = m' := by omega
  have e2' : n = n' := by omega
  subst e1'
  subst e2'
  have C1 := hid fun W => shSide (m : Int) W
  have C2 := hid fun W => shSide (n : Int) W
  rw [show sideB (m : Int) = true from decide_eq_true (by omega)] at C1
  rw [show sideB (n : Int) = true from decide_eq_true (by omega)] at C2
  obtain ⟨r, er⟩ : ∃ r, ofN l = r := ⟨_, rfl⟩
  rw [er] at hy0 h64 hl
  have HV := hid hv
  obtain ⟨a, cap, rfl, k1, k2, k3⟩ := hv
  obtain ⟨b, off, rfl, hb, hcell⟩ := k3 (by omega)
  have g0 := hcell 0 (by omega)
  rw [Nat.add_zero, hy0] at g0
  obtain ⟨L, eL⟩ : ∃ L, l.length = L := ⟨_, rfl⟩
  have EL := hid eL
  rw [eL] at k1 hl HV ⊢
  obtain ⟨a1, s1, I1⟩ := cut_l HV.out 1 (by omega)
  have s1' : ∀ W, (Instr.slice 23 (.slice (some ⟨b, off, none⟩) L cap) (some (.int .i64 1)) none none).run Try.prog W = .ok (.slice a1 (L - 1) (cap - 1)) W := s1
  obtain ⟨L1, eL1⟩ : ∃ L1, L - 1 = L1 := ⟨_, rfl⟩
  obtain ⟨c1, ec1⟩ : ∃ c1, cap - 1 = c1 := ⟨_, rfl⟩
  rw [eL1, ec1] at s1' I1
  have hQ : r * (2 + m + n) = L1 := by omega
  obtain ⟨R2, eR2⟩ : ∃ R, 2 * r = R := ⟨_, rfl⟩
  obtain ⟨MR, eMR⟩ : ∃ R, m * r = R := ⟨_, rfl⟩
  obtain ⟨NR, eNR⟩ : ∃ R, r * n = R := ⟨_, rfl⟩
  have hsum : L1 = R2 + MR + NR := by rw [← hQ, ← eR2, ← eMR, ← eNR, Nat.mul_add, Nat.mul_add, Nat.mul_comm r 2, Nat.mul_comm r m]
  have bMR : MR ≤ 4096 := by rw [← eMR]; exact Nat.mul_le_mul hm.2 h64
  have bNR : NR ≤ 4096 := by rw [← eNR]; exact Nat.mul_le_mul h64 hn.2
  obtain ⟨a2, s2, I2⟩ := cut_l I1 R2 (by omega)
  obtain ⟨L2, eL2⟩ : ∃ L2, L1 - R2 = L2 := ⟨_, rfl⟩
  obtain ⟨c2, ec2⟩ : ∃ c2, c1 - R2 = c2 := ⟨_, rfl⟩
  rw [eL2, ec2] at s2 I2
  obtain ⟨a3, s3, I3⟩ := cut_h I1 r (by omega)
  obtain ⟨a4, s4, I4⟩ := cut_lh I1 r R2 (by omega) (by omega)
  rw [show R2 - r = r by omega] at s4 I4
  obtain ⟨c4, ec4⟩ : ∃ c, c1 - r = c := ⟨_, rfl⟩
  rw [ec4] at s4 I4
  obtain ⟨a5, s5, I5⟩ := cut_h I2 MR (by omega)
  obtain ⟨a6, s6, I6⟩ := cut_l I2 MR (by omega)
  rw [show L2 - MR = NR by omega] at s6 I6
  obtain ⟨c6, ec6⟩ : ∃ c, c2 - MR = c := ⟨_, rfl⟩
  rw [ec6] at s6 I6
  have lX : (l.drop 1).length = L1 := by rw [List.length_drop, EL.out]; exact eL1
  have hR : (((l.drop 1).take r).map IntKind.i64.wrap) = ofR l := by unfold ofR; rw [er]
  have hK : ((((l.drop 1).drop r).take r).map IntKind.i64.wrap) = ofK l := by unfold ofK; rw [er, List.drop_drop]
  have hC : fallL m r (((l.drop 1).drop R2).take MR) = ofC m l := by
    rw [← eMR, fall_take, List.drop_drop, fall_drop]
    unfold ofC
    rw [er, ← eR2]
  have hU : fallL r n (((l.drop 1).drop R2).drop MR) = ofU m n l := by
    rw [List.drop_drop, List.drop_drop, fall_drop]
    unfold ofU
    rw [er, ← eR2, ← eMR, Nat.add_assoc 1]
  have N1 := hid fun (W : World) (hW : Ext w W) => (by
    have := shNames _ _ W (I3.ext hW) (by rw [List.length_take, lX]; omega)
    rw [hR, show ((l.drop 1).take r).length = r by rw [List.length_take, lX]; omega] at this
    exact this : Calls Try.prog 52 #[.slice a3 r c1] W fun e w' => ∃ g, e = .returned (.slice (some ⟨g, 0, none⟩) r r) ∧ W.heap.size ≤ g ∧ NsB w' g (ofR l) ∧ Ext W w')
  have N2 := hid fun (W : World) (hW : Ext w W) => (by
    have := shNames _ _ W (I4.ext hW) (by rw [List.length_take, List.length_drop, lX]; omega)
    rw [hK, show (((l.drop 1).drop r).take r).length = r by rw [List.length_take, List.length_drop, lX]; omega] at this
    exact this : Calls Try.prog 52 #[.slice a4 r c4] W fun e w' => ∃ g, e = .returned (.slice (some ⟨g, 0, none⟩) r r) ∧ W.heap.size ≤ g ∧ NsB w' g (ofK l) ∧ Ext W w')
  have N3 := hid fun (W : World) (hW : Ext w W) => shLists _ _ m r W (I5.ext hW) hm.2 h64 (by rw [List.length_take, List.length_drop, lX, eMR]; omega)
  have N4 := hid fun (W : World) (hW : Ext w W) => shLists _ _ r n W (I6.ext hW) h64 hn.2 (by rw [List.length_drop, List.length_drop, lX, eNR]; omega)
  obtain ⟨XC, eXC⟩ : ∃ x, ((l.drop 1).drop R2).take MR = x := ⟨_, rfl⟩
  obtain ⟨XU, eXU⟩ : ∃ x, ((l.drop 1).drop R2).drop MR = x := ⟨_, rfl⟩
  rw [eXC] at N3 hC; rw [eXU] at N4 hU
  have lR : (ofR l).length = r := by rw [← hR, List.length_map, List.length_take, lX]; omega
  have lK : (ofK l).length = r := by rw [← hK, List.length_map, List.length_take, List.length_drop, lX]; omega
  rw [← hC, ← hU]
  obtain ⟨lr, elr⟩ : ∃ x, ofR l = x := ⟨_, rfl⟩
  obtain ⟨lk, elk⟩ : ∃ x, ofK l = x := ⟨_, rfl⟩
  rw [elr] at N1 lR ⊢; rw [elk] at N2 lK ⊢
  have LR := hid lR; have LK := hid lK
  have t0 : ((L : Int) == 0) = false := by simp; omega
  have t1 : decide ((64 : Int) < (r : Int)) = false := decide_eq_false (by omega)
  have w1 : IntKind.i64.wrap (r : Int) = (r : Int) := IntWalk.i64_in _ (by omega)
  have m1 : (r : Int) * (2 + (m : Int) + (n : Int)) = (L1 : Int) := by rw [← hQ]; push_cast; rfl
  have m2 : (2 : Int) * (r : Int) = (R2 : Int) := by rw [← eR2]; push_cast; rfl
  have m3 : (m : Int) * (r : Int) = (MR : Int) := by rw [← eMR]; push_cast; rfl
  have w2 : IntKind.i64.wrap (R2 : Int) = (R2 : Int) := IntWalk.i64_in _ (by omega)
  have w3 : IntKind.i64.wrap (MR : Int) = (MR : Int) := IntWalk.i64_in _ (by omega)
  have t2 : ((L1 : Int) != (L1 : Int)) = false := by simp
  have hB := hid (show Blk (w.alloc (.cells #[.slice none 0 0, .slice none 0 0, .slice none 0 0, .slice none 0 0] 29)) w.heap.size 29 #[.slice none 0 0, .slice none 0 0, .slice none 0 0, .slice none 0 0] from Blk.new w _ _)
  have hX := hid (show Ext w (w.alloc (.cells #[.slice none 0 0, .slice none 0 0, .slice none 0 0, .slice none 0 0] 29)) from (Ext.refl w).alloc _)
  have hS := hid (show (w.alloc (.cells #[.slice none 0 0, .slice none 0 0, .slice none 0 0, .slice none 0 0] 29)).heap.size = w.heap.size + 1 from alloc_size _ _)
  have g1 := (hX.out.cells _ _ hb).trans g0
  have b12 : R2 ≤ 128 := by omega
  have hLp : 0 < L := by omega
  have bL1 : L1 ≤ 16384 := by omega
  have o1 : r ≤ R2 := by omega
  have o2 : R2 ≤ c1 := by omega
  have o3 : MR ≤ c2 := by omega
  have o4 : MR ≤ L2 := by omega
  have o5 : R2 ≤ L1 := by omega
  have o6 : r ≤ c1 := by omega
  clear I1 I2 I3 I4 I5 I6 s1 eL1 ec1 eL eR2 eMR eNR hsum eL2 ec2 ec4 ec6 lX hR hK hC hU eXC eXU elr elk lR lK er hy0 hl k3 hcell g0 h hu e1 e2
  go_enter Try.func21, Try.ntmps21
  go_wp2_with fail
  refine (C1.out _).mono ?_
  rintro _ _ ⟨rfl, rfl⟩
  go_wp2_with fail
  refine (C2.out _).mono ?_
  rintro _ _ ⟨rfl, rfl⟩
  go_wp2_with fail
  go_quiet (fail)
  go_wp2_with fail
  have key := hid fun (q : Nat) => (show Blk ((w.alloc (.cells #[.slice none 0 0, .slice none 0 0, .slice none 0 0, .slice none 0 0] 29)).drewN q) w.heap.size 29 #[.slice none 0 0, .slice none 0 0, .slice none 0 0, .slice none 0 0] ∧ Ext w ((w.alloc (.cells #[.slice none 0 0, .slice none 0 0, .slice none 0 0, .slice none 0 0] 29)).drewN q) ∧ w.heap.size + 1 ≤ ((w.alloc (.cells #[.slice none 0 0, .slice none 0 0, .slice none 0 0, .slice none 0 0] 29)).drewN q).heap.size from
    ⟨hB.out.ext ((Ext.refl _).drewN q), hX.out.drewN q, by rw [← hS.out]; exact ((Ext.refl _).drewN q).size⟩)
  generalize hW : World.drewN (w.alloc (.cells #[.slice none 0 0, .slice none 0 0, .slice none 0 0, .slice none 0 0] 29)) _ = W
  obtain ⟨qB, qX, qS⟩ := key.out _
  rw [hW] at qB qX qS
  have QB := hid qB; have QX := hid qX
  clear qB qX hW key hB hX hS g1 t0 t1 t2 m1
  have M0 := True.intro
  go_region_held3 (fun _ => True) (trivial)
    ((first
      | (go_at_call 52; clear M0; refine (N1.out _ (QX.out.drew)).mono ?_; rintro _ w5 ⟨g5, rfl, b5, n5, x5⟩; have y5 := hid ((Ext.refl W).drew.trans x5); have M1 := True.intro)
      | (go_at_call 52; clear M1; refine (N2.out _ (QX.out.trans y5.out)).mono ?_; rintro _ w6 ⟨g6, rfl, b6, n6, x6⟩; have y6 := hid (y5.out.trans x6); have M2 := True.intro)
      | (go_at_call 53; clear M2; refine (N3.out _ (QX.out.trans y6.out)).mono ?_; rintro _ w7 ⟨g7, rfl, b7, n7, x7⟩; have y7 := hid (y6.out.trans x7); have M3 := True.intro)
      | (go_at_call 53; clear M3; refine (N4.out _ (QX.out.trans y7.out)).mono ?_; rintro _ w8 ⟨g8, rfl, b8, n8, x8⟩; have y8 := hid (y7.out.trans x8)
         have QB8 := QB.out.ext y8.out
         obtain ⟨d0, d1, d2, d3⟩ := QB8.at4
         have f0 := QB8.frozen 0
         have f1 := QB8.frozen 1
         have f2 := QB8.frozen 2
         have f3 := QB8.frozen 3)))
  go_wp2_with fail
  have z5 := y5.out.size
  have z6 := y6.out.size
  have z7 := y7.out.size
  have z0 : W.drew.heap.size = W.heap.size := rfl
  have ne5 : g5 ≠ w.heap.size := by omega
  have ne6 : g6 ≠ w.heap.size := by omega
  have ne7 : g7 ≠ w.heap.size := by omega
  have ne8 : g8 ≠ w.heap.size := by omega
  have q0 := QB.out.ext y8.out
  refine bodyPost_ret (results_cell_row_tmp rfl _ _ w.heap.size 29 _ (0, 0) _ rfl (blk_put4 q0 _ _ _ _) Try.underlying29 rfl (by kernel_rfl)) rfl ?_
  refine ⟨_, _, _, _, rfl, ⟨?_, ?_, ?_, ?_⟩, ext_put4 (QX.out.trans y8.out) (Nat.le_refl _) _ _ _ _⟩
  · exact (((((n5.ext (x6.trans (x7.trans x8))).two 0 _ ne5).two 1 _ ne5).two 2 _ ne5).two 3 _ ne5).ints LR.out (by omega)
  · exact (((((n6.ext (x7.trans x8)).two 0 _ ne6).two 1 _ ne6).two 2 _ ne6).two 3 _ ne6).ints LK.out (by omega)
  · exact (((((n7.ext x8).two q0 0 _ ne7).two (q0.set_ 0 _) 1 _ ne7).two ((q0.set_ 0 _).set_ 1 _) 2 _ ne7).two (((q0.set_ 0 _).set_ 1 _).set_ 2 _) 3 _ ne7).us hm.2
  · exact ((((n8.two q0 0 _ ne8).two (q0.set_ 0 _) 1 _ ne8).two ((q0.set_ 0 _).set_ 1 _) 2 _ ne8).two (((q0.set_ 0 _).set_ 1 _).set_ 2 _) 3 _ ne8).us h64
end Go.Proofs.Ytnfnommiabalfaa
