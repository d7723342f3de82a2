/- MatrixPicks: whatever the number, the matrix, the rows and the columns, the law answers true, and nothing that was there has turned. No condition. -/
import Derived.Test.YtlociefncogjeaaAwake05
import Derived.Test.YtlociefncogjeaaOpenMat
import Derived.Deep.CutBlock
namespace Go.Proofs.Ytlociefncogjeaa.matrixPicks
open Go.ChangeShapes Go.WideShapes Go.ChangeAt Go.RowKit Go.Maps

theorem mayB_eq {p r c : Int} {xs rs cs : List Int} : (matB p r c xs && decide (1 ≤ rs.length) && decide (rs.length ≤ 64) && decide (1 ≤ cs.length) && decide (cs.length ≤ 64) && (rs.all fun x => decide (0 ≤ x ∧ x < r)) && (cs.all fun x => decide (0 ≤ x ∧ x < c))) = (matB p r c xs && picksB r rs && picksB c cs) := by
  unfold picksB
  rw [Bool.eq_iff_iff]
  simp only [Bool.and_eq_true, decide_eq_true_eq]
  constructor
  · rintro ⟨⟨⟨⟨⟨⟨h1, h2⟩, h3⟩, h4⟩, h5⟩, h6⟩, h7⟩; exact ⟨⟨h1, ⟨h2, h3⟩, h6⟩, ⟨h4, h5⟩, h7⟩
  · rintro ⟨⟨h1, ⟨h2, h3⟩, h6⟩, ⟨h4, h5⟩, h7⟩; exact ⟨⟨⟨⟨⟨⟨h1, h2⟩, h3⟩, h4⟩, h5⟩, h6⟩, h7⟩

theorem all_stop {B0 : Bool} {l : List Int} {f : Int → Bool} {i : Nat} (h : false = (B0 && (l.take i).all f)) : (B0 && l.all f) = false := by
  cases e : (B0 && l.all f) with
  | false => rfl
  | true =>
    rw [Bool.and_eq_true, List.all_eq_true] at e
    rw [e.1, Bool.true_and] at h
    have : (l.take i).all f = true := List.all_eq_true.2 fun x hx => e.2 x (List.mem_of_mem_take hx)
    rw [this] at h
    cases h
theorem all_next {B0 : Bool} {l : List Int} {f : Int → Bool} {i : Nat} (hi : i < l.length) (h : true = (B0 && (l.take i).all f)) : f (l.getD i 0) = (B0 && (l.take (i + 1)).all f) := by
  rw [take_snoc l i hi, List.all_append, ← Bool.and_assoc, ← h, Bool.true_and]
  simp
theorem all_end {B B0 : Bool} {l : List Int} {f : Int → Bool} {i : Nat} (hi : l.length ≤ i) (h : B = (B0 && (l.take i).all f)) : B = (B0 && l.all f) := by
  rw [h, List.take_of_length_le hi]

set_option maxRecDepth 100000 in
set_option maxHeartbeats 2000000 in
theorem walk_no (p r c : Int) (v vr vc : Value) (xs rs cs : List Int) (w : World) (h0 : 0 ≤ p) (h1 : p ≤ 18446744073709551615) (hv : Ints .u64 w v xs) (hx : U64s xs) (hr : Ints .i64 w vr rs) (hc : Ints .i64 w vc cs)
    (hs1 : xs.length ≤ 150) (hs2 : rs.length ≤ 70) (hs3 : cs.length ≤ 70) (h : (matB p r c xs && picksB r rs && picksB c cs) = false) :
    Calls Try.prog 4 #[.int .u64 p, matV r c v, vr, vc] w (Ret (.bool true) w) := by
  have C1 := hid fun (W : World) (hW : Ext w W) => mxPick_no p r c v vr vc xs rs cs W h0 h1 (hv.ext hW) hx (hr.ext hW) (hc.ext hW) h
  have C2 := hid fun (W : World) (hW : Ext w W) => rmRight p r c v xs W h0 h1 (hv.ext hW) hx
  have C3 := hid fun (W : World) (hW : Ext w W) => (show Calls Try.prog 9 #[matV r c v] W (Ret (.bool true) W) from decide_eq_true hs1 ▸ rmShort r c v xs W (hv.ext hW))
  have hD := hid (mayB_eq.trans h)
  obtain ⟨M, hM⟩ : ∃ M, matB p r c xs = M := ⟨_, rfl⟩
  rw [hM] at C2 hD
  obtain ⟨a, cap, rfl, k1, k2, k3⟩ := hv
  obtain ⟨ar, capr, rfl, l1, l2, l3⟩ := hr
  obtain ⟨ac, capc, rfl, m1, m2, m3⟩ := hc
  have hbox := hid (box3 w 25 (.int .i64 r) (.int .i64 c) (.slice a xs.length cap))
  have L3 := hid l3; have M3 := hid m3
  clear k3 l3 m3 hx h hM
  unfold noMat at C1
  unfold matV at C1 C2 C3
  unfold matV
  go_enter Try.func4, Try.ntmps4
  go_upto_region 6 with (first
    | (go_at_call 8; refine (awake05 _).mono ?_; rintro _ w1 ⟨rfl, x1⟩; obtain ⟨b0, b1, b2⟩ := hbox.out w1 x1; have y1 : Ext w w1 := Ext.trans (by repeat (first | exact Ext.refl _ | assumption | refine Ext.drew ?_ | refine Ext.drewN ?_ _ | refine Ext.alloc ?_ _ | refine Ext.trans ?_ (by assumption))) x1)
    | (go_at_call 9; refine (C3.out w1 y1).mono ?_; rintro _ w2 ⟨rfl, x2⟩; clear b0 b1 b2; obtain ⟨b0, b1, b2⟩ := hbox.out w2 (x1.trans x2))
    | (go_at_call 31; refine (C1.out w2 (y1.trans x2)).mono ?_; rintro _ w3 ⟨rfl, x3⟩; clear b0 b1 b2; obtain ⟨b0, b1, b2⟩ := hbox.out (w3.alloc (.cells #[.int .i64 0, .int .i64 0, .slice none 0 0] 25)) ((x1.trans (x2.trans x3)).alloc _))
    | fail)
  clear b0 b1 b2
  have y3 : Ext w w3 := y1.trans (x2.trans x3)
  have hb3 := hid fun (V : World) (h : Ext w3 V) => hbox.out V (x1.trans (x2.trans (x3.trans h)))
  have HQ := hid (Blk.new w3 25 #[.int .i64 0, .int .i64 0, .slice none 0 0])
  have y4 : Ext w3 (w3.alloc (.cells #[.int .i64 0, .int .i64 0, .slice none 0 0] 25)) := (Ext.refl w3).alloc _
  obtain ⟨w4, hw4⟩ : ∃ W, w3.alloc (.cells #[.int .i64 0, .int .i64 0, .slice none 0 0] 25) = W := ⟨_, rfl⟩
  rw [hw4] at HQ y4 ⊢
  obtain ⟨gQ, hgQ⟩ : ∃ g, w3.heap.size = g := ⟨_, rfl⟩
  obtain ⟨gA, hgA⟩ : ∃ g, w.heap.size = g := ⟨_, rfl⟩
  rw [hgQ] at HQ ⊢
  rw [hgA] at hb3 ⊢
  clear hw4 hgQ hgA hbox x1 x2 x3 C1 C3
  obtain ⟨B0, hB0⟩ : ∃ B, (M && decide (1 ≤ rs.length) && decide (rs.length ≤ 64) && decide (1 ≤ cs.length) && decide (cs.length ≤ 64)) = B := ⟨_, rfl⟩
  rw [hB0] at hD
  have HB0 := hid hB0
  clear hB0
  go_cut [11] (fun mv w' => mv = .bool B0 ∧ Ext w4 w')
  case first =>
    obtain ⟨b0, b1, b2⟩ := hb3.out w4 y4
    cases M with
    | false =>
      go_wp2_with (go_at_call 10; refine (C2.out w4 (y3.trans y4)).mono ?_; rintro _ w5 ⟨rfl, x5⟩)
      go_meet
      exact ⟨by rw [← HB0.out]; rfl, x5⟩
    | true =>
      go_wp2_with (go_at_call 10; refine (C2.out w4 (y3.trans y4)).mono ?_; rintro _ w5 ⟨rfl, x5⟩)
      all_goals
        go_meet
        refine ⟨?_, x5⟩
        rw [← HB0.out]
        refine congrArg Value.bool ?_
        rw [Bool.eq_iff_iff]
        simp only [Bool.and_eq_true, decide_eq_true_eq, Bool.true_and, Bool.false_eq_true, false_iff]
        omega
  case rest =>
    obtain ⟨rfl, x5⟩ := hcut
    rename World => w5
    clear C2 HB0
    go_upto_block 0 with fail
    go_cut [11] (fun mv w' => mv = .bool (B0 && rs.all fun x => decide (0 ≤ x ∧ x < r)) ∧ Ext w4 w')
    case first =>
      go_wp2_with fail
      go_loopw [12, 11] (fun iv mv wr => ∃ (i : Nat) (B : Bool), iv = .int .i64 i ∧ mv = .bool B ∧ i ≤ rs.length ∧ Hid (B = (B0 && (rs.take i).all fun x => decide (0 ≤ x ∧ x < r))) ∧ Ext w4 wr) (fun iv _ _ => rs.length - (intOf iv).toNat)
      case atStart => exact ⟨0, B0, rfl, rfl, Nat.zero_le _, hid (by simp), x5⟩
      case round =>
        obtain ⟨i, B, rfl, rfl, hi, hB, xr⟩ := hrel
        obtain ⟨b0, b1, b2⟩ := hb3.out wr (y4.trans xr)
        by_cases hlt : i < rs.length
        · cases B with
          | false =>
            go_wp2_with fail
            go_meet
            exact ⟨by rw [all_stop hB.out], xr⟩
          | true =>
            obtain ⟨b, off, rfl, hb, hcell⟩ := L3.out (by omega)
            have gx := ((y3.trans (y4.trans xr)).cells _ _ hb).trans (hcell i hlt)
            have hn := all_next hlt hB.out
            obtain ⟨x, ex⟩ : ∃ x, rs.getD i 0 = x := ⟨_, rfl⟩
            rw [ex] at gx hn
            have Hn := hid hn
            have hi1 : (i : Int) < (rs.length : Int) := by omega
            have hi0 : (0 : Int) ≤ (i : Int) := by omega
            clear hcell ex hn
            by_cases hx0 : 0 ≤ x
            · have t0 : decide (0 ≤ x) = true := decide_eq_true hx0
              go_wp2_with fail
              go_quiet (fail)
              go_wp2_with fail
              go_roundw
              case rel => exact ⟨i + 1, decide (x < r), by go_num, rfl, by omega, hid (by rw [← Hn.out]; exact decide_eq_decide.2 ⟨fun h => ⟨hx0, h⟩, fun h => h.2⟩), xr.drewN _⟩
              case measure => simp [intOf]; omega
            · have t0 : decide (0 ≤ x) = false := decide_eq_false hx0
              go_wp2_with fail
              go_quiet (fail)
              go_wp2_with fail
              go_roundw
              case rel => exact ⟨i + 1, false, by go_num, rfl, by omega, hid (by rw [← Hn.out]; exact (decide_eq_false fun h => by omega).symm), xr.drewN _⟩
              case measure => simp [intOf]; omega
        · go_wp2_with fail
          go_meet
          exact ⟨by rw [all_end (by omega) hB.out], xr⟩
    case rest =>
      clear x5
      obtain ⟨rfl, x5⟩ := hcut
      rename World => w6
      obtain ⟨B1, hB1⟩ : ∃ B, (B0 && rs.all fun x => decide (0 ≤ x ∧ x < r)) = B := ⟨_, rfl⟩
      rw [hB1] at hD ⊢
      clear hB1
      go_upto_block 2 with fail
      go_cut [11] (fun mv w' => mv = .bool (B1 && cs.all fun x => decide (0 ≤ x ∧ x < c)) ∧ Ext w4 w')
      case first =>
        go_wp2_with fail
        go_loopw [13, 11] (fun iv mv wr => ∃ (i : Nat) (B : Bool), iv = .int .i64 i ∧ mv = .bool B ∧ i ≤ cs.length ∧ Hid (B = (B1 && (cs.take i).all fun x => decide (0 ≤ x ∧ x < c))) ∧ Ext w4 wr) (fun iv _ _ => cs.length - (intOf iv).toNat)
        case atStart => exact ⟨0, B1, rfl, rfl, Nat.zero_le _, hid (by simp), x5⟩
        case round =>
          obtain ⟨i, B, rfl, rfl, hi, hB, xr⟩ := hrel
          obtain ⟨b0, b1, b2⟩ := hb3.out wr (y4.trans xr)
          by_cases hlt : i < cs.length
          · cases B with
            | false =>
              go_wp2_with fail
              go_meet
              exact ⟨by rw [all_stop hB.out], xr⟩
            | true =>
              obtain ⟨b, off, rfl, hb, hcell⟩ := M3.out (by omega)
              have gx := ((y3.trans (y4.trans xr)).cells _ _ hb).trans (hcell i hlt)
              have hn := all_next hlt hB.out
              obtain ⟨x, ex⟩ : ∃ x, cs.getD i 0 = x := ⟨_, rfl⟩
              rw [ex] at gx hn
              have Hn := hid hn
              have hi1 : (i : Int) < (cs.length : Int) := by omega
              have hi0 : (0 : Int) ≤ (i : Int) := by omega
              clear hcell ex hn
              by_cases hx0 : 0 ≤ x
              · have t0 : decide (0 ≤ x) = true := decide_eq_true hx0
                go_wp2_with fail
                go_quiet (fail)
                go_wp2_with fail
                go_roundw
                case rel => exact ⟨i + 1, decide (x < c), by go_num, rfl, by omega, hid (by rw [← Hn.out]; exact decide_eq_decide.2 ⟨fun h => ⟨hx0, h⟩, fun h => h.2⟩), xr.drewN _⟩
                case measure => simp [intOf]; omega
              · have t0 : decide (0 ≤ x) = false := decide_eq_false hx0
                go_wp2_with fail
                go_quiet (fail)
                go_wp2_with fail
                go_roundw
                case rel => exact ⟨i + 1, false, by go_num, rfl, by omega, hid (by rw [← Hn.out]; exact (decide_eq_false fun h => by omega).symm), xr.drewN _⟩
                case measure => simp [intOf]; omega
          · go_wp2_with fail
            go_meet
            exact ⟨by rw [all_end (by omega) hB.out], xr⟩
      case rest =>
        clear x5
        obtain ⟨rfl, x5⟩ := hcut
        rename World => w7
        rw [hD.out]
        obtain ⟨q0, q1, q2⟩ := (HQ.out.ext x5).at3
        go_wp2_with fail
        go_ret
        exact ⟨rfl, y3.trans (y4.trans x5)⟩
set_option maxRecDepth 100000 in
set_option maxHeartbeats 4000000 in
theorem walk_yes (p : Int) (m n : Nat) (v vr vc : Value) (xs rs cs : List Int) (w : World) (ok : MatOk p m n xs) (hv : Ints .u64 w v xs) (hr : Ints .i64 w vr rs) (hc : Ints .i64 w vc cs)
    (hs1 : xs.length ≤ 150) (hs2 : rs.length ≤ 70) (hs3 : cs.length ≤ 70) (gr : picksB m rs = true) (gc : picksB n cs = true) :
    Calls Try.prog 4 #[.int .u64 p, matV m n v, vr, vc] w (Ret (.bool true) w) := by
  have hp2 := rightB_true ok.hp
  have C1 := hid fun (W : World) (hW : Ext w W) => mxPick_yes p m n v vr vc xs rs cs W ok (hv.ext hW) (hr.ext hW) (hc.ext hW) gr gc
  have C2 := hid fun (W : World) (hW : Ext w W) => (show Calls Try.prog 10 #[.int .u64 p, matV m n v] W (Ret (.bool true) W) from ok.b ▸ rmRight p m n v xs W (by omega) (by omega) (hv.ext hW) ok.u64)
  have C3 := hid fun (W : World) (hW : Ext w W) => (show Calls Try.prog 9 #[matV m n v] W (Ret (.bool true) W) from decide_eq_true hs1 ▸ rmShort m n v xs W (hv.ext hW))
  have C4 := hid fun (W : World) (hW : Ext w W) (i k : Nat) (hi : i < m) (hk : k < n) => rmAt m n v xs i k n W (hv.ext hW) rfl (by have := ok.hn; omega) (by have := ok.hm; omega) (by have := ok.hn; omega) (by rw [ok.hl]; exact at_lt hi hk)
  have hrl := picksB_len gr
  have hcl := picksB_len gc
  have GR := hid gr; have GC := hid gc; have Ok := hid ok
  have hm := ok.hm; have hn := ok.hn
  obtain ⟨a, cap, rfl, k1, k2, k3⟩ := hv
  obtain ⟨b, off, rfl, hb, k4⟩ := k3 ok.pos
  obtain ⟨ar, capr, rfl, l1, l2, l3⟩ := hr
  obtain ⟨br, offr, rfl, hbR, l4⟩ := l3 hrl.1
  have KR := hid l4
  obtain ⟨ac, capc, rfl, m1, m2, m3⟩ := hc
  obtain ⟨bc, offc, rfl, hbC, m4⟩ := m3 hcl.1
  have KC := hid m4
  clear k3 k4 l3 l4 m3 m4 gr gc ok
  have hbox := hid (box3 w 25 (.int .i64 (m : Int)) (.int .i64 (n : Int)) (.slice (some ⟨b, off, none⟩) xs.length cap))
  obtain ⟨R, hR⟩ : ∃ R, rs.length = R := ⟨_, rfl⟩
  obtain ⟨C, hC⟩ : ∃ C, cs.length = C := ⟨_, rfl⟩
  have HRl := hid hR; have HCl := hid hC
  rw [hR] at hrl l1 hs2 C1 ⊢
  rw [hC] at hcl m1 hs3 C1 ⊢
  have hpl := hid (show (pickL n xs (nats rs) (nats cs)).length = R * C by unfold pickL; rw [nats_len, nats_len, hR, hC]; exact grid_len _ _ _)
  have hpg := hid fun (i k : Nat) (hi : i < R) (hk : k < C) => (show (pickL n xs (nats rs) (nats cs)).getD (i * C + k) 0 = xs.getD ((nats rs).getD i 0 * n + (nats cs).getD k 0) 0 by
    unfold pickL; rw [nats_len, nats_len, hR, hC]; exact grid_get _ hi hk)
  clear hR hC
  have d1 : decide ((1 : Int) ≤ (R : Int)) = true := decide_eq_true (by omega)
  have d2 : decide ((R : Int) ≤ 64) = true := decide_eq_true (by omega)
  have d3 : decide ((1 : Int) ≤ (C : Int)) = true := decide_eq_true (by omega)
  have d4 : decide ((C : Int) ≤ 64) = true := decide_eq_true (by omega)
  unfold matV at C1 C2 C3 C4
  unfold matV
  go_enter Try.func4, Try.ntmps4
  go_wp2_with (first
    | (go_at_call 8; refine (awake05 _).mono ?_; rintro _ w1 ⟨rfl, x1⟩; obtain ⟨b0, b1, b2⟩ := hbox.out w1 x1; have y1 : Ext w w1 := Ext.trans (by repeat (first | exact Ext.refl _ | assumption | refine Ext.drew ?_ | refine Ext.drewN ?_ _ | refine Ext.alloc ?_ _ | refine Ext.trans ?_ (by assumption))) x1)
    | (go_at_call 9; refine (C3.out w1 y1).mono ?_; rintro _ w2 ⟨rfl, x2⟩; clear b0 b1 b2; obtain ⟨b0, b1, b2⟩ := hbox.out w2 (x1.trans x2))
    | fail)
  refine (C1.out w2 (y1.trans x2)).mono ?_
  rintro _ w3 ⟨u, rfl, hI, x3⟩
  have HI := hid hI
  obtain ⟨aq, cq, rfl, q1, q2, q3⟩ := hI
  rw [hpl.out] at q1 q3 HI ⊢
  obtain ⟨Q, hQ⟩ : ∃ Q, R * C = Q := ⟨_, rfl⟩
  have hQi : (R : Int) * (C : Int) = (Q : Int) := by rw [← hQ]; push_cast; rfl
  have hQ0 : 0 < Q := by rw [← hQ]; exact Nat.mul_pos (by omega) (by omega)
  rw [hQ] at q1 q3 HI ⊢
  have hpl2 := hid (hpl.out.trans hQ)
  obtain ⟨bq, oq, rfl, hbq, q4⟩ := q3 hQ0
  clear q3 q4 hQ b0 b1 b2
  have y3 : Ext w w3 := y1.trans (x2.trans x3)
  have hb3 := hid fun (V : World) (h : Ext w3 V) => hbox.out V (x1.trans (x2.trans (x3.trans h)))
  have HQ := hid (Blk.new w3 25 #[.int .i64 (R : Int), .int .i64 (C : Int), .slice (some ⟨bq, oq, none⟩) Q cq])
  have y4 : Ext w3 (w3.alloc (.cells #[.int .i64 (R : Int), .int .i64 (C : Int), .slice (some ⟨bq, oq, none⟩) Q cq] 25)) := (Ext.refl w3).alloc _
  obtain ⟨b0, b1, b2⟩ := hb3.out _ y4
  unfold matV
  go_wp2_with (first
    | (go_at_call 10; refine (C2.out _ (y3.trans y4)).mono ?_; rintro _ w5 ⟨rfl, x5⟩; clear b0 b1 b2)
    | fail)
  obtain ⟨w4, hw4⟩ : ∃ W, w3.alloc (.cells #[.int .i64 (R : Int), .int .i64 (C : Int), .slice (some ⟨bq, oq, none⟩) Q cq] 25) = W := ⟨_, rfl⟩
  rw [hw4] at HQ y4 x5
  obtain ⟨gQ, hgQ⟩ : ∃ g, w3.heap.size = g := ⟨_, rfl⟩
  obtain ⟨gA, hgA⟩ : ∃ g, w.heap.size = g := ⟨_, rfl⟩
  rw [hgQ] at HQ ⊢
  rw [hgA] at hb3 ⊢
  clear hw4 hgQ hgA hbox x1 x2 C1 C3
  go_loopw [12, 11] (fun iv mv wr => ∃ i : Nat, iv = .int .i64 i ∧ mv = .bool true ∧ i ≤ R ∧ Ext w4 wr) (fun iv _ _ => R - (intOf iv).toNat)
  case atStart => exact ⟨0, rfl, rfl, Nat.zero_le _, x5⟩
  case round =>
    clear x5
    obtain ⟨i, rfl, rfl, hi, xr⟩ := hrel
    obtain ⟨b0, b1, b2⟩ := hb3.out wr (y4.trans xr)
    by_cases hlt : i < R
    · have gx := ((y3.trans (y4.trans xr)).cells _ _ hbR).trans (KR.out i (by rw [HRl.out]; exact hlt))
      have hfg := nats_get GR.out (i := i) (by rw [HRl.out]; exact hlt)
      obtain ⟨f, hf⟩ : ∃ f, (nats rs).getD i 0 = f := ⟨_, rfl⟩
      rw [hf] at hfg
      rw [hfg.1] at gx
      have hfm := hfg.2
      have hi1 : (i : Int) < (R : Int) := by omega
      have hi0 : (0 : Int) ≤ (i : Int) := by omega
      have t0 : decide ((0 : Int) ≤ (f : Int)) = true := decide_eq_true (by omega)
      have t1 : decide ((f : Int) < (m : Int)) = true := decide_eq_true (by omega)
      clear hf hfg
      go_wp2_with fail
      go_quiet (fail)
      go_wp2_with fail
      go_roundw
      case rel => exact ⟨i + 1, by go_num, rfl, by omega, xr.drewN _⟩
      case measure => simp [intOf]; omega
    · obtain rfl : R = i := by omega
      clear b0 b1 b2
      go_wp2_with fail
      go_loopw [13, 11] (fun iv mv wr => ∃ i : Nat, iv = .int .i64 i ∧ mv = .bool true ∧ i ≤ C ∧ Ext w4 wr) (fun iv _ _ => C - (intOf iv).toNat)
      case atStart => exact ⟨0, rfl, rfl, Nat.zero_le _, xr⟩
      case round =>
        clear xr
        obtain ⟨i, rfl, rfl, hi, xr⟩ := hrel
        rename World => wr
        obtain ⟨b0, b1, b2⟩ := hb3.out wr (y4.trans xr)
        by_cases hlt : i < C
        · have gx := ((y3.trans (y4.trans xr)).cells _ _ hbC).trans (KC.out i (by rw [HCl.out]; exact hlt))
          have hfg := nats_get GC.out (i := i) (by rw [HCl.out]; exact hlt)
          obtain ⟨f, hf⟩ : ∃ f, (nats cs).getD i 0 = f := ⟨_, rfl⟩
          rw [hf] at hfg
          rw [hfg.1] at gx
          have hfm := hfg.2
          have hi1 : (i : Int) < (C : Int) := by omega
          have hi0 : (0 : Int) ≤ (i : Int) := by omega
          have t0 : decide ((0 : Int) ≤ (f : Int)) = true := decide_eq_true (by omega)
          have t1 : decide ((f : Int) < (n : Int)) = true := decide_eq_true (by omega)
          clear hf hfg
          go_wp2_with fail
          go_quiet (fail)
          go_wp2_with fail
          go_roundw
          case rel => exact ⟨i + 1, by go_num, rfl, by omega, xr.drewN _⟩
          case measure => simp [intOf]; omega
        · obtain rfl : C = i := by omega
          clear b0 b1 b2
          obtain ⟨p0, p1, p2⟩ := (HQ.out.ext xr).at3
          go_wp2_with fail
          go_loopw [14] (fun iv wr => ∃ i : Nat, iv = .int .i64 i ∧ i ≤ R ∧ Ext w4 wr) (fun iv _ => R - (intOf iv).toNat)
          case atStart => exact ⟨0, rfl, Nat.zero_le _, xr⟩
          case round =>
            clear xr p0 p1 p2
            obtain ⟨i, rfl, hi, xr⟩ := hrel
            by_cases hlt : i < R
            · go_wp2_with fail
              go_loopw [15] (fun jv wr => ∃ j : Nat, jv = .int .i64 j ∧ j ≤ C ∧ Ext w4 wr) (fun jv _ => C - (intOf jv).toNat)
              case atStart => exact ⟨0, rfl, Nat.zero_le _, xr⟩
              case round =>
                clear xr
                obtain ⟨j, rfl, hj, xr⟩ := hrel
                rename World => wi
                by_cases hlj : j < C
                · have gr := ((y3.trans (y4.trans xr)).cells _ _ hbR).trans (KR.out i (by rw [HRl.out]; exact hlt))
                  have gc := ((y3.trans (y4.trans xr)).cells _ _ hbC).trans (KC.out j (by rw [HCl.out]; exact hlj))
                  have hfg := nats_get GR.out (i := i) (by rw [HRl.out]; exact hlt)
                  have heg := nats_get GC.out (i := j) (by rw [HCl.out]; exact hlj)
                  have hxe := hpg.out i j hlt hlj
                  obtain ⟨f, hf⟩ : ∃ f, (nats rs).getD i 0 = f := ⟨_, rfl⟩
                  obtain ⟨e, he⟩ : ∃ f, (nats cs).getD j 0 = f := ⟨_, rfl⟩
                  rw [hf] at hfg hxe
                  rw [he] at heg hxe
                  rw [hfg.1] at gr
                  rw [heg.1] at gc
                  have hA := hid fun W hW => C4.out W ((y3.trans (y4.trans xr)).trans hW) f e hfg.2 heg.2
                  have hB := hid fun (W : World) (hW : Ext wi W) => rmAt R C (.slice (some ⟨bq, oq, none⟩) Q cq) _ i j C W (HI.out.ext (y4.trans (xr.trans hW))) rfl (by omega) (by omega) (by omega) (by rw [hpl.out]; exact at_lt hlt hlj)
                  rw [hxe] at hB
                  obtain ⟨x, ex⟩ : ∃ x, xs.getD (f * n + e) 0 = x := ⟨_, rfl⟩
                  rw [ex] at hA hB
                  unfold matV at hB
                  have fs := hid (fun (W : World) (hW : Ext wi W) => And.intro (hb3.out W (y4.trans (xr.trans hW))) (And.intro ((HQ.out.ext (xr.trans hW)).at3) (And.intro ((hW.cells _ _ (cell_lt gr)).trans gr) ((hW.cells _ _ (cell_lt gc)).trans gc))))
                  have hi1 : (i : Int) < (R : Int) := by omega
                  have hi0 : (0 : Int) ≤ (i : Int) := by omega
                  have hj1 : (j : Int) < (C : Int) := by omega
                  have hj0 : (0 : Int) ≤ (j : Int) := by omega
                  clear hf he hfg heg hxe ex
                  go_wp2_with fail
                  go_region_held3 (fun w' => (w'.cell? ⟨gA, 0, none⟩ = some (.int .i64 (m : Int)) ∧ w'.cell? ⟨gA, 1, none⟩ = some (.int .i64 (n : Int)) ∧ w'.cell? ⟨gA, 2, none⟩ = some (.slice (some ⟨b, off, none⟩) xs.length cap)) ∧ (w'.cell? ⟨gQ, 0, none⟩ = some (.int .i64 (R : Int)) ∧ w'.cell? ⟨gQ, 1, none⟩ = some (.int .i64 (C : Int)) ∧ w'.cell? ⟨gQ, 2, none⟩ = some (.slice (some ⟨bq, oq, none⟩) Q cq)) ∧ w'.cell? ⟨br, offr + i, none⟩ = some (.int .i64 (f : Int)) ∧ w'.cell? ⟨bc, offc + j, none⟩ = some (.int .i64 (e : Int))) (first | assumption | exact fs.out _ ((Ext.refl wi).drew) | exact fs.out _ (by assumption))
                    ((first
                      | (go_at_call_of 32 bq; refine (hB.out _ (by first | exact (Ext.refl wi).drew | assumption)).mono ?_; rintro _ w6 ⟨rfl, x6⟩; have z6 : Ext wi w6 := Ext.trans (by first | exact (Ext.refl wi).drew | assumption) x6)
                      | (go_at_call_of 32 b; refine (hA.out _ (by first | exact (Ext.refl wi).drew | assumption)).mono ?_; rintro _ w7 ⟨rfl, x7⟩; have z7 : Ext wi w7 := Ext.trans (by first | exact (Ext.refl wi).drew | assumption) x7)))
                  go_wp2_with fail
                  go_roundw
                  case rel => exact ⟨j + 1, by go_num, by omega, xr.trans z7⟩
                  case measure => simp [intOf]; omega
                · obtain rfl : C = j := by omega
                  go_wp2_with fail
                  go_roundw
                  case rel => exact ⟨i + 1, by go_num, by omega, xr⟩
                  case measure => simp [intOf]; omega
            · obtain rfl : R = i := by omega
              go_wp2_with fail
              go_ret
              exact ⟨rfl, y3.trans (y4.trans xr)⟩

set_option maxRecDepth 100000 in
set_option maxHeartbeats 1000000 in
theorem walk_skip (p r c : Int) (v vr vc : Value) (xs rs cs : List Int) (w : World) (hv : Ints .u64 w v xs) (hr : Ints .i64 w vr rs) (hc : Ints .i64 w vc cs) (h : ¬ (xs.length ≤ 150 ∧ rs.length ≤ 70 ∧ cs.length ≤ 70)) :
    Calls Try.prog 4 #[.int .u64 p, matV r c v, vr, vc] w (Ret (.bool true) w) := by
  have C3 := hid fun (W : World) (hW : Ext w W) => rmShort r c v xs W (hv.ext hW)
  obtain ⟨a, cap, rfl, k1, k2, k3⟩ := hv
  obtain ⟨ar, capr, rfl, l1, l2, l3⟩ := hr
  obtain ⟨ac, capc, rfl, m1, m2, m3⟩ := hc
  have hbox := hid (box3 w 25 (.int .i64 r) (.int .i64 c) (.slice a xs.length cap))
  clear k3 l3 m3
  unfold matV at C3
  unfold matV
  by_cases g1 : xs.length ≤ 150
  · rw [decide_eq_true g1] at C3
    go_enter Try.func4, Try.ntmps4
    go_wp2_with (first
      | (go_at_call 8; refine (awake05 _).mono ?_; rintro _ w1 ⟨rfl, x1⟩; obtain ⟨b0, b1, b2⟩ := hbox.out w1 x1; have y1 : Ext w w1 := Ext.trans (by repeat (first | exact Ext.refl _ | assumption | refine Ext.drew ?_ | refine Ext.drewN ?_ _ | refine Ext.alloc ?_ _ | refine Ext.trans ?_ (by assumption))) x1)
      | (go_at_call 9; refine (C3.out w1 y1).mono ?_; rintro _ w2 ⟨rfl, x2⟩; clear b0 b1 b2; obtain ⟨b0, b1, b2⟩ := hbox.out w2 (x1.trans x2))
      | (go_at_call 31; exfalso; omega)
      | fail)
    all_goals
      go_ret
      exact ⟨rfl, y1.trans x2⟩
  · rw [decide_eq_false g1] at C3
    clear h
    go_enter Try.func4, Try.ntmps4
    go_wp2_with (first
      | (go_at_call 8; refine (awake05 _).mono ?_; rintro _ w1 ⟨rfl, x1⟩; obtain ⟨b0, b1, b2⟩ := hbox.out w1 x1; have y1 : Ext w w1 := Ext.trans (by repeat (first | exact Ext.refl _ | assumption | refine Ext.drew ?_ | refine Ext.drewN ?_ _ | refine Ext.alloc ?_ _ | refine Ext.trans ?_ (by assumption))) x1)
      | (go_at_call 9; refine (C3.out w1 y1).mono ?_; rintro _ w2 ⟨rfl, x2⟩)
      | fail)
    go_ret
    exact ⟨rfl, y1.trans x2⟩

/-- the law answers true -/
theorem walk (p r c : Int) (v : Value) (xs : List Int) (vr : Value) (rs : List Int) (vc : Value) (cs : List Int) (w : World) (hp : (Lit.int .u64 p).wf = true) (hr : (Lit.int .i64 r).wf = true) (hc : (Lit.int .i64 c).wf = true) (hv : Ints .u64 w v xs) (hx : ∀ x ∈ xs, (Lit.int .u64 x).wf = true)
    (hR : Ints .i64 w vr rs) (_ : ∀ x ∈ rs, (Lit.int .i64 x).wf = true) (hC : Ints .i64 w vc cs) (_ : ∀ x ∈ cs, (Lit.int .i64 x).wf = true) :
    Calls Try.prog 4 #[.int .u64 p, .agg #[.int .i64 r, .int .i64 c, v], vr, vc] w (Ret (.bool true) w) := by
  have hp' := u64_wf hp
  have hx' : U64s xs := fun x h => u64_wf (hx x h)
  by_cases h : xs.length ≤ 150 ∧ rs.length ≤ 70 ∧ cs.length ≤ 70
  · cases hD : (matB p r c xs && picksB r rs && picksB c cs) with
    | false => exact walk_no p r c v vr vc xs rs cs w hp'.1 hp'.2 hv hx' hR hC h.1 h.2.1 h.2.2 hD
    | true =>
      rw [Bool.and_eq_true, Bool.and_eq_true] at hD
      obtain ⟨m, n, rfl, rfl, ok⟩ := MatOk.of hx' hD.1.1
      exact walk_yes p m n v vr vc xs rs cs w ok hv hR hC h.1 h.2.1 h.2.2 hD.1.2 hD.2
  · exact walk_skip p r c v vr vc xs rs cs w hv hR hC h

theorem own : ownKnob Try.prog.godebug = none := by kernel_rfl
set_option maxRecDepth 100000 in
theorem lifted (os : Os) (started : os.Started) (H : Type) (enc : TypeId × Value → H) :
    ReturnsInHanded {} Try.checked os 4 .any (Rows.matrixPicksSpec.pre6 enc Try.prog Try.f4 Rows.matrixPicksRow.domain false) (Rows.matrixPicksSpec.post enc Try.prog Try.f4 false true false false) := by
  refine returnsInHanded_of_change (C := Try.checked) own started (by kernel_rfl) Try.func4
    (ChangeSpec.witness6 (enc := enc) (C := Try.checked) false ⟨#[], #[.int .u64 0, .agg #[.int .i64 0, .int .i64 0, .slice none 0 0], .slice none 0 0, .slice none 0 0], []⟩ 8 (by kernel_rfl) (by kernel_rfl) (by kernel_rfl) (by kernel_rfl)) ?_
  intro W base args ds gs before hval0 hW _ _
  have hval : ∀ (j : Nat) t v, Try.f4.params[j]? = some t → args[j]? = some v → Value.okWide Try.prog W .any base t v := hval0
  have hW' := hW
  obtain ⟨p, q, hA0, hV, rfl, _, _⟩ := hW
  have hA : DataW.TrodAll enc Try.prog W 0 (fun _ => true) true Try.f4.params.toList args.toList ds p := hA0
  rw [Try.params4] at hA hval
  obtain ⟨v0, vs0, d0, ds0, p0, q0, hargs, rfl, rfl, h0, r0⟩ := trodAll_cons hA
  obtain ⟨v1, vs1, d1, ds1, p1, q1, rfl, rfl, rfl, h1, r1⟩ := trodAll_cons r0
  obtain ⟨v2, vs2, d2, ds2, p2, q2, rfl, rfl, rfl, h2, r2⟩ := trodAll_cons r1
  obtain ⟨v3, vs3, d3, ds3, p3, q3, rfl, rfl, rfl, h3, r3⟩ := trodAll_cons r2
  obtain ⟨rfl, rfl, rfl⟩ := trodAll_nil r3
  obtain rfl : args = #[v0, v1, v2, v3] := by cases args; simp_all
  obtain ⟨rfl, rfl⟩ := trodVars_none hV
  obtain ⟨a0, rfl, rfl, rfl, w0⟩ := open_int Try.underlying22 (hval 0 22 v0 rfl rfl) h0
  obtain ⟨mr1, mc1, mu1, xs1, rfl, wr1, wc1, i1, w1⟩ := open_Mat (hval 1 25 v1 rfl rfl) h1
  obtain ⟨xs2, i2, w2⟩ := open_Ints Try.underlying26 Try.underlying3 (by kernel_rfl) (hval 2 26 v2 rfl rfl) h2
  obtain ⟨xs3, i3, w3⟩ := open_Ints Try.underlying26 Try.underlying3 (by kernel_rfl) (hval 3 26 v3 rfl rfl) h3
  refine (walk a0 mr1 mc1 mu1 xs1 v2 xs2 v3 xs3 W w0 wr1 wc1 i1 w1 i2 w2 i3 w3).mono fun e W' ⟨he, hg⟩ => ⟨_, he, ?_⟩
  exact law_post (by kernel_rfl) (by kernel_rfl) rfl Try.underlying4 rfl rfl hW' hg

/-- the statement -/
theorem proved : Rows.MatrixPicksSaid :=
  OpenClaim.holds_of_wide 4 Try.f4 rfl rfl rfl rfl rfl rfl rfl ⟨rfl, rfl, rfl, rfl, rfl⟩ rfl rfl rfl rfl rfl (by kernel_rfl) Try.func4 (by kernel_rfl)
    (of_decide_eq_true (by kernel_rfl)) (by unfold Func.isWrapper; first | (rw [if_pos (by decide +kernel)]; kernel_rfl) | (rw [if_neg (by decide +kernel)]; exact ⟨rfl, rfl⟩))
    (fun os started H enc _ => lifted os started H enc)
end Go.Proofs.Ytlociefncogjeaa.matrixPicks
