import Derived.Test.YthomeenmcajmdaaGreatDoorBun07
import Derived.Test.YthomeenmcajmdaaGreatDoorMiller
import Derived.Laws.ResultCell
namespace Go.Proofs.YthomeenmcajmdaaGreatDoor
open Go.RowKit Go.Maps
theorem stripN_le {d : Int} (hd : 2 ≤ d) : ∀ (f : Nat) (n : Int), 1 ≤ n → 1 ≤ stripN d f n ∧ stripN d f n ≤ n ∧ 0 ≤ stripT d f n ∧ stripT d f n ≤ f
  | 0, n, h => by simp only [stripN, stripT]; omega
  | f + 1, n, h => by
    by_cases hz : n % d = 0
    · have := strip_half (t := 0) (m := n) hd h hz (by simp)
      have := stripN_le hd f (n / d) this.2.1
      rw [(strip_step hz).1, (strip_step hz).2]; omega
    · rw [(strip_zero _ hz).1, (strip_zero _ hz).2]; omega
theorem partsF_ok : ∀ (f : Nat) (d n : Int), 2 ≤ d → d + f ≤ 65537 → 1 ≤ n →
    (∀ q ∈ (partsF f d n).1, d ≤ q.1 ∧ q.1 ≤ 65536 ∧ 1 ≤ q.2 ∧ q.2 ≤ 64) ∧ 1 ≤ (partsF f d n).2 ∧ (partsF f d n).2 ≤ n
  | 0, d, n, _, _, h => by simp [partsF]; omega
  | f + 1, d, n, hd, hf, h => by
    rw [partsF]
    split
    · have h1 := stripN_le hd 64 n h
      have ih := partsF_ok f (d + 1) (stripN d 64 n) (by omega) (by omega) h1.1
      refine ⟨fun q hq => ?_, ih.2.1, by have := ih.2.2; omega⟩
      simp only at hq
      split at hq
      · rcases List.mem_cons.1 hq with rfl | hq
        · simp only; omega
        · have := ih.1 q hq; omega
      · have := ih.1 q hq; omega
    · simp; omega
theorem partsD_ok (n : Int) : ∀ q ∈ (partsD n).1, 2 ≤ q.1 ∧ q.1 ≤ 4294967295 ∧ 1 ≤ q.2 ∧ q.2 ≤ 64 := by
  unfold partsD
  by_cases h : n ≤ 0 ∨ 9223372036854775808 ≤ n
  · rw [if_pos h]; simp
  · rw [if_neg h]
    have := partsF_ok 65535 2 n (by omega) (by omega) (by omega)
    simp only
    split
    · simp
    · split
      · intro q hq
        simp only [List.mem_append, List.mem_singleton] at hq
        rcases hq with hq | rfl
        · have := this.1 q hq; omega
        · simp only; omega
      · intro q hq
        have := this.1 q hq; omega
theorem partsD_Ok (n : Int) : PartsOk (partsD n).1 := fun q hq => by have := partsD_ok n q hq; omega
theorem results_proof {fn : Func} {p u : Tmp} (h : fn.results = #[.cell p 71, .tmp u]) (tmps : Array Value) (w : World) (g : Nat) (a b c : Value) (hp : tmps.getD p undef = .pointer (some ⟨g, 0, none⟩)) (hB : Blk w g 71 #[a, b, c]) :
    (results fn tmps).run Tryz.prog w = .ok (.tuple #[.agg #[a, b, c], tmps.getD u undef]) w := by
  have c0 := hB.cell 0; have c1 := hB.cell 1; have c2 := hB.cell 2
  simp only [List.getElem?_toArray, List.getElem?_cons_zero, List.getElem?_cons_succ] at c0 c1 c2
  rw [results_cell_tmp h, hp]
  have hl : (loadVar 71 ⟨g, 0, none⟩).run Tryz.prog w = .ok (.agg #[a, b, c]) w := by
    exact run_loadVar_row w g 71 71 #[a, b, c] (0, 0) _ hB Tryz.underlying71 rfl (by kernel_rfl)
  simp [asAddr, hl, Result.andThen]
theorem Blk.set3 {w : World} {g : Nat} {t : TypeId} {x y z : Value} (h : Blk w g t #[x, y, z]) (a b c : Value) :
    Blk (((w.setCell ⟨g, 0, none⟩ a).setCell ⟨g, 1, none⟩ b).setCell ⟨g, 2, none⟩ c) g t #[a, b, c] := ((h.set_ 0 a).set_ 1 b).set_ 2 c
theorem Ext.set3 {w0 w : World} (h : Ext w0 w) {g : Nat} (hg : w0.heap.size ≤ g) (a b c : Value) :
    Ext w0 (((w.setCell ⟨g, 0, none⟩ a).setCell ⟨g, 1, none⟩ b).setCell ⟨g, 2, none⟩ c) := ((h.setCell (p := ⟨g, 0, none⟩) hg a).setCell (p := ⟨g, 1, none⟩) hg b).setCell (p := ⟨g, 2, none⟩) hg c
theorem ownsRow_set3 {w : World} {base : Nat} {e t : TypeId} {size n g : Nat} {v x y z : Value} {xs : List Value} (h : w.ownsRow base e size v n xs) (hB : Blk w g t #[x, y, z]) (hne : e ≠ t) (a b c : Value) :
    (((w.setCell ⟨g, 0, none⟩ a).setCell ⟨g, 1, none⟩ b).setCell ⟨g, 2, none⟩ c).ownsRow base e size v n xs := by
  have h1 := h.kept (grownBy_set w g 0 a) (ownsRow_blk h hB hne)
  have B1 := hB.set_ 0 a
  have h2 := h1.kept (grownBy_set _ g 1 b) (ownsRow_blk h1 B1 hne)
  have B2 := B1.set_ 1 b
  exact h2.kept (grownBy_set _ g 2 c) (ownsRow_blk h2 B2 hne)
set_option maxRecDepth 100000 in
set_option maxHeartbeats 1000000 in
theorem proof_none (n : Int) (ps : List (Int × Int)) (w : World) (hn0 : 3 ≤ n) (hn : n ≤ 9223372036854775807) (hp : partsD (n - 1) = (ps, 0)) (hq : primeB n = false) (hT : Tab w) :
    Calls Tryz.prog 38 #[.int .u64 n] w (Ret (.tuple #[.agg #[.int .u64 0, .int .u64 0, .slice none 0 0], .int .i64 6]) w) := by
  have hP := Parts_any (n - 1)
  rw [hp] at hP
  have HP := hid @hP
  have HQ := hid hq; have HT := hid hT
  clear hP hp hq hT
  go_enter Tryz.func38, Tryz.ntmps38
  go_wp2_with fail
  refine (HP.out _ (by omega) (by omega)).mono ?_; rintro _ w1 ⟨v, rfl, hrow, x1⟩
  have hv := Parts.own hrow
  have Hv := hid hv
  clear hrow
  obtain ⟨a, cap, rfl, p1, p2, p3⟩ := hv
  clear p3
  have hw1 : Ext w w1 := (by repeat (first | exact Ext.refl _ | assumption | refine Ext.drew ?_ | refine Ext.drewN ?_ _ | refine Ext.alloc ?_ _ | refine Ext.trans ?_ (by assumption)))
  have hbk : Blk w1 w.heap.size 71 #[.int .u64 0, .int .u64 0, .slice none 0 0] := (Blk.at_ rfl).ext x1
  go_wp2_with fail
  refine (isPrime_any n _ (by omega) (by omega) (HT.out.ext (by repeat (first | exact Ext.refl _ | assumption | refine Ext.drew ?_ | refine Ext.drewN ?_ _ | refine Ext.alloc ?_ _ | refine Ext.trans ?_ (by assumption))))).mono ?_; rintro _ w2 ⟨rfl, x2⟩
  rw [HQ.out]
  have hw2 : Ext w w2 := (by repeat (first | exact Ext.refl _ | assumption | refine Ext.drew ?_ | refine Ext.drewN ?_ _ | refine Ext.alloc ?_ _ | refine Ext.trans ?_ (by assumption)))
  have hbk2 := hbk.ext x2
  have f0 := hbk2.frozen 0; have f1 := hbk2.frozen 1; have f2 := hbk2.frozen 2
  have c0 := hbk2.cell 0; have c1 := hbk2.cell 1; have c2 := hbk2.cell 2
  simp only [List.getElem?_toArray, List.getElem?_cons_zero, List.getElem?_cons_succ] at c0 c1 c2
  go_wp2_with fail
  (try simp only [Exit.inBlock, Exit.then])
  refine bodyPost_ret (results_proof rfl _ _ w.heap.size _ _ _ rfl (hbk2.set3 _ _ _)) rfl ?_
  exact ⟨rfl, hw2.set3 (Nat.le_refl _) _ _ _⟩
set_option maxRecDepth 100000 in
set_option maxHeartbeats 1000000 in
theorem proof_ok (n g : Int) (ps : List (Int × Int)) (w : World) (hn0 : 3 ≤ n) (hn : n ≤ 9223372036854775807) (hp : partsD (n - 1) = (ps, 0)) (hq : primeB n = true) (hg1 : 1 ≤ g) (hg : g ≤ 18446744073709551615)
    (hr : rootB n g ps = true) (hl : ∀ j, 1 ≤ j → j < g → rootB n j ps = false) (hT : Tab w) :
    Calls Tryz.prog 38 #[.int .u64 n] w fun e w' => ∃ v, Ret (.tuple #[.agg #[.int .u64 n, .int .u64 g, v], .int .i64 0]) w e w' ∧ w'.ownsRow w.heap.size 76 2 v ps.length (flatP ps) := by
  have hP := Parts_any (n - 1)
  rw [hp] at hP
  have hO := partsD_Ok (n - 1)
  have hO2 := partsD_ok (n - 1)
  rw [hp] at hO hO2
  have HO := hid hO
  have HO2 := hid (show ∀ q ∈ ps, 1 ≤ q.1 from fun q hq => by have := hO2 q hq; omega)
  have HP := hid @hP
  have HQ := hid hq; have HT := hid hT; have HR := hid hr; have HL := hid hl
  clear hP hp hq hT hr hl hO hO2
  go_enter Tryz.func38, Tryz.ntmps38
  go_wp2_with fail
  refine (HP.out _ (by omega) (by omega)).mono ?_; rintro _ w1 ⟨v, rfl, hrow, x1⟩
  have hv := Parts.own hrow
  have Hv := hid hv
  have Hrow := hid hrow
  clear hrow
  obtain ⟨a, cap, rfl, p1, p2, p3⟩ := hv
  clear p3
  have hw1 : Ext w w1 := (by repeat (first | exact Ext.refl _ | assumption | refine Ext.drew ?_ | refine Ext.drewN ?_ _ | refine Ext.alloc ?_ _ | refine Ext.trans ?_ (by assumption)))
  have hbk : Blk w1 w.heap.size 71 #[.int .u64 0, .int .u64 0, .slice none 0 0] := (Blk.at_ rfl).ext x1
  go_wp2_with fail
  refine (isPrime_any n _ (by omega) (by omega) (HT.out.ext (by repeat (first | exact Ext.refl _ | assumption | refine Ext.drew ?_ | refine Ext.drewN ?_ _ | refine Ext.alloc ?_ _ | refine Ext.trans ?_ (by assumption))))).mono ?_; rintro _ w2 ⟨rfl, x2⟩
  rw [HQ.out]
  have hw2 : Ext w1 w2 := (by repeat (first | exact Ext.refl _ | assumption | refine Ext.drew ?_ | refine Ext.drewN ?_ _ | refine Ext.alloc ?_ _ | refine Ext.trans ?_ (by assumption)))
  go_wp2_with fail
  go_loopw [6] (fun r wr => ∃ j : Int, r = .int .u64 j ∧ 1 ≤ j ∧ j ≤ g ∧ Ext w2 wr) (fun r _ => (g - intOf r).toNat)
  case atStart => exact ⟨1, rfl, by omega, hg1, Ext.refl _⟩
  case round =>
    obtain ⟨j, rfl, hj0, hj, hw⟩ := hrel
    by_cases hlt : j < g
    · have hf := hid (HL.out j hj0 hlt)
      go_wp2_with fail
      refine (isRoot_any n j _ ps _ (by omega) (by omega) (by omega) (by omega) (Hv.out.ext (by repeat (first | exact Ext.refl _ | assumption | refine Ext.drew ?_ | refine Ext.drewN ?_ _ | refine Ext.alloc ?_ _ | refine Ext.trans ?_ (by assumption)))) HO.out HO2.out).mono ?_; rintro _ w3 ⟨rfl, x3⟩
      rw [hf.out]
      go_wp2_with fail
      go_roundw
      case rel => exact ⟨j + 1, rfl, by omega, by omega, (by repeat (first | exact Ext.refl _ | assumption | refine Ext.drew ?_ | refine Ext.drewN ?_ _ | refine Ext.alloc ?_ _ | refine Ext.trans ?_ (by assumption)))⟩
      case measure => simp [intOf]; omega
    · obtain rfl : j = g := by omega
      go_wp2_with fail
      refine (isRoot_any n j _ ps _ (by omega) (by omega) (by omega) (by omega) (Hv.out.ext (by repeat (first | exact Ext.refl _ | assumption | refine Ext.drew ?_ | refine Ext.drewN ?_ _ | refine Ext.alloc ?_ _ | refine Ext.trans ?_ (by assumption)))) HO.out HO2.out).mono ?_; rintro _ w3 ⟨rfl, x3⟩
      rw [HR.out]
      have hw3 : Ext w1 w3 := (by repeat (first | exact Ext.refl _ | assumption | refine Ext.drew ?_ | refine Ext.drewN ?_ _ | refine Ext.alloc ?_ _ | refine Ext.trans ?_ (by assumption)))
      have hbk2 := hbk.ext hw3
      have f0 := hbk2.frozen 0; have f1 := hbk2.frozen 1; have f2 := hbk2.frozen 2
      have c0 := hbk2.cell 0; have c1 := hbk2.cell 1; have c2 := hbk2.cell 2
      simp only [List.getElem?_toArray, List.getElem?_cons_zero, List.getElem?_cons_succ] at c0 c1 c2
      go_wp2_with fail
      (try simp only [Exit.inBlock, Exit.then])
      refine bodyPost_ret (results_proof rfl _ _ w.heap.size _ _ _ rfl (hbk2.set3 _ _ _)) rfl ?_
      exact ⟨_, ⟨rfl, (hw1.trans hw3).set3 (Nat.le_refl _) _ _ _⟩, ownsRow_set3 (ownsRow_low (ownsRow_ext Hrow.out hw3) (by simp)) hbk2 (by decide) _ _ _⟩
end Go.Proofs.YthomeenmcajmdaaGreatDoor
