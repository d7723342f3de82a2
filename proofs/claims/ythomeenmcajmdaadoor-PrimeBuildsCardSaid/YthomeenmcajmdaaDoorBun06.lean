/- What the texts Proof, RefParts show, in one text. -/
import Derived.Test.YthomeenmcajmdaaDoorBun05
import Derived.Test.YthomeenmcajmdaaDoorMiller
import Derived.Laws.ResultCell
/- What prime.proof answers. -/
namespace Go.Proofs.YthomeenmcajmdaaDoor
open Go.RowKit Go.Maps

theorem stripN_le {d : Int} (hd : 2 ≤ d) : ∀ (f : Nat) (n : Int), 1 ≤ n → 1 ≤ stripN d f n ∧ stripN d f n ≤ n ∧ 0 ≤ stripT d f n ∧ stripT d f n ≤ f
  | 0, n, h => by simp only [stripN, stripT]; omega
  | f + 1, n, h => by
    by_cases hz : n % d = 0
    · have := strip_half (t := 0) (m := n) hd h hz (by simp)
      have := stripN_le hd f (n / d) this.2.1
      rw [(strip_step hz).1, (strip_step hz).2]; omega
    · rw [(strip_zero _ hz).1, (strip_zero _ hz).2]; omega
theorem partsF_ok : ∀ (f : Nat) (d n : Int), 2 ≤ d → d + f ≤ 65537 → 1 ≤ n →
    (∀ q ∈ (partsF f d n).1, d ≤ q.1 ∧ q.1 ≤ 65536 ∧ 1 ≤ q.2 ∧ q.2 ≤ 64) ∧ 1 ≤ (partsF f d n).2 ∧ (partsF f d n).2 ≤ n
  | 0, d, n, _, _, h => by simp [partsF]; omega
  | f + 1, d, n, hd, hf, h => by
    rw [partsF]
    split
    · have h1 := stripN_le hd 64 n h
      have ih := partsF_ok f (d + 1) (stripN d 64 n) (by omega) (by omega) h1.1
      refine ⟨fun q hq => ?_, ih.2.1, by have := ih.2.2; omega⟩
      simp only at hq
      split at hq
      · rcases List.mem_cons.1 hq with rfl | hq
        · simp only; omega
        · have := ih.1 q hq; omega
      · have := ih.1 q hq; omega
    · simp; omega
theorem partsD_ok (n : Int) : ∀ q ∈ (partsD n).1, 2 ≤ q.1 ∧ q.1 ≤ 4294967295 ∧ 1 ≤ q.2 ∧ q.2 ≤ 64 := by
  unfold partsD
  by_cases h : n ≤ 0 ∨ 9223372036854775808 ≤ n
  · rw [if_pos h]; simp
  · rw [if_neg h]
    have := partsF_ok 65535 2 n (by omega) (by omega) (by omega)
    simp only
    split
    · simp
    · split
      · intro q hq
        simp only [List.mem_append, List.mem_singleton] at hq
        rcases hq with hq | rfl
        · have := this.1 q hq; omega
        · simp only; omega
      · intro q hq
        have := this.1 q hq; omega
theorem partsD_Ok (n : Int) : PartsOk (partsD n).1 := fun q hq => by have := partsD_ok n q hq; omega

theorem results_proof {fn : Func} {p u : Tmp} (h : fn.results = #[.cell p 34, .tmp u]) (tmps : Array Value) (w : World) (g : Nat) (a b c : Value) (hp : tmps.getD p undef = .pointer (some ⟨g, 0, none⟩)) (hB : Blk w g 34 #[a, b, c]) :
    (results fn tmps).run Tryd.prog w = .ok (.tuple #[.agg #[a, b, c], tmps.getD u undef]) w := by
  have c0 := hB.cell 0; have c1 := hB.cell 1; have c2 := hB.cell 2
  simp only [List.getElem?_toArray, List.getElem?_cons_zero, List.getElem?_cons_succ] at c0 c1 c2
  rw [results_cell_tmp h, hp]
  have hl : (loadVar 34 ⟨g, 0, none⟩).run Tryd.prog w = .ok (.agg #[a, b, c]) w := by
    exact run_loadVar_row w g 34 34 #[a, b, c] (0, 0) _ hB Tryd.underlying34 rfl (by kernel_rfl)
  simp [asAddr, hl, Result.andThen]
theorem Blk.set3 {w : World} {g : Nat} {t : TypeId} {x y z : Value} (h : Blk w g t #[x, y, z]) (a b c : Value) :
    Blk (((w.setCell ⟨g, 0, none⟩ a).setCell ⟨g, 1, none⟩ b).setCell ⟨g, 2, none⟩ c) g t #[a, b, c] := ((h.set_ 0 a).set_ 1 b).set_ 2 c
theorem Ext.set3 {w0 w : World} (h : Ext w0 w) {g : Nat} (hg : w0.heap.size ≤ g) (a b c : Value) :
    Ext w0 (((w.setCell ⟨g, 0, none⟩ a).setCell ⟨g, 1, none⟩ b).setCell ⟨g, 2, none⟩ c) := ((h.setCell (p := ⟨g, 0, none⟩) hg a).setCell (p := ⟨g, 1, none⟩) hg b).setCell (p := ⟨g, 2, none⟩) hg c

theorem ownsRow_set3 {w : World} {base : Nat} {e t : TypeId} {size n g : Nat} {v x y z : Value} {xs : List Value} (h : w.ownsRow base e size v n xs) (hB : Blk w g t #[x, y, z]) (hne : e ≠ t) (a b c : Value) :
    (((w.setCell ⟨g, 0, none⟩ a).setCell ⟨g, 1, none⟩ b).setCell ⟨g, 2, none⟩ c).ownsRow base e size v n xs := by
  have h1 := h.kept (grownBy_set w g 0 a) (ownsRow_blk h hB hne)
  have B1 := hB.set_ 0 a
  have h2 := h1.kept (grownBy_set _ g 1 b) (ownsRow_blk h1 B1 hne)
  have B2 := B1.set_ 1 b
  exact h2.kept (grownBy_set _ g 2 c) (ownsRow_blk h2 B2 hne)
set_option maxRecDepth 100000 in
set_option maxHeartbeats 1000000 in
theorem proof_err (n e : Int) (ps : List (Int × Int)) (w : World) (hn0 : 3 ≤ n) (hn : n ≤ 9223372036854775807) (hp : partsD (n - 1) = (ps, e)) (he : e ≠ 0) :
    Calls Tryd.prog 16 #[.int .u64 n] w (Ret (.tuple #[.agg #[.int .u64 0, .int .u64 0, .slice none 0 0], .int .i64 e]) w) := by
  have hP := Parts_any (n - 1)
  rw [hp] at hP
  have HP := hid @hP
  have be : (e != 0) = true := by simpa using he
  clear hP hp he
  go_enter Tryd.func16, Tryd.ntmps16
  go_wp2_with fail
  refine (HP.out _ (by omega) (by omega)).mono ?_; rintro _ w1 ⟨v, rfl, hrow, x1⟩
  have hv := Parts.own hrow
  have Hv := hid hv
  clear hrow
  obtain ⟨a, cap, rfl, p1, p2, p3⟩ := hv
  have hw1 : Ext w w1 := (by repeat (first | exact Ext.refl _ | assumption | refine Ext.drew ?_ | refine Ext.drewN ?_ _ | refine Ext.alloc ?_ _ | refine Ext.trans ?_ (by assumption)))
  have hbk : Blk w1 w.heap.size 34 #[.int .u64 0, .int .u64 0, .slice none 0 0] := (Blk.at_ rfl).ext x1
  have c0 := hbk.cell 0; have c1 := hbk.cell 1; have c2 := hbk.cell 2
  have f0 := hbk.frozen 0; have f1 := hbk.frozen 1; have f2 := hbk.frozen 2
  simp only [List.getElem?_toArray, List.getElem?_cons_zero, List.getElem?_cons_succ] at c0 c1 c2
  go_wp2_with fail
  (try simp only [Exit.inBlock, Exit.then])
  refine bodyPost_ret (results_proof rfl _ _ w.heap.size _ _ _ rfl (hbk.set3 _ _ _)) rfl ?_
  exact ⟨rfl, hw1.set3 (Nat.le_refl _) _ _ _⟩

set_option maxRecDepth 100000 in
set_option maxHeartbeats 1000000 in
theorem proof_none (n : Int) (ps : List (Int × Int)) (w : World) (hn0 : 3 ≤ n) (hn : n ≤ 9223372036854775807) (hp : partsD (n - 1) = (ps, 0)) (hq : primeB n = false) (hT : Tab w) :
    Calls Tryd.prog 16 #[.int .u64 n] w (Ret (.tuple #[.agg #[.int .u64 0, .int .u64 0, .slice none 0 0], .int .i64 6]) w) := by
  have hP := Parts_any (n - 1)
  rw [hp] at hP
  have HP := hid @hP
  have HQ := hid hq; have HT := hid hT
  clear hP hp hq hT
  go_enter Tryd.func16, Tryd.ntmps16
  go_wp2_with fail
  refine (HP.out _ (by omega) (by omega)).mono ?_; rintro _ w1 ⟨v, rfl, hrow, x1⟩
  have hv := Parts.own hrow
  have Hv := hid hv
  clear hrow
  obtain ⟨a, cap, rfl, p1, p2, p3⟩ := hv
  clear p3
  have hw1 : Ext w w1 := (by repeat (first | exact Ext.refl _ | assumption | refine Ext.drew ?_ | refine Ext.drewN ?_ _ | refine Ext.alloc ?_ _ | refine Ext.trans ?_ (by assumption)))
  have hbk : Blk w1 w.heap.size 34 #[.int .u64 0, .int .u64 0, .slice none 0 0] := (Blk.at_ rfl).ext x1
  go_wp2_with fail
  refine (isPrime_any n _ (by omega) (by omega) (HT.out.ext (by repeat (first | exact Ext.refl _ | assumption | refine Ext.drew ?_ | refine Ext.drewN ?_ _ | refine Ext.alloc ?_ _ | refine Ext.trans ?_ (by assumption))))).mono ?_; rintro _ w2 ⟨rfl, x2⟩
  rw [HQ.out]
  have hw2 : Ext w w2 := (by repeat (first | exact Ext.refl _ | assumption | refine Ext.drew ?_ | refine Ext.drewN ?_ _ | refine Ext.alloc ?_ _ | refine Ext.trans ?_ (by assumption)))
  have hbk2 := hbk.ext x2
  have f0 := hbk2.frozen 0; have f1 := hbk2.frozen 1; have f2 := hbk2.frozen 2
  have c0 := hbk2.cell 0; have c1 := hbk2.cell 1; have c2 := hbk2.cell 2
  simp only [List.getElem?_toArray, List.getElem?_cons_zero, List.getElem?_cons_succ] at c0 c1 c2
  go_wp2_with fail
  (try simp only [Exit.inBlock, Exit.then])
  refine bodyPost_ret (results_proof rfl _ _ w.heap.size _ _ _ rfl (hbk2.set3 _ _ _)) rfl ?_
  exact ⟨rfl, hw2.set3 (Nat.le_refl _) _ _ _⟩

set_option maxRecDepth 100000 in
set_option maxHeartbeats 1000000 in
theorem proof_ok (n g : Int) (ps : List (Int × Int)) (w : World) (hn0 : 3 ≤ n) (hn : n ≤ 9223372036854775807) (hp : partsD (n - 1) = (ps, 0)) (hq : primeB n = true) (hg1 : 1 ≤ g) (hg : g ≤ 18446744073709551615)
    (hr : rootB n g ps = true) (hl : ∀ j, 1 ≤ j → j < g → rootB n j ps = false) (hT : Tab w) :
    Calls Tryd.prog 16 #[.int .u64 n] w fun e w' => ∃ v, Ret (.tuple #[.agg #[.int .u64 n, .int .u64 g, v], .int .i64 0]) w e w' ∧ w'.ownsRow w.heap.size 38 2 v ps.length (flatP ps) := by
  have hP := Parts_any (n - 1)
  rw [hp] at hP
  have hO := partsD_Ok (n - 1)
  have hO2 := partsD_ok (n - 1)
  rw [hp] at hO hO2
  have HO := hid hO
  have HO2 := hid (show ∀ q ∈ ps, 1 ≤ q.1 from fun q hq => by have := hO2 q hq; omega)
  have HP := hid @hP
  have HQ := hid hq; have HT := hid hT; have HR := hid hr; have HL := hid hl
  clear hP hp hq hT hr hl hO hO2
  go_enter Tryd.func16, Tryd.ntmps16
  go_wp2_with fail
  refine (HP.out _ (by omega) (by omega)).mono ?_; rintro _ w1 ⟨v, rfl, hrow, x1⟩
  have hv := Parts.own hrow
  have Hv := hid hv
  have Hrow := hid hrow
  clear hrow
  obtain ⟨a, cap, rfl, p1, p2, p3⟩ := hv
  clear p3
  have hw1 : Ext w w1 := (by repeat (first | exact Ext.refl _ | assumption | refine Ext.drew ?_ | refine Ext.drewN ?_ _ | refine Ext.alloc ?_ _ | refine Ext.trans ?_ (by assumption)))
  have hbk : Blk w1 w.heap.size 34 #[.int .u64 0, .int .u64 0, .slice none 0 0] := (Blk.at_ rfl).ext x1
  go_wp2_with fail
  refine (isPrime_any n _ (by omega) (by omega) (HT.out.ext (by repeat (first | exact Ext.refl _ | assumption | refine Ext.drew ?_ | refine Ext.drewN ?_ _ | refine Ext.alloc ?_ _ | refine Ext.trans ?_ (by assumption))))).mono ?_; rintro _ w2 ⟨rfl, x2⟩
  rw [HQ.out]
  have hw2 : Ext w1 w2 := (by repeat (first | exact Ext.refl _ | assumption | refine Ext.drew ?_ | refine Ext.drewN ?_ _ | refine Ext.alloc ?_ _ | refine Ext.trans ?_ (by assumption)))
  go_wp2_with fail
  go_loopw [6] (fun r wr => ∃ j : Int, r = .int .u64 j ∧ 1 ≤ j ∧ j ≤ g ∧ Ext w2 wr) (fun r _ => (g - intOf r).toNat)
  case atStart => exact ⟨1, rfl, by omega, hg1, Ext.refl _⟩
  case round =>
    obtain ⟨j, rfl, hj0, hj, hw⟩ := hrel
    by_cases hlt : j < g
    · have hf := hid (HL.out j hj0 hlt)
      go_wp2_with fail
      refine (isRoot_any n j _ ps _ (by omega) (by omega) (by omega) (by omega) (Hv.out.ext (by repeat (first | exact Ext.refl _ | assumption | refine Ext.drew ?_ | refine Ext.drewN ?_ _ | refine Ext.alloc ?_ _ | refine Ext.trans ?_ (by assumption)))) HO.out HO2.out).mono ?_; rintro _ w3 ⟨rfl, x3⟩
      rw [hf.out]
      go_wp2_with fail
      go_roundw
      case rel => exact ⟨j + 1, rfl, by omega, by omega, (by repeat (first | exact Ext.refl _ | assumption | refine Ext.drew ?_ | refine Ext.drewN ?_ _ | refine Ext.alloc ?_ _ | refine Ext.trans ?_ (by assumption)))⟩
      case measure => simp [intOf]; omega
    · obtain rfl : j = g := by omega
      go_wp2_with fail
      refine (isRoot_any n j _ ps _ (by omega) (by omega) (by omega) (by omega) (Hv.out.ext (by repeat (first | exact Ext.refl _ | assumption | refine Ext.drew ?_ | refine Ext.drewN ?_ _ | refine Ext.alloc ?_ _ | refine Ext.trans ?_ (by assumption)))) HO.out HO2.out).mono ?_; rintro _ w3 ⟨rfl, x3⟩
      rw [HR.out]
      have hw3 : Ext w1 w3 := (by repeat (first | exact Ext.refl _ | assumption | refine Ext.drew ?_ | refine Ext.drewN ?_ _ | refine Ext.alloc ?_ _ | refine Ext.trans ?_ (by assumption)))
      have hbk2 := hbk.ext hw3
      have f0 := hbk2.frozen 0; have f1 := hbk2.frozen 1; have f2 := hbk2.frozen 2
      have c0 := hbk2.cell 0; have c1 := hbk2.cell 1; have c2 := hbk2.cell 2
      simp only [List.getElem?_toArray, List.getElem?_cons_zero, List.getElem?_cons_succ] at c0 c1 c2
      go_wp2_with fail
      (try simp only [Exit.inBlock, Exit.then])
      refine bodyPost_ret (results_proof rfl _ _ w.heap.size _ _ _ rfl (hbk2.set3 _ _ _)) rfl ?_
      exact ⟨_, ⟨rfl, (hw1.trans hw3).set3 (Nat.le_refl _) _ _ _⟩, ownsRow_set3 (ownsRow_low (ownsRow_ext Hrow.out hw3) (by simp)) hbk2 (by decide) _ _ _⟩
end Go.Proofs.YthomeenmcajmdaaDoor
/- What the document's own Parts and Same answer. -/
namespace Go.Proofs.YthomeenmcajmdaaDoor
open Go.RowKit Go.Maps

theorem partsF_one (f : Nat) (d : Int) (hd : 2 ≤ d) : partsF f d 1 = ([], 1) := by
  cases f with
  | zero => rfl
  | succ f =>
    have : 2 * 2 ≤ d * d := Int.mul_le_mul hd hd (by omega) (by omega)
    rw [partsF, if_neg (by omega)]

set_option maxRecDepth 100000 in
set_option maxHeartbeats 4000000 in
theorem rParts_any (n0 : Int) (w : World) (h0 : 0 ≤ n0) (h1 : n0 ≤ 18446744073709551615) :
    Calls Tryd.prog 8 #[.int .u64 n0] w fun e w' => ∃ v, e = .returned (.tuple #[v, .int .i64 (partsD n0).2]) ∧ w'.ownsRow w.heap.size 38 2 v (partsD n0).1.length (flatP (partsD n0).1) ∧ Ext w w' := by
  obtain ⟨i0, hi, hz0, hz1, hz2⟩ := info_parts info_part
  by_cases hz : n0 = 0
  · have e : partsD n0 = ([], 1) := by simp [partsD, hz]
    rw [e]
    clear e
    subst hz
    go_enter Tryd.func8, Tryd.ntmps8
    go_wp2_with fail
    go_ret2
    exact ⟨_, rfl, World.ownsRow_nil _ _ _ _, (by repeat (first | exact Ext.refl _ | assumption | refine Ext.drew ?_ | refine Ext.drewN ?_ _ | refine Ext.alloc ?_ _ | refine Ext.trans ?_ (by assumption)))⟩
  by_cases hb : 9223372036854775808 ≤ n0
  · have e : partsD n0 = ([], 1) := by simp [partsD, hb]
    rw [e]
    clear e
    have b0 : (n0 == 0) = false := by simpa using hz
    go_enter Tryd.func8, Tryd.ntmps8
    go_wp2_with fail
    go_ret2
    exact ⟨_, rfl, World.ownsRow_nil _ _ _ _, (by repeat (first | exact Ext.refl _ | assumption | refine Ext.drew ?_ | refine Ext.drewN ?_ _ | refine Ext.alloc ?_ _ | refine Ext.trans ?_ (by assumption)))⟩
  have b0 : (n0 == 0) = false := by simpa using hz
  obtain ⟨R, eR⟩ : ∃ R, partsF 65535 2 n0 = R := ⟨_, rfl⟩
  have eD : partsD n0 = if 4294967296 ≤ R.2 then ([], 3) else if 1 < R.2 then (R.1 ++ [(R.2, 1)], 0) else (R.1, 0) := by
    rw [← eR, partsD, if_neg (by omega)]
  rw [eD]
  obtain ⟨⟨fs, fe⟩, eX⟩ : ∃ x, (if 4294967296 ≤ R.2 then (([], 3) : List (Int × Int) × Int) else if 1 < R.2 then (R.1 ++ [(R.2, 1)], 0) else (R.1, 0)) = x := ⟨_, rfl⟩
  rw [eX]
  have EX := hid eX
  clear eX
  simp only
  obtain ⟨rs, rest⟩ := R
  have ER := hid eR
  clear eR eD
  have hone : ∀ acc : List (Int × Int), acc = rs → rest = 1 → acc = fs ∧ fe = 0 := fun acc h h' => by
    have hX := EX.out
    simp only at hX
    subst h; subst h'
    rw [if_neg (by omega), if_neg (by omega)] at hX
    simp only [Prod.mk.injEq] at hX
    exact ⟨hX.1, hX.2.symm⟩
  have hjump : ∀ acc : List (Int × Int), acc = rs → rest < 4294967296 → 1 < rest → acc ++ [(rest, 1)] = fs ∧ fe = 0 := fun acc h h' h'' => by
    have hX := EX.out
    simp only at hX
    subst h
    rw [if_neg (by omega), if_pos h''] at hX
    simp only [Prod.mk.injEq] at hX
    exact ⟨hX.1, hX.2.symm⟩
  have H1 := hid hone; have HJ := hid hjump
  clear hone hjump
  go_enter Tryd.func8, Tryd.ntmps8
  go_wp2_with fail
  go_loopw [5, 0, 4] (fun i m v wr => ∃ (d n : Int) (acc : List (Int × Int)), i = .int .u64 d ∧ m = .int .u64 n ∧ 2 ≤ d ∧ d ≤ 4294967296 ∧ 1 ≤ n ∧ n ≤ n0 ∧ acc.length ≤ 65540 ∧
    ((n = 1 ∧ acc = fs ∧ fe = 0) ∨ (1 < n ∧ d ≤ 65537 ∧ (acc.length : Int) + 2 ≤ d ∧ acc ++ (partsF (65537 - d).toNat d n).1 = rs ∧ (partsF (65537 - d).toNat d n).2 = rest)) ∧
    wr.ownsRow w.heap.size 38 2 v acc.length (flatP acc) ∧ Ext w wr) (fun i m _ _ => if intOf m = 1 then 0 else (65538 - intOf i).toNat)
  case atStart =>
    refine ⟨2, n0, [], rfl, rfl, by omega, by omega, by omega, by omega, by simp, ?_, World.ownsRow_nil _ _ _ _, (by repeat (first | exact Ext.refl _ | assumption | refine Ext.drew ?_ | refine Ext.drewN ?_ _ | refine Ext.alloc ?_ _ | refine Ext.trans ?_ (by assumption)))⟩
    have he : partsF (65537 - 2 : Int).toNat 2 n0 = (rs, rest) := ER.out
    by_cases hn : n0 = 1
    · subst hn
      rw [partsF_one _ 2 (by omega)] at he
      simp only [Prod.mk.injEq] at he
      exact .inl ⟨rfl, H1.out [] he.1 he.2.symm⟩
    · exact .inr ⟨by omega, by omega, by simp, by rw [he]; rfl, by rw [he]⟩
  case round =>
    obtain ⟨d, n, acc, rfl, rfl, hd, hd2, hn, hn2, hal, hcase, hown, hw⟩ := hrel
    have hout := hown.lt
    rcases hcase with ⟨rfl, rfl, rfl⟩ | ⟨hn1, hd3, hacc, hF1, hF2⟩
    · clear EX H1 HJ ER
      by_cases hd4 : d ≤ 65536
      · go_wp2_with fail
        go_ret2
        exact ⟨_, rfl, hown, (by repeat (first | exact Ext.refl _ | assumption | refine Ext.drew ?_ | refine Ext.drewN ?_ _ | refine Ext.alloc ?_ _ | refine Ext.trans ?_ (by assumption)))⟩
      · go_wp2_with fail
        go_ret2
        exact ⟨_, rfl, hown, (by repeat (first | exact Ext.refl _ | assumption | refine Ext.drew ?_ | refine Ext.drewN ?_ _ | refine Ext.alloc ?_ _ | refine Ext.trans ?_ (by assumption)))⟩
    · by_cases hd4 : d ≤ 65536
      · have hs0 : 0 ≤ d * d := Int.mul_nonneg (by omega) (by omega)
        have hs1 : d * d ≤ 4294967296 := by
          have := Int.mul_le_mul hd4 hd4 (by omega) (by omega)
          simpa using this
        have ef : (65537 - d).toNat = (65537 - (d + 1)).toNat + 1 := by omega
        by_cases hj : n < 4294967296 ∧ n < d * d
        · -- what is left is a prime: q jumps to it
          rw [ef, partsF, if_neg (by omega)] at hF1 hF2
          simp only [List.append_nil] at hF1 hF2
          have hfin := HJ.out acc hF1 (by omega) (by omega)
          rw [← hF2] at hfin
          have HFIN := hid hfin
          have hj1 := hj.1
          have bb : decide (d * d > n) = true := by simpa using hj.2
          have hnn : ¬ n = 0 := by omega
          have hnd : n / n = 1 := Int.ediv_self hnn
          have h1n : (1 : Int) % n = 1 := Int.emod_eq_of_lt (by omega) hn1
          have hnm : n % n = 0 := Int.emod_self
          clear hj hF1 hF2 ef hfin EX H1 HJ ER
          go_wp2_with fail
          go_loop [0, 6] (fun m i => (m = .int .u64 n ∧ i = .int .i64 0) ∨ (m = .int .u64 1 ∧ i = .int .i64 1)) (fun m _ => (intOf m).toNat)
          case atStart => exact .inl ⟨rfl, rfl⟩
          case round =>
            rcases hrel with ⟨rfl, rfl⟩ | ⟨rfl, rfl⟩
            · go_wp2_with fail
              go_round
              case rel => exact .inr ⟨rfl, rfl⟩
              case measure => simp [intOf]; omega
            · go_wp2_with (first | (at_builtin; refine wpList_append_own _ rfl _ _ 30 rfl w.heap.size 38 i0 (.agg #[.int .u64 0, .int .i64 0]) 2 16 Tryd.underlying30 hi hz0 hz1 hz2 rfl (by decide) _ _ _ rfl (hown.alloc _) ⟨wr.heap.size, 0, none⟩ 1 1 [.int .u64 n, .int .i64 1] rfl rfl (cells_new _ _ _ rfl) (by simp [Value.oneCell']) (by simp only [maxLen]; omega) (by omega) (by have := hw.size; simp; omega) ?_; intro v' w3 hown3 hgrow3 hnil3) | fail)
              go_roundw
              case rel => exact ⟨n + 1, 1, acc ++ [(n, 1)], rfl, rfl, by omega, by omega, by omega, by omega, by simp; omega, .inl ⟨rfl, HFIN.out.1, HFIN.out.2⟩, by rw [flatP_snoc]; simpa using hown3, (hw.alloc _).grown hgrow3 (fun k e => (hout k e).1)⟩
              case measure => simp [intOf, show ¬ n = 1 by omega]; omega
        · have hsq : d * d ≤ n := by omega
          rw [ef, partsF, if_pos hsq] at hF1 hF2
          simp only at hF1 hF2
          have bb : decide (d * d > n) = false := by simpa using hsq
          obtain ⟨T, eT⟩ : ∃ T, stripT d 64 n = T := ⟨_, rfl⟩
          obtain ⟨N, eN⟩ : ∃ N, stripN d 64 n = N := ⟨_, rfl⟩
          rw [eT, eN] at hF1
          rw [eN] at hF2
          have HF1 := hid hF1; have HF2 := hid hF2; have ET := hid eT; have EN := hid eN
          clear hF1 hF2 eT eN ef EX ER HJ
          by_cases hbig : n < 4294967296
          · go_wp2_with fail
            go_loop [0, 6] (fun m i => ∃ (n' : Int) (t : Nat), m = .int .u64 n' ∧ i = .int .i64 t ∧ 1 ≤ n' ∧ n' ≤ n ∧ t ≤ 64 ∧ n' * 2 ^ t ≤ n ∧ T = t + stripT d (64 - t) n' ∧ N = stripN d (64 - t) n') (fun m _ => (intOf m).toNat)
            case atStart => exact ⟨n, 0, rfl, rfl, by omega, by omega, by omega, by simp, by simp [ET.out], by simp [EN.out]⟩
            case round =>
              obtain ⟨n', t, rfl, rfl, hn3, hn4, ht, hp, hT, hN⟩ := hrel
              have HT := hid hT; have HN := hid hN; have HPw := hid hp
              clear hT hN hp
              by_cases hz : n' % d = 0
              · have ht2 := strip_bound (n := n') (t := t) (by have := HPw.out; omega) hn3
                have es : 64 - t = (64 - (t + 1)) + 1 := by omega
                have h5 := strip_half hd hn3 hz HPw.out
                have hT := HT.out; have hN := HN.out
                rw [es, (strip_step hz).1] at hT
                rw [es, (strip_step hz).2] at hN
                have HT2 := hid hT; have HN2 := hid hN; have H5 := hid h5.1
                have h6 := h5.2.1; have h7 := h5.2.2
                clear hT hN h5 es
                have bz : (n' % d == 0) = true := by simpa using hz
                go_wp2_with fail
                go_round
                case rel => exact ⟨n' / d, t + 1, rfl, by go_num, h6, by omega, by omega, H5.out, by rw [HT2.out]; omega, HN2.out⟩
                case measure => simp [intOf]; omega
              · have hT := HT.out; have hN := HN.out
                rw [(strip_zero _ hz).1, Int.add_zero] at hT
                rw [(strip_zero _ hz).2] at hN
                subst hT; subst hN
                have bz : (N % d == 0) = false := by simpa using hz
                have hF1 := HF1.out; have hF2 := HF2.out
                have hnx : ∀ acc' : List (Int × Int), acc' ++ (partsF (65537 - (d + 1)).toNat (d + 1) N).1 = rs → (acc'.length : Int) + 2 ≤ d + 1 →
                    ((N = 1 ∧ acc' = fs ∧ fe = 0) ∨ (1 < N ∧ d + 1 ≤ 65537 ∧ (acc'.length : Int) + 2 ≤ d + 1 ∧ acc' ++ (partsF (65537 - (d + 1)).toNat (d + 1) N).1 = rs ∧ (partsF (65537 - (d + 1)).toNat (d + 1) N).2 = rest)) := fun acc' h h' => by
                  by_cases e1 : N = 1
                  · left
                    have hF2 := HF2.out
                    rw [e1, partsF_one _ _ (by omega)] at h hF2
                    simp only [List.append_nil] at h
                    exact ⟨e1, H1.out acc' h hF2.symm⟩
                  · exact .inr ⟨by omega, by omega, h', h, HF2.out⟩
                have HNX := hid hnx
                clear HT HN hz HF1 HF2 hF2 hnx
                by_cases ht0 : t = 0
                · subst ht0
                  rw [if_neg (by simp)] at hF1
                  have HF3 := hid hF1; clear hF1
                  go_wp2_with fail
                  go_roundw
                  case rel => exact ⟨d + 1, N, acc, rfl, rfl, by omega, by omega, hn3, by omega, by omega, HNX.out acc HF3.out (by omega), hown, (by repeat (first | exact Ext.refl _ | assumption | refine Ext.drew ?_ | refine Ext.drewN ?_ _ | refine Ext.alloc ?_ _ | refine Ext.trans ?_ (by assumption)))⟩
                  case measure => by_cases e : N = 1 <;> simp [intOf, e, show ¬ n = 1 by omega] <;> omega
                · rw [if_pos (by omega)] at hF1
                  have HF3 := hid hF1; clear hF1
                  have bt : decide ((t : Int) > 0) = true := by simp; omega
                  go_wp2_with (first | (at_builtin; refine wpList_append_own _ rfl _ _ 30 rfl w.heap.size 38 i0 (.agg #[.int .u64 0, .int .i64 0]) 2 16 Tryd.underlying30 hi hz0 hz1 hz2 rfl (by decide) _ _ _ rfl (hown.alloc _) ⟨wr.heap.size, 0, none⟩ 1 1 [.int .u64 d, .int .i64 t] rfl rfl (cells_new _ _ _ rfl) (by simp [Value.oneCell']) (by simp only [maxLen]; omega) (by omega) (by have := hw.size; simp; omega) ?_; intro v' w3 hown3 hgrow3 hnil3) | fail)
                  go_roundw
                  case rel => exact ⟨d + 1, N, acc ++ [(d, (t : Int))], rfl, rfl, by omega, by omega, hn3, by omega, by simp; omega, HNX.out _ (by simpa using HF3.out) (by simp; omega), by rw [flatP_snoc]; simpa using hown3, (hw.alloc _).grown hgrow3 (fun k e => (hout k e).1)⟩
                  case measure => by_cases e : N = 1 <;> simp [intOf, e, show ¬ n = 1 by omega] <;> omega
          · go_wp2_with fail
            go_loop [0, 6] (fun m i => ∃ (n' : Int) (t : Nat), m = .int .u64 n' ∧ i = .int .i64 t ∧ 1 ≤ n' ∧ n' ≤ n ∧ t ≤ 64 ∧ n' * 2 ^ t ≤ n ∧ T = t + stripT d (64 - t) n' ∧ N = stripN d (64 - t) n') (fun m _ => (intOf m).toNat)
            case atStart => exact ⟨n, 0, rfl, rfl, by omega, by omega, by omega, by simp, by simp [ET.out], by simp [EN.out]⟩
            case round =>
              obtain ⟨n', t, rfl, rfl, hn3, hn4, ht, hp, hT, hN⟩ := hrel
              have HT := hid hT; have HN := hid hN; have HPw := hid hp
              clear hT hN hp
              by_cases hz : n' % d = 0
              · have ht2 := strip_bound (n := n') (t := t) (by have := HPw.out; omega) hn3
                have es : 64 - t = (64 - (t + 1)) + 1 := by omega
                have h5 := strip_half hd hn3 hz HPw.out
                have hT := HT.out; have hN := HN.out
                rw [es, (strip_step hz).1] at hT
                rw [es, (strip_step hz).2] at hN
                have HT2 := hid hT; have HN2 := hid hN; have H5 := hid h5.1
                have h6 := h5.2.1; have h7 := h5.2.2
                clear hT hN h5 es
                have bz : (n' % d == 0) = true := by simpa using hz
                go_wp2_with fail
                go_round
                case rel => exact ⟨n' / d, t + 1, rfl, by go_num, h6, by omega, by omega, H5.out, by rw [HT2.out]; omega, HN2.out⟩
                case measure => simp [intOf]; omega
              · have hT := HT.out; have hN := HN.out
                rw [(strip_zero _ hz).1, Int.add_zero] at hT
                rw [(strip_zero _ hz).2] at hN
                subst hT; subst hN
                have bz : (N % d == 0) = false := by simpa using hz
                have hF1 := HF1.out; have hF2 := HF2.out
                have hnx : ∀ acc' : List (Int × Int), acc' ++ (partsF (65537 - (d + 1)).toNat (d + 1) N).1 = rs → (acc'.length : Int) + 2 ≤ d + 1 →
                    ((N = 1 ∧ acc' = fs ∧ fe = 0) ∨ (1 < N ∧ d + 1 ≤ 65537 ∧ (acc'.length : Int) + 2 ≤ d + 1 ∧ acc' ++ (partsF (65537 - (d + 1)).toNat (d + 1) N).1 = rs ∧ (partsF (65537 - (d + 1)).toNat (d + 1) N).2 = rest)) := fun acc' h h' => by
                  by_cases e1 : N = 1
                  · left
                    have hF2 := HF2.out
                    rw [e1, partsF_one _ _ (by omega)] at h hF2
                    simp only [List.append_nil] at h
                    exact ⟨e1, H1.out acc' h hF2.symm⟩
                  · exact .inr ⟨by omega, by omega, h', h, HF2.out⟩
                have HNX := hid hnx
                clear HT HN hz HF1 HF2 hF2 hnx
                by_cases ht0 : t = 0
                · subst ht0
                  rw [if_neg (by simp)] at hF1
                  have HF3 := hid hF1; clear hF1
                  go_wp2_with fail
                  go_roundw
                  case rel => exact ⟨d + 1, N, acc, rfl, rfl, by omega, by omega, hn3, by omega, by omega, HNX.out acc HF3.out (by omega), hown, (by repeat (first | exact Ext.refl _ | assumption | refine Ext.drew ?_ | refine Ext.drewN ?_ _ | refine Ext.alloc ?_ _ | refine Ext.trans ?_ (by assumption)))⟩
                  case measure => by_cases e : N = 1 <;> simp [intOf, e, show ¬ n = 1 by omega] <;> omega
                · rw [if_pos (by omega)] at hF1
                  have HF3 := hid hF1; clear hF1
                  have bt : decide ((t : Int) > 0) = true := by simp; omega
                  go_wp2_with (first | (at_builtin; refine wpList_append_own _ rfl _ _ 30 rfl w.heap.size 38 i0 (.agg #[.int .u64 0, .int .i64 0]) 2 16 Tryd.underlying30 hi hz0 hz1 hz2 rfl (by decide) _ _ _ rfl (hown.alloc _) ⟨wr.heap.size, 0, none⟩ 1 1 [.int .u64 d, .int .i64 t] rfl rfl (cells_new _ _ _ rfl) (by simp [Value.oneCell']) (by simp only [maxLen]; omega) (by omega) (by have := hw.size; simp; omega) ?_; intro v' w3 hown3 hgrow3 hnil3) | fail)
                  go_roundw
                  case rel => exact ⟨d + 1, N, acc ++ [(d, (t : Int))], rfl, rfl, by omega, by omega, hn3, by omega, by simp; omega, HNX.out _ (by simpa using HF3.out) (by simp; omega), by rw [flatP_snoc]; simpa using hown3, (hw.alloc _).grown hgrow3 (fun k e => (hout k e).1)⟩
                  case measure => by_cases e : N = 1 <;> simp [intOf, e, show ¬ n = 1 by omega] <;> omega
      · -- all divisors are tried
        have hd5 : (65537 - d).toNat = 0 := by omega
        rw [hd5, partsF] at hF1 hF2
        simp only [List.append_nil] at hF1 hF2
        subst hF1; subst hF2
        have hX := EX.out
        clear EX H1 HJ ER
        by_cases hl : 4294967296 ≤ n
        · rw [if_pos hl] at hX
          simp only [Prod.mk.injEq] at hX
          obtain ⟨rfl, rfl⟩ := hX
          go_wp2_with fail
          go_ret2
          exact ⟨_, rfl, World.ownsRow_nil _ _ _ _, (by repeat (first | exact Ext.refl _ | assumption | refine Ext.drew ?_ | refine Ext.drewN ?_ _ | refine Ext.alloc ?_ _ | refine Ext.trans ?_ (by assumption)))⟩
        · rw [if_neg hl, if_pos hn1] at hX
          simp only [Prod.mk.injEq] at hX
          obtain ⟨rfl, rfl⟩ := hX
          go_wp2_with (first | (at_builtin; refine wpList_append_own _ rfl _ _ 30 rfl w.heap.size 38 i0 (.agg #[.int .u64 0, .int .i64 0]) 2 16 Tryd.underlying30 hi hz0 hz1 hz2 rfl (by decide) _ _ _ rfl (hown.alloc _) ⟨wr.heap.size, 0, none⟩ 1 1 [.int .u64 n, .int .i64 1] rfl rfl (cells_new _ _ _ rfl) (by simp [Value.oneCell']) (by simp only [maxLen]; omega) (by omega) (by have := hw.size; simp; omega) ?_; intro v' w3 hown3 hgrow3 hnil3) | fail)
          go_ret2
          exact ⟨_, rfl, by rw [flatP_snoc]; simpa using hown3, (hw.alloc _).grown hgrow3 (fun k e => (hout k e).1)⟩

set_option maxHeartbeats 1000000 in
theorem Same_eqD (v u : Value) (ps : List (Int × Int)) (w : World) (hv : Parts w v ps) (hu : Parts w u ps) :
    Calls Tryd.prog 9 #[v, u] w (RetD (.bool true) w) := by
  obtain ⟨a, cap, rfl, hc1, hc2, hc⟩ := hv
  obtain ⟨a', cap', rfl, hd1, hd2, hd⟩ := hu
  have Hc := hid hc; have Hd := hid hd
  clear hc hd
  go_enter Tryd.func9, Tryd.ntmps9
  go_wp2_with fail
  go_loopw [5] (fun i wr => ∃ k : Nat, i = .int .i64 k ∧ k ≤ ps.length ∧ Drw w wr) (fun i _ => ps.length - (intOf i).toNat)
  case atStart => exact ⟨0, rfl, by omega, (by repeat (first | exact Drw.refl _ | assumption | refine Drw.drewN ?_ _ | refine Drw.trans ?_ (by assumption)))⟩
  case round =>
    obtain ⟨k, rfl, hk, hw⟩ := hrel
    by_cases hlt : k < ps.length
    · obtain ⟨b, off, rfl, hb, hcell⟩ := Hc.out (by omega)
      obtain ⟨b', off', rfl, hb', hcell'⟩ := Hd.out (by omega)
      have g1 := (hw.ext.cells _ _ hb).trans (hcell k hlt).1
      have g2 := (hw.ext.cells _ _ hb).trans (hcell k hlt).2
      have g3 := (hw.ext.cells _ _ hb').trans (hcell' k hlt).1
      have g4 := (hw.ext.cells _ _ hb').trans (hcell' k hlt).2
      clear hcell hcell'
      generalize ps.getD k (0, 0) = q at *
      obtain ⟨q1, q2⟩ := q
      simp only at g1 g2 g3 g4
      go_wp2_with fail
      go_quiet (fail)
      go_wp2_with fail
      go_roundw
      case rel => exact ⟨k + 1, by go_num, by omega, (by repeat (first | exact Drw.refl _ | assumption | refine Drw.drewN ?_ _ | refine Drw.trans ?_ (by assumption)))⟩
      case measure => simp [intOf]; omega
    · go_wp2_with fail
      go_ret
      exact ⟨rfl, (by repeat (first | exact Drw.refl _ | assumption | refine Drw.drewN ?_ _ | refine Drw.trans ?_ (by assumption)))⟩
theorem Same_eq (v u : Value) (ps : List (Int × Int)) (w : World) (hv : Parts w v ps) (hu : Parts w u ps) :
    Calls Tryd.prog 9 #[v, u] w (Ret (.bool true) w) := RetD.ret (Same_eqD v u ps w hv hu)
end Go.Proofs.YthomeenmcajmdaaDoor
