import Derived.Test.YthomeenmcajmdaaGreatDoorBun06
import Derived.Sort.AssemblyPlain
import Derived.Test.YthomeenmcajmdaaGreatDoorBun10
namespace Go.Proofs.YthomeenmcajmdaaGreatDoor
open Go.RowKit Go.Maps
def AB (w : World) (g : Nat) (t : TypeId) (d : Array Int) (rest : List Value) : Prop := Blk w g t ((d.toList.map (Value.int .u64)) ++ rest).toArray
theorem ab_get {d : Array Int} {k : Nat} (h : k < d.size) : d[k]! = d.toList[k]'(by simpa using h) := by simp [h]
theorem AB.cell {w : World} {g : Nat} {t : TypeId} {d : Array Int} {rest : List Value} (h : AB w g t d rest) {k : Nat} (hk : k < d.size) : w.cell? ⟨g, k, none⟩ = some (.int .u64 d[k]!) := by
  have := Blk.cell h k
  rw [this, List.getElem?_toArray, List.getElem?_append_left (by simpa using hk), List.getElem?_map, List.getElem?_eq_getElem (by simpa using hk), ab_get hk]
  rfl
theorem AB.frozen {w : World} {g : Nat} {t : TypeId} {d : Array Int} {rest : List Value} (h : AB w g t d rest) (k : Nat) : w.frozen? ⟨g, k, none⟩ = false := Blk.frozen h k
theorem AB.set_ {w : World} {g : Nat} {t : TypeId} {d : Array Int} {rest : List Value} (h : AB w g t d rest) {k : Nat} (hk : k < d.size) (x : Int) : AB (w.setCell ⟨g, k, none⟩ (.int .u64 x)) g t (d.setIfInBounds k x) rest := by
  have := Blk.set_ h k (.int .u64 x)
  unfold AB
  rw [Array.toList_setIfInBounds]
  have e : (((d.toList.map (Value.int .u64)) ++ rest).toArray).setIfInBounds k (.int .u64 x) = (((d.toList.set k x).map (Value.int .u64)) ++ rest).toArray := by
    rw [List.setIfInBounds_toArray, List.set_append_left _ _ (by simpa using hk), List.map_set]
  rw [← e]
  exact this
theorem AB.grown {w w' : World} {g : Nat} {t : TypeId} {d : Array Int} {rest : List Value} {row : Option Nat} (h : AB w g t d rest) (hg : w.grownBy w' row) (hr : row ≠ some g) : AB w' g t d rest := Blk.grown h hg hr
theorem AB.ext {w w' : World} {g : Nat} {t : TypeId} {d : Array Int} {rest : List Value} (h : AB w g t d rest) (x : Ext w w') : AB w' g t d rest := Blk.ext h x
theorem AB.drewN {w : World} {g : Nat} {t : TypeId} {d : Array Int} {rest : List Value} (h : AB w g t d rest) (n : Nat) : AB (w.drewN n) g t d rest := h
theorem AB.drew {w : World} {g : Nat} {t : TypeId} {d : Array Int} {rest : List Value} (h : AB w g t d rest) : AB w.drew g t d rest := h
theorem AB.swp {w : World} {g : Nat} {t : TypeId} {d : Array Int} {rest : List Value} (h : AB w g t d rest) {i j : Nat} (hi : i < d.size) (hj : j < d.size) :
    AB ((w.setCell ⟨g, i, none⟩ (.int .u64 d[j]!)).setCell ⟨g, j, none⟩ (.int .u64 d[i]!)) g t (Go.Sort.swp d i j) rest :=
  (h.set_ hi d[j]!).set_ (by simpa using hj) d[i]!
theorem swp_size (d : Array Int) (i j : Nat) : (Go.Sort.swp d i j).size = d.size := by simp [Go.Sort.swp]
theorem swp_grown (w : World) (g i j : Nat) (u v : Value) : w.grownBy ((w.setCell ⟨g, i, none⟩ u).setCell ⟨g, j, none⟩ v) (some g) := (setCell_grown w ⟨g, i, none⟩ u).trans (setCell_grown _ ⟨g, j, none⟩ v)
theorem drewN_grown {w w' : World} {r : Option Nat} (h : w.grownBy w' r) (n : Nat) : w.grownBy (w'.drewN n) r := ⟨h.os, h.tape, h.output, h.size, h.block⟩
theorem drew_grown {w w' : World} {r : Option Nat} (h : w.grownBy w' r) : w.grownBy w'.drew r := ⟨h.os, h.tape, h.output, h.size, h.block⟩
end Go.Proofs.YthomeenmcajmdaaGreatDoor
namespace Go.Proofs.YthomeenmcajmdaaGreatDoor
open Go.RowKit Go.Maps
theorem lt_int (x y : Int) : Go.Sort.ltInt x y = decide (x < y) := rfl
set_option maxRecDepth 100000 in
set_option maxHeartbeats 1000000 in
theorem pdIns (g cap : Nat) (t : TypeId) (d : Array Int) (rest : List Value) (a b : Nat) (w : World) (hb : AB w g t d rest) (hab : a ≤ b) (hbd : b ≤ d.size) (hs : d.size ≤ 1000) :
    Calls Tryz.prog 124 #[.slice (some ⟨g, 0, none⟩) d.size cap, .int .i64 a, .int .i64 b] w
      fun e w' => (∃ v, e = .returned v) ∧ AB w' g t (Go.Sort.insertionSort Go.Sort.ltInt d a b) rest ∧ (Go.Sort.insertionSort Go.Sort.ltInt d a b).size = d.size ∧ w.grownBy w' (some g) := by
  unfold Go.Sort.insertionSort
  obtain ⟨R, hR⟩ : ∃ R, Go.Sort.insOuter Go.Sort.ltInt a b (a + 1) d = R := ⟨_, rfl⟩
  have HR := hid hR
  rw [hR]
  obtain ⟨n, hn⟩ : ∃ n, d.size = n := ⟨_, rfl⟩
  have Hn := hid hn
  rw [hn] at hbd hs ⊢
  have HB0 := hid hb
  clear hR hn hb
  go_enter Tryz.func124, Tryz.ntmps124
  go_wp2_with fail
  go_loopw [6] (fun i wr => ∃ (k : Nat) (z : Array Int), i = .int .i64 k ∧ k ≤ n + 1 ∧ a + 1 ≤ k ∧ Hid (AB wr g t z rest) ∧ Hid (Go.Sort.insOuter Go.Sort.ltInt a b k z = R) ∧ Hid (z.size = n) ∧ Hid (w.grownBy wr (some g))) (fun i _ => n + 1 - (intOf i).toNat)
  case atStart => exact ⟨a + 1, d, rfl, by omega, Nat.le_refl _, HB0, HR, Hn, hid (grown_refl _ _)⟩
  case round =>
    clear HB0 HR
    obtain ⟨k, z, rfl, hk, hak, hz, he, hzn, hg⟩ := hrel
    rename World => wr
    by_cases hlt : k < b
    · have he2 := hid (show Go.Sort.insOuter Go.Sort.ltInt a b (k + 1) (Go.Sort.insInner Go.Sort.ltInt a k z) = R by
        have := he.out
        rw [Go.Sort.insOuter, if_pos hlt] at this
        exact this)
      obtain ⟨Q, hQ⟩ : ∃ Q, Go.Sort.insInner Go.Sort.ltInt a k z = Q := ⟨_, rfl⟩
      have HQ := hid hQ
      replace he2 := hid (by have := he2.out; rwa [hQ] at this)
      clear hQ he
      go_wp2_with fail
      go_loopw [7] (fun i wi => ∃ (j : Nat) (y : Array Int), i = .int .i64 j ∧ j ≤ k ∧ a ≤ j ∧ Hid (AB wi g t y rest) ∧ Hid (Go.Sort.insInner Go.Sort.ltInt a j y = Q) ∧ Hid (y.size = n) ∧ Hid (w.grownBy wi (some g))) (fun i _ => (intOf i).toNat)
      case atStart => exact ⟨k, z, rfl, Nat.le_refl _, by omega, hz, HQ, hzn, hg⟩
      case round =>
        clear hz HQ hzn hg
        obtain ⟨j, y, rfl, hj, haj, hy, hq, hyn, hg⟩ := hrel
        rename World => wi
        rcases Nat.lt_or_ge a j with hlt2 | hge
        · obtain ⟨m, rfl⟩ : ∃ m, j = m + 1 := ⟨j - 1, by omega⟩
          have c1 := hy.out.cell (k := m + 1) (by rw [hyn.out]; omega)
          have c2 := hy.out.cell (k := m) (by rw [hyn.out]; omega)
          have f1 := hy.out.frozen (m + 1)
          have f2 := hy.out.frozen m
          have hsw := hid (fun q => (hy.out.drewN q).swp (i := m + 1) (j := m) (by rw [hyn.out]; omega) (by rw [hyn.out]; omega))
          have hq' := hq.out
          rw [Go.Sort.insInner, lt_int] at hq'
          obtain ⟨y1, e1⟩ : ∃ x, y[m + 1]! = x := ⟨_, rfl⟩
          obtain ⟨y2, e2⟩ : ∃ x, y[m]! = x := ⟨_, rfl⟩
          rw [e1] at c1 hsw hq'; rw [e2] at c2 hsw hq'
          rw [decide_eq_true (show m + 1 > a from hlt2), Bool.true_and] at hq'
          have gA : decide ((a : Int) < (m : Int) + 1) = true := decide_eq_true (by omega)
          have gB : decide (a < m + 1) = true := decide_eq_true hlt2
          clear e1 e2
          by_cases hlt3 : y1 < y2
          · have hd : decide (y1 < y2) = true := by simpa using hlt3
            rw [hd, if_pos rfl] at hq'
            have hq2 := hid hq'
            clear hq' hq
            go_wp2_with fail
            go_quiet ((go_at_call 130; exact quiet_l (less64_any _ _ _)))
            go_wp2_with fail
            go_region
            go_wp2_with fail
            go_roundw
            case rel => exact ⟨m, _, by go_num, by omega, by omega, hid (hsw.out _), hq2, hid (by rw [swp_size]; exact hyn.out), hid ((drewN_grown hg.out _).trans (swp_grown _ g _ _ _ _))⟩
            case measure => simp [intOf]
          · have hd : decide (y1 < y2) = false := by simpa using hlt3
            rw [hd, if_neg (by simp)] at hq'
            have hq2 := hid hq'
            clear hq' hq
            go_wp2_with fail
            go_quiet ((go_at_call 130; exact quiet_l (less64_any _ _ _)))
            go_wp2_with fail
            go_roundw
            case rel => exact ⟨k + 1, y, by go_num, by omega, by omega, hid (hy.out.drewN _), hid (by rw [hq2.out]; exact he2.out), hyn, hid (drewN_grown hg.out _)⟩
            case measure => simp [intOf]; omega
        · obtain rfl : j = a := by omega
          have hq2 := hid (show y = Q by
            have := hq.out
            cases j with
            | zero => rw [Go.Sort.insInner] at this; exact this
            | succ m =>
              rw [Go.Sort.insInner, decide_eq_false (show ¬ (m + 1 > m + 1) by omega), Bool.false_and, if_neg (by simp)] at this
              exact this)
          clear hq
          go_wp2_with fail
          go_quiet (fail)
          go_wp2_with fail
          go_roundw
          case rel => exact ⟨k + 1, y, by go_num, by omega, by omega, hid (hy.out.drewN _), hid (by rw [hq2.out]; exact he2.out), hyn, hid (drewN_grown hg.out _)⟩
          case measure => simp [intOf]; omega
    · have he2 := hid (show z = R by
        have := he.out
        rw [Go.Sort.insOuter, if_neg hlt] at this
        exact this)
      go_wp2_with fail
      go_end0
      refine ⟨⟨_, rfl⟩, ?_, ?_, hg.out⟩
      · rw [← he2.out]; exact hz.out
      · rw [← he2.out]; exact hzn.out
end Go.Proofs.YthomeenmcajmdaaGreatDoor
namespace Go.Proofs.YthomeenmcajmdaaGreatDoor
open Go.RowKit Go.Maps
set_option maxRecDepth 100000 in
set_option maxHeartbeats 2000000 in
theorem pdSift (g cap : Nat) (t : TypeId) (d : Array Int) (rest : List Value) (lo hi first : Nat) (w : World) (hb : AB w g t d rest) (hf : first + hi ≤ d.size) (hlo : lo ≤ d.size) (hs : d.size ≤ 1000) :
    Calls Tryz.prog 151 #[.slice (some ⟨g, 0, none⟩) d.size cap, .int .i64 lo, .int .i64 hi, .int .i64 first] w
      fun e w' => (∃ v, e = .returned v) ∧ AB w' g t (Go.Sort.siftDown Go.Sort.ltInt hi first lo d) rest ∧ (Go.Sort.siftDown Go.Sort.ltInt hi first lo d).size = d.size ∧ w.grownBy w' (some g) := by
  obtain ⟨R, hR⟩ : ∃ R, Go.Sort.siftDown Go.Sort.ltInt hi first lo d = R := ⟨_, rfl⟩
  have HR := hid hR
  rw [hR]
  obtain ⟨n, hn⟩ : ∃ n, d.size = n := ⟨_, rfl⟩
  have Hn := hid hn
  rw [hn] at hf hlo hs ⊢
  have HB0 := hid hb
  clear hR hn hb
  go_enter Tryz.func151, Tryz.ntmps151
  go_wp2_with fail
  go_loopw [8, 9] (fun i _ wr => ∃ (r : Nat) (z : Array Int), i = .int .i64 r ∧ r ≤ n ∧ Hid (AB wr g t z rest) ∧ Hid (Go.Sort.siftDown Go.Sort.ltInt hi first r z = R) ∧ Hid (z.size = n) ∧ Hid (w.grownBy wr (some g))) (fun i _ _ => n + 1 - (intOf i).toNat)
  case atStart => exact ⟨lo, d, rfl, hlo, HB0, HR, Hn, hid (grown_refl _ _)⟩
  case round =>
    clear HB0 HR
    obtain ⟨r, z, rfl, hr, hz, he, hzn, hg⟩ := hrel
    rename World => wr
    obtain ⟨c, hc⟩ : ∃ c, 2 * r + 1 = c := ⟨_, rfl⟩
    have ec : (2 : Int) * (r : Int) + 1 = (c : Int) := by omega
    by_cases hch : hi ≤ c
    · have he2 := hid (show z = R by
        have := he.out
        rw [Go.Sort.siftDown, dif_pos (show 2 * r + 1 ≥ hi by omega)] at this
        exact this)
      have dg : decide ((hi : Int) ≤ (c : Int)) = true := decide_eq_true (by omega)
      clear he hc
      go_wp2_with fail
      go_end0
      refine ⟨⟨_, rfl⟩, ?_, ?_, hg.out⟩
      · rw [← he2.out]; exact hz.out
      · rw [← he2.out]; exact hzn.out
    have dg : decide ((hi : Int) ≤ (c : Int)) = false := decide_eq_false (by omega)
    have hpure := he.out
    rw [Go.Sort.siftDown, dif_neg (show ¬ (2 * r + 1 ≥ hi) by omega)] at hpure
    obtain ⟨pr, hpr⟩ : ∃ x, first + r = x := ⟨_, rfl⟩
    have epr : (first : Int) + (r : Int) = (pr : Int) := by omega
    obtain ⟨pc, hpc⟩ : ∃ x, first + c = x := ⟨_, rfl⟩
    have epc : (first : Int) + (c : Int) = (pc : Int) := by omega
    have cr := hz.out.cell (k := pr) (by rw [hzn.out]; omega)
    have cc := hz.out.cell (k := pc) (by rw [hzn.out]; omega)
    have fr := hz.out.frozen pr
    have fc := hz.out.frozen pc
    have swc := hid (fun q => (hz.out.drewN q).swp (i := pr) (j := pc) (by rw [hzn.out]; omega) (by rw [hzn.out]; omega))
    rw [hc, hpr, hpc] at hpure
    rw [show first + (2 * r + 2) = pc + 1 by omega, show (2 * r + 2) = c + 1 by omega] at hpure
    obtain ⟨xr, er⟩ : ∃ x, z[pr]! = x := ⟨_, rfl⟩
    obtain ⟨xc, exc⟩ : ∃ x, z[pc]! = x := ⟨_, rfl⟩
    rw [er] at cr hpure swc
    rw [exc] at cc hpure swc
    have brn : (pr : Int) < (n : Int) := by omega
    have bcn : (pc : Int) < (n : Int) := by omega
    have wpr : IntKind.i64.wrap (pr : Int) = (pr : Int) := IntWalk.i64_in _ (by omega)
    have wpc : IntKind.i64.wrap (pc : Int) = (pc : Int) := IntWalk.i64_in _ (by omega)
    have wc : IntKind.i64.wrap (c : Int) = (c : Int) := IntWalk.i64_in _ (by omega)
    have ER := hid er
    clear er exc he
    by_cases h1 : c + 1 < hi
    · have d1 : decide ((c : Int) + 1 < (hi : Int)) = true := decide_eq_true (by omega)
      have d1' : decide (c + 1 < hi) = true := decide_eq_true h1
      have c2 := hz.out.cell (k := pc + 1) (by rw [hzn.out]; omega)
      have f2 := hz.out.frozen (pc + 1)
      have sw2 := hid (fun q => (hz.out.drewN q).swp (i := pr) (j := pc + 1) (by rw [hzn.out]; omega) (by rw [hzn.out]; omega))
      obtain ⟨x2, ex2⟩ : ∃ x, z[pc + 1]! = x := ⟨_, rfl⟩
      rw [ex2] at c2 hpure sw2
      rw [ER.out] at sw2
      rw [decide_eq_true h1, Bool.true_and, lt_int, lt_int, lt_int] at hpure
      have b2n : (pc : Int) + 1 < (n : Int) := by omega
      have e2 : (first : Int) + ((c : Int) + 1) = (pc : Int) + 1 := by omega
      obtain ⟨p2, hp2⟩ : ∃ x, pc + 1 = x := ⟨_, rfl⟩
      have ep2 : (pc : Int) + 1 = (p2 : Int) := by omega
      obtain ⟨k2, hk2⟩ : ∃ x, c + 1 = x := ⟨_, rfl⟩
      have ek2 : (c : Int) + 1 = (k2 : Int) := by omega
      have e22 : (first : Int) + (k2 : Int) = (p2 : Int) := by omega
      have b22 : (p2 : Int) < (n : Int) := by omega
      have wp2 : IntKind.i64.wrap (p2 : Int) = (p2 : Int) := IntWalk.i64_in _ (by omega)
      have wk2 : IntKind.i64.wrap (k2 : Int) = (k2 : Int) := IntWalk.i64_in _ (by omega)
      rw [hp2] at c2 f2 sw2 hpure
      rw [hk2] at hpure d1' h1
      rw [ek2] at d1
      rw [ep2] at e2 b2n
      clear ex2
      by_cases h2 : xc < x2
      · have d2 : decide (xc < x2) = true := by simpa using h2
        rw [d2, if_pos rfl] at hpure
        by_cases h3 : xr < x2
        · have d3 : decide (xr < x2) = true := by simpa using h3
          rw [d3, Bool.not_true, if_neg (by simp), dif_pos h1] at hpure
          have hq := hid hpure
          clear hpure
          go_wp2_with fail
          go_quiet ((go_at_call 130; first | exact quiet_l (less64_any _ _ _) | exact quiet_add_l (less64_any _ _ _)))
          go_wp2_with fail
          go_quiet ((go_at_call 130; first | exact quiet_l (less64_any _ _ _) | exact quiet_add_l (less64_any _ _ _)))
          go_wp2_with fail
          go_region
          go_wp2_with fail
          go_roundw
          case rel => exact ⟨k2, _, by go_num, by omega, hid (sw2.out _), hq, hid (by rw [swp_size]; exact hzn.out), hid ((drewN_grown hg.out _).trans (swp_grown _ g _ _ _ _))⟩
          case measure => simp [intOf]; omega
        · have d3 : decide (xr < x2) = false := by simpa using h3
          rw [d3, Bool.not_false, if_pos rfl] at hpure
          have hq := hid hpure
          clear hpure
          go_wp2_with fail
          go_quiet ((go_at_call 130; first | exact quiet_l (less64_any _ _ _) | exact quiet_add_l (less64_any _ _ _)))
          go_wp2_with fail
          go_quiet ((go_at_call 130; first | exact quiet_l (less64_any _ _ _) | exact quiet_add_l (less64_any _ _ _)))
          go_wp2_with fail
          (try simp only [Exit.inBlock, Exit.then])
          refine bodyPost_ret (results_none rfl _ _ _) rfl ?_
          refine ⟨⟨_, rfl⟩, ?_, ?_, drewN_grown (drewN_grown hg.out _) _⟩
          · rw [← hq.out]; exact (hz.out.drewN _).drewN _
          · rw [← hq.out]; exact hzn.out
      · have d2 : decide (xc < x2) = false := by simpa using h2
        rw [d2, if_neg (by simp)] at hpure
        by_cases h3 : xr < xc
        · have d3 : decide (xr < xc) = true := by simpa using h3
          rw [d3, Bool.not_true, if_neg (by simp)] at hpure
          have hq := hid hpure
          clear hpure
          go_wp2_with fail
          go_quiet ((go_at_call 130; first | exact quiet_l (less64_any _ _ _) | exact quiet_add_l (less64_any _ _ _)))
          go_wp2_with fail
          go_quiet ((go_at_call 130; first | exact quiet_l (less64_any _ _ _) | exact quiet_add_l (less64_any _ _ _)))
          go_wp2_with fail
          go_region
          go_wp2_with fail
          go_roundw
          case rel => exact ⟨c, _, by go_num, by omega, hid (swc.out _), hq, hid (by rw [swp_size]; exact hzn.out), hid ((drewN_grown hg.out _).trans (swp_grown _ g _ _ _ _))⟩
          case measure => simp [intOf]; omega
        · have d3 : decide (xr < xc) = false := by simpa using h3
          rw [d3, Bool.not_false, if_pos rfl] at hpure
          have hq := hid hpure
          clear hpure
          go_wp2_with fail
          go_quiet ((go_at_call 130; first | exact quiet_l (less64_any _ _ _) | exact quiet_add_l (less64_any _ _ _)))
          go_wp2_with fail
          go_quiet ((go_at_call 130; first | exact quiet_l (less64_any _ _ _) | exact quiet_add_l (less64_any _ _ _)))
          go_wp2_with fail
          (try simp only [Exit.inBlock, Exit.then])
          refine bodyPost_ret (results_none rfl _ _ _) rfl ?_
          refine ⟨⟨_, rfl⟩, ?_, ?_, drewN_grown (drewN_grown hg.out _) _⟩
          · rw [← hq.out]; exact (hz.out.drewN _).drewN _
          · rw [← hq.out]; exact hzn.out
    · have d1 : decide ((c : Int) + 1 < (hi : Int)) = false := decide_eq_false (by omega)
      have d1' : decide (c + 1 < hi) = false := decide_eq_false h1
      rw [d1', Bool.false_and, if_neg (by simp), lt_int] at hpure
      by_cases h3 : xr < xc
      · have d3 : decide (xr < xc) = true := by simpa using h3
        rw [d3, Bool.not_true, if_neg (by simp)] at hpure
        have hq := hid hpure
        clear hpure
        go_wp2_with fail
        go_quiet (fail)
        go_wp2_with fail
        go_quiet ((go_at_call 130; first | exact quiet_l (less64_any _ _ _) | exact quiet_add_l (less64_any _ _ _)))
        go_wp2_with fail
        go_region
        go_wp2_with fail
        go_roundw
        case rel => exact ⟨c, _, by go_num, by omega, hid (swc.out _), hq, hid (by rw [swp_size]; exact hzn.out), hid ((drewN_grown hg.out _).trans (swp_grown _ g _ _ _ _))⟩
        case measure => simp [intOf]; omega
      · have d3 : decide (xr < xc) = false := by simpa using h3
        rw [d3, Bool.not_false, if_pos rfl] at hpure
        have hq := hid hpure
        clear hpure
        go_wp2_with fail
        go_quiet (fail)
        go_wp2_with fail
        go_quiet ((go_at_call 130; first | exact quiet_l (less64_any _ _ _) | exact quiet_add_l (less64_any _ _ _)))
        go_wp2_with fail
        (try simp only [Exit.inBlock, Exit.then])
        refine bodyPost_ret (results_none rfl _ _ _) rfl ?_
        refine ⟨⟨_, rfl⟩, ?_, ?_, drewN_grown (drewN_grown hg.out _) _⟩
        · rw [← hq.out]; exact (hz.out.drewN _).drewN _
        · rw [← hq.out]; exact hzn.out
end Go.Proofs.YthomeenmcajmdaaGreatDoor
namespace Go.Proofs.YthomeenmcajmdaaGreatDoor
open Go.RowKit Go.Maps
set_option maxRecDepth 100000 in
set_option maxHeartbeats 2000000 in
theorem pdHeap (g cap : Nat) (t : TypeId) (d : Array Int) (rest : List Value) (a b : Nat) (w : World) (hb : AB w g t d rest) (hab : a < b) (hbd : b ≤ d.size) (hs : d.size ≤ 1000) :
    Calls Tryz.prog 125 #[.slice (some ⟨g, 0, none⟩) d.size cap, .int .i64 a, .int .i64 b] w
      fun e w' => (∃ v, e = .returned v) ∧ AB w' g t (Go.Sort.heapSort Go.Sort.ltInt d a b) rest ∧ (Go.Sort.heapSort Go.Sort.ltInt d a b).size = d.size ∧ w.grownBy w' (some g) := by
  obtain ⟨hi, hhi⟩ : ∃ hi, b - a = hi := ⟨_, rfl⟩
  have ehi : (b : Int) - (a : Int) = (hi : Int) := by omega
  unfold Go.Sort.heapSort
  rw [hhi]
  obtain ⟨k0, hk0⟩ : ∃ k0, (hi - 1) / 2 = k0 := ⟨_, rfl⟩
  rw [hk0]
  obtain ⟨Q, hQ⟩ : ∃ Q, Go.Sort.heapBuild Go.Sort.ltInt hi a (k0 + 1) d = Q := ⟨_, rfl⟩
  rw [hQ]
  obtain ⟨R, hR⟩ : ∃ R, Go.Sort.heapPop Go.Sort.ltInt a hi Q = R := ⟨_, rfl⟩
  have HQ := hid hQ; have HR := hid hR
  rw [hR]
  have eq2 : ((hi : Int) - 1).tdiv 2 = (k0 : Int) := by rw [Int.tdiv_eq_ediv_of_nonneg (by omega)]; omega
  have hk1 : k0 < hi := by omega
  obtain ⟨n, hn⟩ : ∃ n, d.size = n := ⟨_, rfl⟩
  have Hn := hid hn
  rw [hn] at hbd hs ⊢
  have hfn : a + hi ≤ n := by omega
  have HB0 := hid hb
  have C := hid fun (z : Array Int) (W : World) (lo h : Nat) (hz : AB W g t z rest) (hzn : z.size = n) (h1 : a + h ≤ n) (h2 : lo ≤ n) => (by
    have := pdSift g cap t z rest lo h a W hz (by omega) (by omega) (by omega)
    rw [hzn] at this
    exact this : Calls Tryz.prog 151 #[.slice (some ⟨g, 0, none⟩) n cap, .int .i64 lo, .int .i64 h, .int .i64 a] W
      fun e w' => (∃ v, e = .returned v) ∧ AB w' g t (Go.Sort.siftDown Go.Sort.ltInt h a lo z) rest ∧ (Go.Sort.siftDown Go.Sort.ltInt h a lo z).size = n ∧ W.grownBy w' (some g))
  have C0 := hid fun (z : Array Int) (W : World) (h : Nat) (hz : AB W g t z rest) (hzn : z.size = n) (h1 : a + h ≤ n) => (C.out z W 0 h hz hzn h1 (Nat.zero_le _) : Calls Tryz.prog 151 #[.slice (some ⟨g, 0, none⟩) n cap, .int .i64 0, .int .i64 h, .int .i64 a] W
      fun e w' => (∃ v, e = .returned v) ∧ AB w' g t (Go.Sort.siftDown Go.Sort.ltInt h a 0 z) rest ∧ (Go.Sort.siftDown Go.Sort.ltInt h a 0 z).size = n ∧ W.grownBy w' (some g))
  clear hQ hR hn hb hk0 hhi
  go_enter Tryz.func125, Tryz.ntmps125
  go_wp2_with fail
  go_loopw [9] (fun i wr => ∃ (k : Nat) (z : Array Int), i = .int .i64 ((k : Int) - 1) ∧ k ≤ k0 + 1 ∧ Hid (AB wr g t z rest) ∧ Hid (Go.Sort.heapBuild Go.Sort.ltInt hi a k z = Q) ∧ Hid (z.size = n) ∧ Hid (w.grownBy wr (some g))) (fun i _ => (intOf i + 1).toNat)
  case atStart => exact ⟨k0 + 1, d, by congr 1; omega, Nat.le_refl _, HB0, HQ, Hn, hid (grown_refl _ _)⟩
  case round =>
    clear HB0 HQ
    obtain ⟨k, z, rfl, hk, hz, he, hzn, hg⟩ := hrel
    rename World => wr
    rcases Nat.eq_zero_or_pos k with rfl | hpos
    · have hq := hid (show z = Q from he.out)
      have e0 : (((0 : Nat) : Int) - 1) = -1 := by omega
      rw [e0]
      clear he
      have ez : (-1 : Int) + 1 = 0 := by omega
      go_wp2_with fail
      go_loopw [10] (fun i wi => ∃ (k : Nat) (y : Array Int), i = .int .i64 ((k : Int) - 1) ∧ k ≤ hi ∧ Hid (AB wi g t y rest) ∧ Hid (Go.Sort.heapPop Go.Sort.ltInt a k y = R) ∧ Hid (y.size = n) ∧ Hid (w.grownBy wi (some g))) (fun i _ => (intOf i + 1).toNat)
      case atStart => exact ⟨hi, z, rfl, Nat.le_refl _, hz, hid (by rw [hq.out]; exact HR.out), hzn, hg⟩
      case round =>
        clear hz hq hzn hg
        obtain ⟨k, y, rfl, hk, hy, he, hyn, hg⟩ := hrel
        rename World => wi
        rcases Nat.eq_zero_or_pos k with rfl | hpos
        · have hq := hid (show y = R from he.out)
          have e0 : (((0 : Nat) : Int) - 1) = -1 := by omega
          rw [e0]
          clear he
          go_wp2_with fail
          go_end0
          refine ⟨⟨_, rfl⟩, ?_, ?_, hg.out⟩
          · rw [← hq.out]; exact hy.out
          · rw [← hq.out]; exact hyn.out
        · obtain ⟨m, rfl⟩ : ∃ m, k = m + 1 := ⟨k - 1, by omega⟩
          have e0 : (((m + 1 : Nat) : Int) - 1) = (m : Int) := by omega
          rw [e0]
          have hge : decide ((0 : Int) ≤ (m : Int)) = true := decide_eq_true (by omega)
          obtain ⟨pm, hpm⟩ : ∃ x, a + m = x := ⟨_, rfl⟩
          have epm : (a : Int) + (m : Int) = (pm : Int) := by omega
          have wpm : IntKind.i64.wrap (pm : Int) = (pm : Int) := IntWalk.i64_in _ (by omega)
          have c1 := hy.out.cell (k := pm) (by rw [hyn.out]; omega)
          have c2 := hy.out.cell (k := a) (by rw [hyn.out]; omega)
          have f1 := hy.out.frozen pm
          have f2 := hy.out.frozen a
          have hsw := hid ((hy.out.drew).swp (i := a) (j := pm) (by rw [hyn.out]; omega) (by rw [hyn.out]; omega))
          have he2 := hid (show Go.Sort.heapPop Go.Sort.ltInt a m (Go.Sort.siftDown Go.Sort.ltInt m a 0 (Go.Sort.swp y a pm)) = R by
            have := he.out
            rw [Go.Sort.heapPop, hpm] at this
            exact this)
          obtain ⟨y1, e1⟩ : ∃ x, y[pm]! = x := ⟨_, rfl⟩
          obtain ⟨y2, e2⟩ : ∃ x, y[a]! = x := ⟨_, rfl⟩
          rw [e1] at c1 hsw; rw [e2] at c2 hsw
          have hst := hy.out.set_ (k := a) (by rw [hyn.out]; omega) y1
          have c3 := hst.cell (k := pm) (by simp; rw [hyn.out]; omega)
          have f3 := hst.frozen pm
          obtain ⟨y3, e3⟩ : ∃ x, (y.setIfInBounds a y1)[pm]! = x := ⟨_, rfl⟩
          rw [e3] at c3
          have bpm : (pm : Int) < (n : Int) := by omega
          have ban : (a : Int) < (n : Int) := by omega
          clear e1 e2 e3 he hpm hst
          go_wp2_with fail
          go_region
          go_wp2_with fail
          refine (C0.out _ _ m hsw.out (by rw [swp_size]; exact hyn.out) (by omega)).mono ?_
          rintro _ w5 ⟨⟨v5, rfl⟩, h5, h6, h7⟩
          have H5 := hid h5; have H6 := hid h6
          have H7 := hid ((drew_grown (hg.out.trans (swp_grown wi g a pm (.int .u64 y1) (.int .u64 y2)))).trans h7)
          clear h5 h6 h7
          go_wp2_with fail
          go_roundw
          case rel => exact ⟨m, _, by go_num, by omega, H5, he2, H6, H7⟩
          case measure => simp [intOf]
    · obtain ⟨m, rfl⟩ : ∃ m, k = m + 1 := ⟨k - 1, by omega⟩
      have e0 : (((m + 1 : Nat) : Int) - 1) = (m : Int) := by omega
      rw [e0]
      have hge : decide ((0 : Int) ≤ (m : Int)) = true := decide_eq_true (by omega)
      have he2 := hid (show Go.Sort.heapBuild Go.Sort.ltInt hi a m (Go.Sort.siftDown Go.Sort.ltInt hi a m z) = Q from he.out)
      clear he
      go_wp2_with fail
      refine (C.out z wr m hi hz.out hzn.out hfn (by omega)).mono ?_
      rintro _ w5 ⟨⟨v5, rfl⟩, h5, h6, h7⟩
      have H5 := hid h5; have H6 := hid h6
      have H7 := hid (hg.out.trans h7)
      clear h5 h6 h7
      go_wp2_with fail
      go_roundw
      case rel => exact ⟨m, _, by go_num, by omega, H5, he2, H6, H7⟩
      case measure => simp [intOf]
end Go.Proofs.YthomeenmcajmdaaGreatDoor
