import Derived.Test.YthomeenmcajmdaaGreatDoorBun11
import Derived.Deep.CutBlock
import Derived.BigQuiet
namespace Go.Proofs.YthomeenmcajmdaaGreatDoor
open Go.RowKit Go.Maps
theorem scanUp_le (p : Int → Bool) (d : Array Int) (j : Nat) : ∀ m i, j + 1 - i = m → i ≤ j + 1 → i ≤ Go.Sort.scanUp p d j i ∧ Go.Sort.scanUp p d j i ≤ j + 1
  | m, i, e, hi => by
    rw [Go.Sort.scanUp]
    split
    · rename_i h
      have hij : i ≤ j := by simp at h; exact h.1
      have := scanUp_le p d j (m - 1) (i + 1) (by omega) (by omega)
      omega
    · omega
termination_by m => m
decreasing_by omega
theorem scanDown_le (p : Int → Bool) (d : Array Int) (i : Nat) : ∀ j, Go.Sort.scanDown p d i j ≤ j ∧ (1 ≤ i → i ≤ j + 1 → i ≤ Go.Sort.scanDown p d i j + 1)
  | 0 => ⟨Nat.le_refl _, fun _ h => h⟩
  | j + 1 => by
    rw [Go.Sort.scanDown]
    split
    · rename_i h
      have hij : i ≤ j + 1 := by simp at h; exact h.1
      have := scanDown_le p d i j
      exact ⟨by omega, fun h1 _ => this.2 h1 (by omega)⟩
    · exact ⟨Nat.le_refl _, fun _ h => h⟩
theorem scanUp_over (p : Int → Bool) (d : Array Int) {j i : Nat} (h : j < i) : Go.Sort.scanUp p d j i = i := by
  rw [Go.Sort.scanUp, if_neg]
  simp; omega
theorem scanUp_any (p : Int → Bool) (d : Array Int) (j i : Nat) : i ≤ Go.Sort.scanUp p d j i ∧ (Go.Sort.scanUp p d j i ≤ j + 1 ∨ Go.Sort.scanUp p d j i = i) := by
  rcases Nat.lt_or_ge j i with h | h
  · rw [scanUp_over p d h]; omega
  · have := scanUp_le p d j (j + 1 - i) i rfl (by omega)
    omega
theorem swp_other (d : Array Int) {i j k : Nat} (h1 : k ≠ i) (h2 : k ≠ j) (hk : k < d.size) : (Go.Sort.swp d i j)[k]! = d[k]! := by
  unfold Go.Sort.swp
  simp [Array.getElem!_eq_getD, Array.getD, hk, h1.symm, h2.symm]
theorem partLoop_eq (a i j : Nat) (y : Array Int) {i2 j2 : Nat} {xa : Int} (hx : y[a]! = xa) (h1 : Go.Sort.scanUp (fun x => Go.Sort.ltInt x xa) y j i = i2) (h2 : Go.Sort.scanDown (fun x => !Go.Sort.ltInt x xa) y i2 j = j2) :
    Go.Sort.partLoop Go.Sort.ltInt a i j y = if i2 > j2 then (j2, y) else Go.Sort.partLoop Go.Sort.ltInt a (i2 + 1) (j2 - 1) (Go.Sort.swp y i2 j2) := by
  rw [Go.Sort.partLoop, hx, h1, h2]
  split
  · rfl
  · rename_i h
    have hu := scanUp_any (fun x => Go.Sort.ltInt x xa) y j i
    have hd := scanDown_le (fun x => !Go.Sort.ltInt x xa) y i2 j
    rw [h1] at hu; rw [h2] at hd
    by_cases h0 : j2 - 1 + 1 - (i2 + 1) < j + 1 - i
    · rw [dif_pos h0]
    · exfalso
      have := hd.1
      omega
set_option maxRecDepth 100000 in
set_option maxHeartbeats 2000000 in
theorem pdPart (g cap : Nat) (t : TypeId) (d : Array Int) (rest : List Value) (a b pivot : Nat) (w : World) (hb : AB w g t d rest) (_hap : a ≤ pivot) (hpb : pivot < b) (hbd : b ≤ d.size) (hab : a + 1 < b) (hs : d.size ≤ 1000) :
    Calls Tryz.prog 132 #[.slice (some ⟨g, 0, none⟩) d.size cap, .int .i64 a, .int .i64 b, .int .i64 pivot] w
      fun e w' => e = .returned (.tuple #[.int .i64 (Go.Sort.partition Go.Sort.ltInt d a b pivot).1, .bool (Go.Sort.partition Go.Sort.ltInt d a b pivot).2.1]) ∧ AB w' g t (Go.Sort.partition Go.Sort.ltInt d a b pivot).2.2 rest ∧ (Go.Sort.partition Go.Sort.ltInt d a b pivot).2.2.size = d.size ∧ w.grownBy w' (some g) := by
  obtain ⟨n, hn⟩ : ∃ n, d.size = n := ⟨_, rfl⟩
  rw [hn] at hbd hs ⊢
  have c1 := hb.cell (k := a) (by rw [hn]; omega)
  have c2 := hb.cell (k := pivot) (by rw [hn]; omega)
  have f1 := hb.frozen a
  have f2 := hb.frozen pivot
  have hst := hb.set_ (k := a) (by rw [hn]; omega) d[pivot]!
  have c3 := hst.cell (k := pivot) (by simp; rw [hn]; omega)
  have f3 := hst.frozen pivot
  have hsw := hid ((hb.drew).swp (i := a) (j := pivot) (by rw [hn]; omega) (by rw [hn]; omega))
  obtain ⟨z, hz⟩ : ∃ z, Go.Sort.swp d a pivot = z := ⟨_, rfl⟩
  have HZn := hid (show z.size = n by rw [← hz, swp_size]; exact hn)
  obtain ⟨xp, exp⟩ : ∃ x, d[pivot]! = x := ⟨_, rfl⟩
  obtain ⟨x0, ex0⟩ : ∃ x, d[a]! = x := ⟨_, rfl⟩
  rw [exp] at c2 c3 hsw; rw [ex0] at c1 hsw; rw [hz] at hsw
  obtain ⟨x3, ex3⟩ : ∃ x, (d.setIfInBounds a xp)[pivot]! = x := ⟨_, rfl⟩
  rw [ex3] at c3
  obtain ⟨xa, exa⟩ : ∃ x, z[a]! = x := ⟨_, rfl⟩
  have HXa := hid exa
  have ba : (a : Int) < (n : Int) := by omega
  have bp : (pivot : Int) < (n : Int) := by omega
  obtain ⟨JJ, hJJ⟩ : ∃ x, b - 1 = x := ⟨_, rfl⟩
  have eJJ : (b : Int) - 1 = (JJ : Int) := by omega
  obtain ⟨a1, ha1⟩ : ∃ x, a + 1 = x := ⟨_, rfl⟩
  have ea1 : (a : Int) + 1 = (a1 : Int) := by omega
  have HJJ := hid hJJ; have HA1 := hid ha1
  obtain ⟨I, hI⟩ : ∃ x, Go.Sort.scanUp (fun x => Go.Sort.ltInt x xa) z JJ a1 = x := ⟨_, rfl⟩
  have HI := hid hI
  have hIb := scanUp_le (fun x => Go.Sort.ltInt x xa) z JJ (JJ + 1 - a1) a1 rfl (by omega)
  rw [hI] at hIb
  obtain ⟨J, hJ⟩ : ∃ x, Go.Sort.scanDown (fun x => !Go.Sort.ltInt x xa) z I JJ = x := ⟨_, rfl⟩
  have HJ := hid hJ
  have hJb := scanDown_le (fun x => !Go.Sort.ltInt x xa) z I JJ
  rw [hJ] at hJb
  have hJ1 : J ≤ JJ := hJb.1
  have hJ2 : I ≤ J + 1 := hJb.2 (by omega) (by omega)
  have wa1 : IntKind.i64.wrap (a1 : Int) = (a1 : Int) := IntWalk.i64_in _ (by omega)
  have wJJ : IntKind.i64.wrap (JJ : Int) = (JJ : Int) := IntWalk.i64_in _ (by omega)
  have HD := hid hz
  have Hn := hid hn
  have hgr := hid (drew_grown (swp_grown w g a pivot (.int .u64 xp) (.int .u64 x0)))
  clear hb hn hst exp ex0 ex3 exa hz hJJ ha1 hI hJ hJb
  go_enter Tryz.func132, Tryz.ntmps132
  go_wp2_with fail
  go_region
  go_upto_block 0 with fail
  go_cut [10] from 30 to 45 (fun iv w' => iv = .int .i64 (I : Nat) ∧ AB w' g t z rest ∧ w.grownBy w' (some g))
  case first =>
    go_wp2_with fail
    go_loopw [10] (fun iv wr => ∃ k : Nat, iv = .int .i64 k ∧ a1 ≤ k ∧ (k ≤ JJ + 1 ∨ k = a1) ∧ Hid (Go.Sort.scanUp (fun x => Go.Sort.ltInt x xa) z JJ k = I) ∧ Hid (AB wr g t z rest) ∧ Hid (w.grownBy wr (some g))) (fun iv _ => JJ + 1 - (intOf iv).toNat)
    case atStart => exact ⟨a1, rfl, Nat.le_refl _, .inr rfl, HI, hsw, hgr⟩
    case round =>
      obtain ⟨k, rfl, hk1, hk2, he, hy, hg⟩ := hrel
      rename World => wr
      have hp := he.out
      rw [Go.Sort.scanUp] at hp
      by_cases hlt : k ≤ JJ
      · have ck := hy.out.cell (k := k) (by rw [HZn.out]; omega)
        have ca := hy.out.cell (k := a) (by rw [HZn.out]; omega)
        rw [HXa.out] at ca
        rw [decide_eq_true hlt, Bool.true_and, lt_int] at hp
        obtain ⟨xk, ek⟩ : ∃ x, z[k]! = x := ⟨_, rfl⟩
        rw [ek] at ck hp
        have d0 : decide ((k : Int) ≤ (JJ : Int)) = true := decide_eq_true (by omega)
        have d0' : decide (k ≤ JJ) = true := decide_eq_true hlt
        have bk : (k : Int) < (n : Int) := by omega
        have ba : (a : Int) < (n : Int) := by omega
        clear ek he
        by_cases h3 : xk < xa
        · have d3 : decide (xk < xa) = true := by simpa using h3
          rw [d3, if_pos rfl] at hp
          have hq := hid hp
          clear hp
          go_wp2_with fail
          go_quiet ((go_at_call 130; first | exact quiet_l (less64_any _ _ _) | exact quiet_add_l (less64_any _ _ _)))
          go_wp2_with fail
          go_roundw
          case rel => exact ⟨k + 1, by go_num, by omega, by omega, hq, hid (hy.out.drewN _), hid (drewN_grown hg.out _)⟩
          case measure => simp [intOf]; omega
        · have d3 : decide (xk < xa) = false := by simpa using h3
          rw [d3, if_neg (by simp)] at hp
          have hq := hid hp
          clear hp
          go_wp2_with fail
          go_quiet ((go_at_call 130; first | exact quiet_l (less64_any _ _ _) | exact quiet_add_l (less64_any _ _ _)))
          go_wp2_with fail
          go_meet
          exact ⟨by rw [hq.out], hy.out.drewN _, drewN_grown hg.out _⟩
      · rw [decide_eq_false hlt, Bool.false_and, if_neg (by simp)] at hp
        have hq := hid hp
        have d0 : decide ((k : Int) ≤ (JJ : Int)) = false := decide_eq_false (by omega)
        have d0' : decide (k ≤ JJ) = false := decide_eq_false hlt
        clear hp he
        go_wp2_with fail
        go_quiet (fail)
        go_wp2_with fail
        go_meet
        exact ⟨by rw [hq.out], hy.out.drewN _, drewN_grown hg.out _⟩
  case rest =>
    obtain ⟨rfl, hy, hg⟩ := hcut
    have Hy := hid hy; have Hg := hid hg
    clear hy hg
    go_upto_block 2 with fail
    go_cut [11] from 46 to 62 (fun iv w' => iv = .int .i64 (J : Nat) ∧ AB w' g t z rest ∧ w.grownBy w' (some g))
    case first =>
      go_wp2_with fail
      go_loopw [11] (fun iv wr => ∃ k : Nat, iv = .int .i64 k ∧ k ≤ JJ ∧ (I ≤ k + 1 ∨ k = JJ) ∧ Hid (Go.Sort.scanDown (fun x => !Go.Sort.ltInt x xa) z I k = J) ∧ Hid (AB wr g t z rest) ∧ Hid (w.grownBy wr (some g))) (fun iv _ => (intOf iv).toNat)
      case atStart => exact ⟨JJ, rfl, Nat.le_refl _, .inr rfl, HJ, Hy, Hg⟩
      case round =>
        obtain ⟨k, rfl, hk1, hk2, he, hy, hg⟩ := hrel
        rename World => wr
        have hp := he.out
        by_cases hlt : I ≤ k
        · obtain ⟨m, rfl⟩ : ∃ m, k = m + 1 := ⟨k - 1, by omega⟩
          have ck := hy.out.cell (k := m + 1) (by rw [HZn.out]; omega)
          have ca := hy.out.cell (k := a) (by rw [HZn.out]; omega)
          rw [HXa.out] at ca
          rw [Go.Sort.scanDown, decide_eq_true hlt, Bool.true_and, lt_int] at hp
          obtain ⟨xk, ek⟩ : ∃ x, z[m + 1]! = x := ⟨_, rfl⟩
          rw [ek] at ck hp
          have d0 : decide ((I : Int) ≤ (m : Int) + 1) = true := decide_eq_true (by omega)
          have d0' : decide (I ≤ m + 1) = true := decide_eq_true hlt
          have bk : (m : Int) + 1 < (n : Int) := by omega
          have ba : (a : Int) < (n : Int) := by omega
          clear ek he
          by_cases h3 : xk < xa
          · have d3 : decide (xk < xa) = true := by simpa using h3
            rw [d3, Bool.not_true, if_neg (by simp)] at hp
            have hq := hid hp
            clear hp
            go_wp2_with fail
            go_quiet ((go_at_call 130; first | exact quiet_l (less64_any _ _ _) | exact quiet_add_l (less64_any _ _ _)))
            go_wp2_with fail
            go_meet
            exact ⟨by rw [← hq.out], hy.out.drewN _, drewN_grown hg.out _⟩
          · have d3 : decide (xk < xa) = false := by simpa using h3
            rw [d3, Bool.not_false, if_pos rfl] at hp
            have hq := hid hp
            clear hp
            go_wp2_with fail
            go_quiet ((go_at_call 130; first | exact quiet_l (less64_any _ _ _) | exact quiet_add_l (less64_any _ _ _)))
            go_wp2_with fail
            go_roundw
            case rel => exact ⟨m, by go_num, by omega, by omega, hq, hid (hy.out.drewN _), hid (drewN_grown hg.out _)⟩
            case measure => simp [intOf]
        · have hq := hid (show k = J by
            cases k with
            | zero => exact hp
            | succ m => rw [Go.Sort.scanDown, decide_eq_false hlt, Bool.false_and, if_neg (by simp)] at hp; exact hp)
          have d0 : decide ((I : Int) ≤ (k : Int)) = false := decide_eq_false (by omega)
          have d0' : decide (I ≤ k) = false := decide_eq_false hlt
          clear hp he
          go_wp2_with fail
          go_quiet (fail)
          go_wp2_with fail
          go_meet
          exact ⟨by rw [← hq.out], hy.out.drewN _, drewN_grown hg.out _⟩
    case rest =>
      clear Hy Hg
      obtain ⟨rfl, hy, hg⟩ := hcut
      rename World => w2
      have hpart := hid (show Go.Sort.partition Go.Sort.ltInt d a b pivot = if I > J then (J, true, Go.Sort.swp z J a) else ((Go.Sort.partLoop Go.Sort.ltInt a (I + 1) (J - 1) (Go.Sort.swp z I J)).1, false, Go.Sort.swp (Go.Sort.partLoop Go.Sort.ltInt a (I + 1) (J - 1) (Go.Sort.swp z I J)).2 (Go.Sort.partLoop Go.Sort.ltInt a (I + 1) (J - 1) (Go.Sort.swp z I J)).1 a) by
        unfold Go.Sort.partition
        simp only [HD.out, HXa.out, HJJ.out, HA1.out, HI.out, HJ.out])
      have cJ := hy.cell (k := J) (by rw [HZn.out]; omega)
      have cA := hy.cell (k := a) (by rw [HZn.out]; omega)
      have fJ := hy.frozen J
      have fA := hy.frozen a
      rw [HXa.out] at cA
      obtain ⟨xJ, exJ⟩ : ∃ x, z[J]! = x := ⟨_, rfl⟩
      rw [exJ] at cJ
      have bJ : (J : Int) < (n : Int) := by omega
      by_cases hIJ : J < I
      · have dIJ : decide ((J : Int) < (I : Int)) = true := decide_eq_true (by omega)
        have dIJ' : decide (J < I) = true := decide_eq_true hIJ
        have hP := hid (show Go.Sort.partition Go.Sort.ltInt d a b pivot = (J, true, Go.Sort.swp z J a) by rw [hpart.out, if_pos hIJ])
        have hst := hy.set_ (k := J) (by rw [HZn.out]; omega) xa
        have c4 := hst.cell (k := a) (by simp; rw [HZn.out]; omega)
        have f4 := hst.frozen a
        obtain ⟨x4, ex4⟩ : ∃ x, (z.setIfInBounds J xa)[a]! = x := ⟨_, rfl⟩
        rw [ex4] at c4
        have hs2 := hid ((hy.drew).swp (i := J) (j := a) (by rw [HZn.out]; omega) (by rw [HZn.out]; omega))
        rw [HXa.out, exJ] at hs2
        have hg2 := hid (drew_grown (hg.trans (swp_grown w2 g J a (.int .u64 xa) (.int .u64 xJ))))
        clear hst ex4 exJ hpart hIJ hy hg
        go_wp2_with fail
        go_region
        go_wp2_with fail
        go_ret2
        rw [hP.out]
        exact ⟨rfl, hs2.out, by rw [swp_size]; exact HZn.out, hg2.out⟩
      · have dIJ : decide ((J : Int) < (I : Int)) = false := decide_eq_false (by omega)
        have dIJ' : decide (J < I) = false := decide_eq_false hIJ
        obtain ⟨r, hr⟩ : ∃ r, Go.Sort.partLoop Go.Sort.ltInt a (I + 1) (J - 1) (Go.Sort.swp z I J) = r := ⟨_, rfl⟩
        have hP := hid (show Go.Sort.partition Go.Sort.ltInt d a b pivot = (r.1, false, Go.Sort.swp r.2 r.1 a) by rw [hpart.out, if_neg hIJ, hr])
        have cI := hy.cell (k := I) (by rw [HZn.out]; omega)
        have fI := hy.frozen I
        obtain ⟨xI, exI⟩ : ∃ x, z[I]! = x := ⟨_, rfl⟩
        rw [exI] at cI
        have hst := hy.set_ (k := I) (by rw [HZn.out]; omega) xJ
        have c4 := hst.cell (k := J) (by simp; rw [HZn.out]; omega)
        have f4 := hst.frozen J
        obtain ⟨x4, ex4⟩ : ∃ x, (z.setIfInBounds I xJ)[J]! = x := ⟨_, rfl⟩
        rw [ex4] at c4
        have hs2 := hid ((hy.drew).swp (i := I) (j := J) (by rw [HZn.out]; omega) (by rw [HZn.out]; omega))
        rw [exI, exJ] at hs2
        have hg2 := hid (drew_grown (hg.trans (swp_grown w2 g I J (.int .u64 xJ) (.int .u64 xI))))
        obtain ⟨y0, hy0⟩ : ∃ y, Go.Sort.swp z I J = y := ⟨_, rfl⟩
        have HY0n := hid (show y0.size = n by rw [← hy0, swp_size]; exact HZn.out)
        have HY0a := hid (show y0[a]! = xa by rw [← hy0, swp_other z (by omega) (by omega) (by rw [HZn.out]; omega)]; exact HXa.out)
        rw [hy0] at hr hs2
        have Hr := hid hr
        have bI : (I : Int) < (n : Int) := by omega
        obtain ⟨m, hm⟩ : ∃ m, J = m + 1 := ⟨J - 1, by omega⟩
        have em : (J : Int) - 1 = (m : Int) := by omega
        have wm : IntKind.i64.wrap (m : Int) = (m : Int) := IntWalk.i64_in _ (by omega)
        obtain ⟨i1, hi1⟩ : ∃ x, I + 1 = x := ⟨_, rfl⟩
        have ei1 : (I : Int) + 1 = (i1 : Int) := by omega
        have wi1 : IntKind.i64.wrap (i1 : Int) = (i1 : Int) := IntWalk.i64_in _ (by omega)
        rw [hi1, show J - 1 = m by omega] at Hr
        have hmb : a ≤ m ∧ m ≤ JJ ∧ i1 ≤ m + 2 ∧ a + 2 ≤ i1 := by omega
        clear hst ex4 exJ exI hpart hy hg hr hy0 hm hi1 HD
        go_wp2_with fail
        go_region
        go_wp2_with fail
        go_loopw [10, 11] (fun iv jv wr => ∃ (i j : Nat) (y : Array Int), iv = .int .i64 i ∧ jv = .int .i64 j ∧ a + 2 ≤ i ∧ i ≤ j + 2 ∧ a ≤ j ∧ j ≤ JJ ∧ Hid (Go.Sort.partLoop Go.Sort.ltInt a i j y = r) ∧ Hid (y.size = n) ∧ Hid (y[a]! = xa) ∧ Hid (AB wr g t y rest) ∧ Hid (w.grownBy wr (some g))) (fun iv jv _ => (intOf jv + 3 - intOf iv).toNat)
        case atStart => exact ⟨i1, m, y0, rfl, rfl, hmb.2.2.2, hmb.2.2.1, hmb.1, hmb.2.1, Hr, HY0n, HY0a, hs2, hg2⟩
        case round =>
          clear Hr HY0n HY0a hs2 hg2 HZn HXa HI HJ hIb hJ1 hJ2 hmb wi1 ei1 wm em bI bJ cJ cA fJ fA cI fI c4 f4 dIJ dIJ' hIJ
          obtain ⟨i, j, y, rfl, rfl, hi1, hi2, hj1, hj2, he, HZn, HXa, Hy, Hg⟩ := hrel
          rename World => wr0
          obtain ⟨I2, hI⟩ : ∃ x, Go.Sort.scanUp (fun x => Go.Sort.ltInt x xa) y j i = x := ⟨_, rfl⟩
          have HI := hid hI
          have hIb := scanUp_any (fun x => Go.Sort.ltInt x xa) y j i
          rw [hI] at hIb
          obtain ⟨J2, hJ⟩ : ∃ x, Go.Sort.scanDown (fun x => !Go.Sort.ltInt x xa) y I2 j = x := ⟨_, rfl⟩
          have HJ := hid hJ
          have hJ1 := (scanDown_le (fun x => !Go.Sort.ltInt x xa) y I2 j).1
          rw [hJ] at hJ1
          have hE := hid (show (if I2 > J2 then (J2, y) else Go.Sort.partLoop Go.Sort.ltInt a (I2 + 1) (J2 - 1) (Go.Sort.swp y I2 J2)) = r by rw [← partLoop_eq a i j y HXa.out hI hJ]; exact he.out)
          clear hI hJ he
          go_upto_block 6 with fail
          go_cut [10] from 99 to 114 (fun iv w' => iv = .int .i64 (I2 : Nat) ∧ AB w' g t y rest ∧ w.grownBy w' (some g))
          case first =>
            go_wp2_with fail
            go_loopw [10] (fun iv wr => ∃ k : Nat, iv = .int .i64 k ∧ i ≤ k ∧ (k ≤ j + 1 ∨ k = i) ∧ Hid (Go.Sort.scanUp (fun x => Go.Sort.ltInt x xa) y j k = I2) ∧ Hid (AB wr g t y rest) ∧ Hid (w.grownBy wr (some g))) (fun iv _ => j + 1 - (intOf iv).toNat)
            case atStart => exact ⟨i, rfl, Nat.le_refl _, .inr rfl, HI, Hy, Hg⟩
            case round =>
              obtain ⟨k, rfl, hk1, hk2, he, hy, hg⟩ := hrel
              rename World => wr
              have hp := he.out
              rw [Go.Sort.scanUp] at hp
              by_cases hlt : k ≤ j
              · have ck := hy.out.cell (k := k) (by rw [HZn.out]; omega)
                have ca := hy.out.cell (k := a) (by rw [HZn.out]; omega)
                rw [HXa.out] at ca
                rw [decide_eq_true hlt, Bool.true_and, lt_int] at hp
                obtain ⟨xk, ek⟩ : ∃ x, y[k]! = x := ⟨_, rfl⟩
                rw [ek] at ck hp
                have d0 : decide ((k : Int) ≤ (j : Int)) = true := decide_eq_true (by omega)
                have d0' : decide (k ≤ j) = true := decide_eq_true hlt
                have bk : (k : Int) < (n : Int) := by omega
                have ba : (a : Int) < (n : Int) := by omega
                clear ek he
                by_cases h3 : xk < xa
                · have d3 : decide (xk < xa) = true := by simpa using h3
                  rw [d3, if_pos rfl] at hp
                  have hq := hid hp
                  clear hp
                  go_wp2_with fail
                  go_quiet ((go_at_call 130; first | exact quiet_l (less64_any _ _ _) | exact quiet_add_l (less64_any _ _ _)))
                  go_wp2_with fail
                  go_roundw
                  case rel => exact ⟨k + 1, by go_num, by omega, by omega, hq, hid (hy.out.drewN _), hid (drewN_grown hg.out _)⟩
                  case measure => simp [intOf]; omega
                · have d3 : decide (xk < xa) = false := by simpa using h3
                  rw [d3, if_neg (by simp)] at hp
                  have hq := hid hp
                  clear hp
                  go_wp2_with fail
                  go_quiet ((go_at_call 130; first | exact quiet_l (less64_any _ _ _) | exact quiet_add_l (less64_any _ _ _)))
                  go_wp2_with fail
                  go_meet
                  exact ⟨by rw [hq.out], hy.out.drewN _, drewN_grown hg.out _⟩
              · rw [decide_eq_false hlt, Bool.false_and, if_neg (by simp)] at hp
                have hq := hid hp
                have d0 : decide ((k : Int) ≤ (j : Int)) = false := decide_eq_false (by omega)
                have d0' : decide (k ≤ j) = false := decide_eq_false hlt
                clear hp he
                go_wp2_with fail
                go_quiet (fail)
                go_wp2_with fail
                go_meet
                exact ⟨by rw [hq.out], hy.out.drewN _, drewN_grown hg.out _⟩
          case rest =>
            clear Hy Hg
            obtain ⟨rfl, hy, hg⟩ := hcut
            have Hy := hid hy; have Hg := hid hg
            clear hy hg
            go_upto_block 8 with fail
            go_cut [11] from 115 to 131 (fun iv w' => iv = .int .i64 (J2 : Nat) ∧ AB w' g t y rest ∧ w.grownBy w' (some g))
            case first =>
              go_wp2_with fail
              go_loopw [11] (fun iv wr => ∃ k : Nat, iv = .int .i64 k ∧ k ≤ j ∧ (I2 ≤ k + 1 ∨ k = j) ∧ Hid (Go.Sort.scanDown (fun x => !Go.Sort.ltInt x xa) y I2 k = J2) ∧ Hid (AB wr g t y rest) ∧ Hid (w.grownBy wr (some g))) (fun iv _ => (intOf iv).toNat)
              case atStart => exact ⟨j, rfl, Nat.le_refl _, .inr rfl, HJ, Hy, Hg⟩
              case round =>
                obtain ⟨k, rfl, hk1, hk2, he, hy, hg⟩ := hrel
                rename World => wr
                have hp := he.out
                by_cases hlt : I2 ≤ k
                · obtain ⟨m, rfl⟩ : ∃ m, k = m + 1 := ⟨k - 1, by omega⟩
                  have ck := hy.out.cell (k := m + 1) (by rw [HZn.out]; omega)
                  have ca := hy.out.cell (k := a) (by rw [HZn.out]; omega)
                  rw [HXa.out] at ca
                  rw [Go.Sort.scanDown, decide_eq_true hlt, Bool.true_and, lt_int] at hp
                  obtain ⟨xk, ek⟩ : ∃ x, y[m + 1]! = x := ⟨_, rfl⟩
                  rw [ek] at ck hp
                  have d0 : decide ((I2 : Int) ≤ (m : Int) + 1) = true := decide_eq_true (by omega)
                  have d0' : decide (I2 ≤ m + 1) = true := decide_eq_true hlt
                  have bk : (m : Int) + 1 < (n : Int) := by omega
                  have ba : (a : Int) < (n : Int) := by omega
                  clear ek he
                  by_cases h3 : xk < xa
                  · have d3 : decide (xk < xa) = true := by simpa using h3
                    rw [d3, Bool.not_true, if_neg (by simp)] at hp
                    have hq := hid hp
                    clear hp
                    go_wp2_with fail
                    go_quiet ((go_at_call 130; first | exact quiet_l (less64_any _ _ _) | exact quiet_add_l (less64_any _ _ _)))
                    go_wp2_with fail
                    go_meet
                    exact ⟨by rw [← hq.out], hy.out.drewN _, drewN_grown hg.out _⟩
                  · have d3 : decide (xk < xa) = false := by simpa using h3
                    rw [d3, Bool.not_false, if_pos rfl] at hp
                    have hq := hid hp
                    clear hp
                    go_wp2_with fail
                    go_quiet ((go_at_call 130; first | exact quiet_l (less64_any _ _ _) | exact quiet_add_l (less64_any _ _ _)))
                    go_wp2_with fail
                    go_roundw
                    case rel => exact ⟨m, by go_num, by omega, by omega, hq, hid (hy.out.drewN _), hid (drewN_grown hg.out _)⟩
                    case measure => simp [intOf]
                · have hq := hid (show k = J2 by
                    cases k with
                    | zero => exact hp
                    | succ m => rw [Go.Sort.scanDown, decide_eq_false hlt, Bool.false_and, if_neg (by simp)] at hp; exact hp)
                  have d0 : decide ((I2 : Int) ≤ (k : Int)) = false := decide_eq_false (by omega)
                  have d0' : decide (I2 ≤ k) = false := decide_eq_false hlt
                  clear hp he
                  go_wp2_with fail
                  go_quiet (fail)
                  go_wp2_with fail
                  go_meet
                  exact ⟨by rw [← hq.out], hy.out.drewN _, drewN_grown hg.out _⟩
            case rest =>
              clear Hy Hg
              obtain ⟨rfl, hy, hg⟩ := hcut
              rename World => w3
              have cJ := hy.cell (k := J2) (by rw [HZn.out]; omega)
              have cA := hy.cell (k := a) (by rw [HZn.out]; omega)
              have fJ := hy.frozen J2
              have fA := hy.frozen a
              rw [HXa.out] at cA
              obtain ⟨xJ2, exJ⟩ : ∃ x, y[J2]! = x := ⟨_, rfl⟩
              rw [exJ] at cJ
              have bJ : (J2 : Int) < (n : Int) := by omega
              by_cases hIJ : J2 < I2
              · have dIJ : decide ((J2 : Int) < (I2 : Int)) = true := decide_eq_true (by omega)
                have dIJ' : decide (J2 < I2) = true := decide_eq_true hIJ
                have hP2 := hid (show Go.Sort.partition Go.Sort.ltInt d a b pivot = (J2, false, Go.Sort.swp y J2 a) by
                  have := hE.out
                  rw [if_pos hIJ] at this
                  rw [hP.out, ← this])
                have hst := hy.set_ (k := J2) (by rw [HZn.out]; omega) xa
                have c4 := hst.cell (k := a) (by simp; rw [HZn.out]; omega)
                have f4 := hst.frozen a
                obtain ⟨x4, ex4⟩ : ∃ x, (y.setIfInBounds J2 xa)[a]! = x := ⟨_, rfl⟩
                rw [ex4] at c4
                have hs2 := hid ((hy.drew).swp (i := J2) (j := a) (by rw [HZn.out]; omega) (by rw [HZn.out]; omega))
                rw [HXa.out, exJ] at hs2
                have hg2 := hid (drew_grown (hg.trans (swp_grown w3 g J2 a (.int .u64 xa) (.int .u64 xJ2))))
                clear hst ex4 exJ hE hP hIJ hy hg
                go_wp2_with fail
                go_region
                go_wp2_with fail
                go_ret2
                rw [hP2.out]
                exact ⟨rfl, hs2.out, by rw [swp_size]; exact HZn.out, hg2.out⟩
              · have dIJ : decide ((J2 : Int) < (I2 : Int)) = false := decide_eq_false (by omega)
                have dIJ' : decide (J2 < I2) = false := decide_eq_false hIJ
                have cI := hy.cell (k := I2) (by rw [HZn.out]; omega)
                have fI := hy.frozen I2
                obtain ⟨xI, exI⟩ : ∃ x, y[I2]! = x := ⟨_, rfl⟩
                rw [exI] at cI
                have hst := hy.set_ (k := I2) (by rw [HZn.out]; omega) xJ2
                have c4 := hst.cell (k := J2) (by simp; rw [HZn.out]; omega)
                have f4 := hst.frozen J2
                obtain ⟨x4, ex4⟩ : ∃ x, (y.setIfInBounds I2 xJ2)[J2]! = x := ⟨_, rfl⟩
                rw [ex4] at c4
                have hs2 := hid ((hy.drew).swp (i := I2) (j := J2) (by rw [HZn.out]; omega) (by rw [HZn.out]; omega))
                rw [exI, exJ] at hs2
                have hg2 := hid (drew_grown (hg.trans (swp_grown w3 g I2 J2 (.int .u64 xJ2) (.int .u64 xI))))
                obtain ⟨y2, hy2⟩ : ∃ y', Go.Sort.swp y I2 J2 = y' := ⟨_, rfl⟩
                have HY2n := hid (show y2.size = n by rw [← hy2, swp_size]; exact HZn.out)
                have HY2a := hid (show y2[a]! = xa by rw [← hy2, swp_other y (by omega) (by omega) (by rw [HZn.out]; omega)]; exact HXa.out)
                rw [hy2] at hs2
                have bI : (I2 : Int) < (n : Int) := by omega
                obtain ⟨m, hm⟩ : ∃ m, J2 = m + 1 := ⟨J2 - 1, by omega⟩
                have em : (J2 : Int) - 1 = (m : Int) := by omega
                have wm : IntKind.i64.wrap (m : Int) = (m : Int) := IntWalk.i64_in _ (by omega)
                obtain ⟨i1, hi1'⟩ : ∃ x, I2 + 1 = x := ⟨_, rfl⟩
                have ei1 : (I2 : Int) + 1 = (i1 : Int) := by omega
                have wi1 : IntKind.i64.wrap (i1 : Int) = (i1 : Int) := IntWalk.i64_in _ (by omega)
                have Hr := hid (show Go.Sort.partLoop Go.Sort.ltInt a i1 m y2 = r by
                  have := hE.out
                  rw [if_neg hIJ, hi1', show J2 - 1 = m by omega, hy2] at this
                  exact this)
                have hmb : a ≤ m ∧ m ≤ JJ ∧ i1 ≤ m + 2 ∧ a + 2 ≤ i1 ∧ (m : Int) + 3 - (i1 : Int) < (j : Int) + 3 - (i : Int) ∧ 0 < (j : Int) + 3 - (i : Int) := by omega
                clear hst ex4 exJ exI hE hy hg hy2 hm hi1'
                go_wp2_with fail
                go_region
                go_wp2_with fail
                go_roundw
                case rel => exact ⟨i1, m, y2, rfl, rfl, hmb.2.2.2.1, hmb.2.2.1, hmb.1, hmb.2.1, Hr, HY2n, HY2a, hs2, hg2⟩
                case measure => simp [intOf]; omega
end Go.Proofs.YthomeenmcajmdaaGreatDoor
namespace Go.Proofs.YthomeenmcajmdaaGreatDoor
open Go.RowKit Go.Maps
theorem Blk.one_ {w : World} {g : Nat} {t : TypeId} {a : Value} (h : Blk w g t #[a]) : w.cell? ⟨g, 0, none⟩ = some a := h.cell 0
theorem Blk.drewN_ {w : World} {g : Nat} {t : TypeId} {cs : Array Value} (h : Blk w g t cs) (n : Nat) : Blk (w.drewN n) g t cs := h
theorem Blk.put1 {w : World} {g : Nat} {t : TypeId} {a : Value} (h : Blk w g t #[a]) (c : Value) : Blk (w.setCell ⟨g, 0, none⟩ c) g t #[c] := h.set_ 0 c
set_option maxHeartbeats 1000000 in
theorem pdOrder2 (g cap : Nat) (t : TypeId) (d : Array Int) (rest : List Value) (sb : Nat) (ts : TypeId) (a b : Nat) (s : Int) (w : World) (hb : AB w g t d rest) (ha : a < d.size) (hbd : b < d.size) (_hs : d.size ≤ 1000) (hsw : Blk w sb ts #[.int .i64 s]) (hs0 : 0 ≤ s) (hs9 : s ≤ 9) :
    Calls Tryz.prog 171 #[.slice (some ⟨g, 0, none⟩) d.size cap, .int .i64 a, .int .i64 b, .pointer (some ⟨sb, 0, none⟩)] w
      fun e w' => ∃ (x y : Nat) (s' : Int), e = .returned (.tuple #[.int .i64 x, .int .i64 y]) ∧ ((x = a ∧ y = b) ∨ (x = b ∧ y = a)) ∧ s ≤ s' ∧ s' ≤ s + 1 ∧ Blk w' sb ts #[.int .i64 s'] ∧ w.grownBy w' (some sb) := by
  obtain ⟨n, hn⟩ : ∃ n, d.size = n := ⟨_, rfl⟩
  have c1 := hb.cell (k := a) ha
  have c2 := hb.cell (k := b) hbd
  rw [hn] at ha hbd ⊢
  obtain ⟨xa, exa⟩ : ∃ x, d[a]! = x := ⟨_, rfl⟩
  obtain ⟨xb, exb⟩ : ∃ x, d[b]! = x := ⟨_, rfl⟩
  rw [exa] at c1; rw [exb] at c2
  have ba : (a : Int) < (n : Int) := by omega
  have bb : (b : Int) < (n : Int) := by omega
  have cs := hsw.one_
  have fs := hsw.frozen 0
  have HS := hid hsw
  clear hb exa exb hn hsw
  by_cases h : xb < xa
  · have hd : decide (xb < xa) = true := decide_eq_true h
    go_enter Tryz.func171, Tryz.ntmps171
    go_wp2_with fail
    go_quiet ((go_at_call 130; exact quiet_l (less64_any _ _ _)))
    go_wp2_with fail
    go_ret2
    exact ⟨b, a, s + 1, rfl, .inr ⟨rfl, rfl⟩, by omega, by omega, (HS.out.drewN_ _).put1 _, (drewN_grown (World.grownBy.refl w _) _).trans (setCell_grown _ ⟨sb, 0, none⟩ _)⟩
  · have hd : decide (xb < xa) = false := decide_eq_false h
    go_enter Tryz.func171, Tryz.ntmps171
    go_wp2_with fail
    go_quiet ((go_at_call 130; exact quiet_l (less64_any _ _ _)))
    go_wp2_with fail
    go_ret2
    exact ⟨a, b, s, rfl, .inl ⟨rfl, rfl⟩, by omega, by omega, HS.out.drewN_ _, drewN_grown (World.grownBy.refl w _) _⟩
set_option maxHeartbeats 1000000 in
theorem pdMedian (g cap : Nat) (t : TypeId) (d : Array Int) (rest : List Value) (sb : Nat) (ts : TypeId) (a b c : Nat) (s : Int) (w : World) (hb : AB w g t d rest) (ha : a < d.size) (hbd : b < d.size) (hc : c < d.size) (hs : d.size ≤ 1000) (hsw : Blk w sb ts #[.int .i64 s]) (hne : sb ≠ g) (hs0 : 0 ≤ s) (hs9 : s ≤ 6) :
    Calls Tryz.prog 155 #[.slice (some ⟨g, 0, none⟩) d.size cap, .int .i64 a, .int .i64 b, .int .i64 c, .pointer (some ⟨sb, 0, none⟩)] w
      fun e w' => ∃ (x : Nat) (s' : Int), e = .returned (.int .i64 x) ∧ (x = a ∨ x = b ∨ x = c) ∧ s ≤ s' ∧ s' ≤ s + 3 ∧ Blk w' sb ts #[.int .i64 s'] ∧ w.grownBy w' (some sb) := by
  have hng : (some sb : Option Nat) ≠ some g := by simpa using hne
  have HB := hid hb; have HS := hid hsw
  clear hb hsw
  go_enter Tryz.func155, Tryz.ntmps155
  go_wp2_with fail
  refine (pdOrder2 g cap t d rest sb ts a b s _ HB.out ha hbd hs HS.out hs0 (by omega)).mono ?_
  rintro _ w1 ⟨x1, y1, s1, rfl, h1, l1, u1, k1, g1⟩
  have K1 := hid k1; have G1 := hid g1
  have B1 := hid (HB.out.grown g1 hng)
  have hx1 : x1 < d.size ∧ y1 < d.size := by omega
  clear k1 g1 HB HS
  go_wp2_with fail
  refine (pdOrder2 g cap t d rest sb ts y1 c s1 _ B1.out hx1.2 hc hs K1.out (by omega) (by omega)).mono ?_
  rintro _ w2 ⟨x2, y2, s2, rfl, h2, l2, u2, k2, g2⟩
  have K2 := hid k2; have G2 := hid (G1.out.trans g2)
  have B2 := hid (B1.out.grown g2 hng)
  have hx2 : x2 < d.size ∧ y2 < d.size := by omega
  clear k2 g2 B1 K1 G1
  go_wp2_with fail
  refine (pdOrder2 g cap t d rest sb ts x1 x2 s2 _ B2.out hx1.1 hx2.1 hs K2.out (by omega) (by omega)).mono ?_
  rintro _ w3 ⟨x3, y3, s3, rfl, h3, l3, u3, k3, g3⟩
  have K3 := hid k3; have G3 := hid (G2.out.trans g3)
  clear k3 g3 B2 K2 G2
  go_wp2_with fail
  go_ret
  exact ⟨y3, s3, rfl, by omega, by omega, by omega, K3.out, G3.out⟩
set_option maxRecDepth 100000 in
set_option maxHeartbeats 1000000 in
theorem pdPivot (g cap : Nat) (t : TypeId) (d : Array Int) (rest : List Value) (a b : Nat) (w : World) (hb : AB w g t d rest) (hab : a + 8 ≤ b) (hab2 : b < a + 50) (hbd : b ≤ d.size) (hs : d.size ≤ 1000) :
    Calls Tryz.prog 127 #[.slice (some ⟨g, 0, none⟩) d.size cap, .int .i64 a, .int .i64 b] w
      fun e w' => ∃ (p : Nat) (h : Int), e = .returned (.tuple #[.int .i64 p, .int .i64 h]) ∧ a ≤ p ∧ p < b ∧ (h = 0 ∨ h = 1) ∧ Ext w w' := by
  obtain ⟨l, hl⟩ : ∃ l, b - a = l := ⟨_, rfl⟩
  have el : (b : Int) - (a : Int) = (l : Int) := by omega
  obtain ⟨q, hq⟩ : ∃ q, l / 4 = q := ⟨_, rfl⟩
  have eq4 : (l : Int).tdiv 4 = (q : Int) := by rw [Int.tdiv_eq_ediv_of_nonneg (by omega)]; omega
  have hlb : 8 ≤ l ∧ l < 50 := by omega
  have hqb : 2 ≤ q ∧ 4 * q ≤ l := by omega
  obtain ⟨i, hi⟩ : ∃ i, a + q = i := ⟨_, rfl⟩
  obtain ⟨j, hj⟩ : ∃ j, a + q * 2 = j := ⟨_, rfl⟩
  obtain ⟨k, hk⟩ : ∃ k, a + q * 3 = k := ⟨_, rfl⟩
  have ei : (a : Int) + (q : Int) = (i : Int) := by omega
  have ej : (a : Int) + (q : Int) * 2 = (j : Int) := by omega
  have ek : (a : Int) + (q : Int) * 3 = (k : Int) := by omega
  have hin : a ≤ i ∧ i < b ∧ a ≤ j ∧ j < b ∧ a ≤ k ∧ k < b := by omega
  have HB := hid hb
  clear hq hi hj hk hb hl
  go_enter Tryz.func127, Tryz.ntmps127
  go_wp2_with fail
  have X1 := hid (Ext.alloc (Ext.refl w) (.cells #[.int .i64 0] 3))
  have S1 := hid (Blk.new w 3 #[.int .i64 0])
  have B1 := hid (HB.out.ext X1.out)
  have hne : w.heap.size ≠ g := by have := Blk.lt HB.out; omega
  refine (pdMedian g cap t d rest w.heap.size 3 i j k 0 _ B1.out (by omega) (by omega) (by omega) hs S1.out hne (by omega) (by omega)).mono ?_
  rintro _ w2 ⟨x, s2, rfl, hx, l2, u2, k2, g2⟩
  have X2 := hid (X1.out.grown g2 (fun k hk => by cases hk; exact Nat.le_refl _))
  have c2 := k2.one_
  clear k2 g2 B1 S1 X1 HB
  by_cases hs2 : s2 = 0
  · subst hs2
    go_wp2_with fail
    go_ret2
    exact ⟨x, 1, rfl, by omega, by omega, .inr rfl, X2.out⟩
  · have d0 : (s2 == 0) = false := by simpa using hs2
    have d12 : (s2 == 12) = false := by simp; omega
    go_wp2_with fail
    go_ret2
    exact ⟨x, 0, rfl, by omega, by omega, .inl rfl, X2.out⟩
end Go.Proofs.YthomeenmcajmdaaGreatDoor
namespace Go.Proofs.YthomeenmcajmdaaGreatDoor
open Go.RowKit Go.Maps
theorem sorted_one (a : Nat) (d : Array Int) : Go.Sort.SortedIn Go.Sort.ltInt a (a + 1) d := fun i j h1 h2 h3 => by omega
set_option maxRecDepth 100000 in
set_option maxHeartbeats 1000000 in
theorem pdPartial (g cap : Nat) (t : TypeId) (d : Array Int) (rest : List Value) (a b : Nat) (w : World) (hb : AB w g t d rest) (hab : a < b) (hab2 : b < a + 50) (hbd : b ≤ d.size) (hs : d.size ≤ 1000) :
    Calls Tryz.prog 129 #[.slice (some ⟨g, 0, none⟩) d.size cap, .int .i64 a, .int .i64 b] w
      fun e w' => ∃ r : Bool, e = .returned (.bool r) ∧ (r = true → Go.Sort.SortedIn Go.Sort.ltInt a b d) ∧ Ext w w' := by
  obtain ⟨n, hn⟩ : ∃ n, d.size = n := ⟨_, rfl⟩
  have HN := hid hn
  have HB := hid hb
  rw [hn] at hbd hs ⊢
  obtain ⟨a1, ha1⟩ : ∃ x, a + 1 = x := ⟨_, rfl⟩
  have ea1 : (a : Int) + 1 = (a1 : Int) := by omega
  have wa1 : IntKind.i64.wrap (a1 : Int) = (a1 : Int) := IntWalk.i64_in _ (by omega)
  have HS := hid (show Go.Sort.SortedIn Go.Sort.ltInt a a1 d by rw [← ha1]; exact sorted_one a d)
  have ha2 : a < a1 ∧ a1 ≤ b := by omega
  obtain ⟨l, hl⟩ : ∃ l, b - a = l := ⟨_, rfl⟩
  have el : (b : Int) - (a : Int) = (l : Int) := by omega
  have dl : decide ((l : Int) < 50) = true := decide_eq_true (by omega)
  have dl' : decide (l < 50) = true := decide_eq_true (by omega)
  clear hn hb ha1 hl
  go_enter Tryz.func129, Tryz.ntmps129
  go_wp2_with fail
  refine wp_loop_rounds 1 ?_
  rw [rounds_succ]
  go_wp2_with fail
  go_loopw [7] (fun iv wr => ∃ k : Nat, iv = .int .i64 k ∧ a < k ∧ k ≤ b ∧ Hid (Go.Sort.SortedIn Go.Sort.ltInt a k d) ∧ Hid (AB wr g t d rest) ∧ Hid (Ext w wr)) (fun iv _ => b - (intOf iv).toNat)
  case atStart => exact ⟨a1, rfl, ha2.1, ha2.2, HS, HB, hid (Ext.refl _)⟩
  case round =>
    obtain ⟨k, rfl, hk1, hk2, hS, hy, hg⟩ := hrel
    rename World => wr
    clear HB HS
    by_cases hlt : k < b
    · obtain ⟨m, hm⟩ : ∃ m, k = m + 1 := ⟨k - 1, by omega⟩
      have em : (k : Int) - 1 = (m : Int) := by omega
      have wm : IntKind.i64.wrap (m : Int) = (m : Int) := IntWalk.i64_in _ (by omega)
      have ck := hy.out.cell (k := k) (by rw [HN.out]; omega)
      have cm := hy.out.cell (k := m) (by rw [HN.out]; omega)
      obtain ⟨xk, ek⟩ : ∃ x, d[k]! = x := ⟨_, rfl⟩
      obtain ⟨xm, exm⟩ : ∃ x, d[m]! = x := ⟨_, rfl⟩
      rw [ek] at ck; rw [exm] at cm
      have EK := hid ek; have EM := hid exm; have HM := hid hm
      have d0 : decide ((k : Int) < (b : Int)) = true := decide_eq_true (by omega)
      have d0' : decide (k < b) = true := decide_eq_true hlt
      have bk : (k : Int) < (n : Int) := by omega
      have bm : (m : Int) < (n : Int) := by omega
      clear ek exm hm
      by_cases h3 : xk < xm
      · have d3 : decide (xk < xm) = true := by simpa using h3
        have hne : ((k : Int) == (b : Int)) = false := by simp; omega
        go_wp2_with fail
        go_quiet ((go_at_call 130; first | exact quiet_l (less64_any _ _ _) | exact quiet_add_l (less64_any _ _ _)))
        go_wp2_with fail
        go_ret
        exact ⟨false, rfl, fun h => by simp at h, hg.out.drewN _⟩
      · have d3 : decide (xk < xm) = false := by simpa using h3
        have hS2 := hid (show Go.Sort.SortedIn Go.Sort.ltInt a (k + 1) d from Go.Sort.SortedIn.snoc Go.Sort.swo_ltInt hS.out (by
          have hm := HM.out
          rw [EK.out, show k - 1 = m by omega, EM.out]
          exact d3))
        go_wp2_with fail
        go_quiet ((go_at_call 130; first | exact quiet_l (less64_any _ _ _) | exact quiet_add_l (less64_any _ _ _)))
        go_wp2_with fail
        go_roundw
        case rel => exact ⟨k + 1, by go_num, by omega, by omega, hS2, hid (hy.out.drewN _), hid (hg.out.drewN _)⟩
        case measure => simp [intOf]; omega
    · obtain rfl : k = b := by omega
      go_wp2_with fail
      go_quiet (fail)
      go_wp2_with fail
      go_ret
      exact ⟨true, rfl, fun _ => hS.out, hg.out.drewN _⟩
end Go.Proofs.YthomeenmcajmdaaGreatDoor
namespace Go.Proofs.YthomeenmcajmdaaGreatDoor
open Go.RowKit Go.Maps
theorem bits_range (op : BinOp) (a b : Int) : 0 ≤ bits op .u64 a b ∧ bits op .u64 a b ≤ 18446744073709551615 := by
  unfold bits
  simp only [u64_wrap]
  omega
set_option maxHeartbeats 1000000 in
theorem pdNext (rb : Nat) (ts : TypeId) (x : Int) (w : World) (hr : Blk w rb ts #[.int .u64 x]) :
    Calls Tryz.prog 153 #[.pointer (some ⟨rb, 0, none⟩)] w
      fun e w' => ∃ y : Nat, e = .returned (.int .u64 y) ∧ y < 18446744073709551616 ∧ Blk w' rb ts #[.int .u64 y] ∧ w.grownBy w' (some rb) := by
  have c := hr.one_
  have f := hr.frozen 0
  have HR := hid fun (a b c : Int) => ((hr.put1 (.int .u64 a)).put1 (.int .u64 b)).put1 (.int .u64 c)
  have c3 := (HR.out (bits .xor .u64 x (IntKind.u64.wrap (x * 8192))) (bits .xor .u64 (bits .xor .u64 x (IntKind.u64.wrap (x * 8192))) (bits .xor .u64 x (IntKind.u64.wrap (x * 8192)) / 128)) (bits .xor .u64 (bits .xor .u64 (bits .xor .u64 x (IntKind.u64.wrap (x * 8192))) (bits .xor .u64 x (IntKind.u64.wrap (x * 8192)) / 128)) (IntKind.u64.wrap (bits .xor .u64 (bits .xor .u64 x (IntKind.u64.wrap (x * 8192))) (bits .xor .u64 x (IntKind.u64.wrap (x * 8192)) / 128) * 131072)))).one_
  have hG := hid (fun (a b c : Value) => ((setCell_grown w ⟨rb, 0, none⟩ a).trans (setCell_grown _ ⟨rb, 0, none⟩ b)).trans (setCell_grown _ ⟨rb, 0, none⟩ c))
  clear hr
  go_enter Tryz.func153, Tryz.ntmps153
  go_wp2_with fail
  go_region
  go_wp2_with fail
  go_region
  go_wp2_with fail
  go_region
  go_wp2_with fail
  go_ret
  have hr := bits_range .xor (bits .xor .u64 (bits .xor .u64 x (IntKind.u64.wrap (x * 8192))) (bits .xor .u64 x (IntKind.u64.wrap (x * 8192)) / 128)) (IntKind.u64.wrap (bits .xor .u64 (bits .xor .u64 x (IntKind.u64.wrap (x * 8192))) (bits .xor .u64 x (IntKind.u64.wrap (x * 8192)) / 128) * 131072))
  have H := HR.out (bits .xor .u64 x (IntKind.u64.wrap (x * 8192))) (bits .xor .u64 (bits .xor .u64 x (IntKind.u64.wrap (x * 8192))) (bits .xor .u64 x (IntKind.u64.wrap (x * 8192)) / 128)) (bits .xor .u64 (bits .xor .u64 (bits .xor .u64 x (IntKind.u64.wrap (x * 8192))) (bits .xor .u64 x (IntKind.u64.wrap (x * 8192)) / 128)) (IntKind.u64.wrap (bits .xor .u64 (bits .xor .u64 x (IntKind.u64.wrap (x * 8192))) (bits .xor .u64 x (IntKind.u64.wrap (x * 8192)) / 128) * 131072)))
  obtain ⟨y, hy⟩ := Int.eq_ofNat_of_zero_le hr.1
  refine ⟨y, ret_int hy, by omega, ?_, drew_grown (drew_grown (drew_grown (hG.out _ _ _)))⟩
  rw [← hy]
  exact H
theorem pdPow2 (l : Nat) (w : World) (h0 : 0 < l) (h : l ≤ 1000) :
    Calls Tryz.prog 152 #[.int .i64 l] w
      fun e w' => ∃ m : Nat, e = .returned (.int .u64 m) ∧ 0 < m ∧ m ≤ 2 * l ∧ w = w' := by
  have hb : 2 ^ bitLen l ≤ 2 * l := by
    have := Nat.log2_self_le (n := l) (by omega)
    simp only [bitLen]
    rw [if_neg (by omega), Nat.pow_succ]
    omega
  have hk : bitLen l < 11 := (Nat.pow_lt_pow_iff_right (a := 2) (by omega)).1 (by omega)
  have hp : 0 < 2 ^ bitLen l := Nat.pow_pos (by omega)
  go_enter Tryz.func152, Tryz.ntmps152
  go_wp2_with (go_at_call 101; refine (bitsLen_any _ _ (by omega) (by omega)).mono ?_; rintro _ w1 ⟨rfl, rfl⟩)
  go_ret
  refine ⟨2 ^ bitLen l, ret_int ?_, hp, hb, rfl⟩
  have e : (2 : Int) ^ bitLen l = ((2 ^ bitLen l : Nat) : Int) := by simp
  rw [u64_wrap, e]
  omega
theorem grown_newQ {w w1 w2 : World} {g rb : Nat} (h : w.grownBy w1 (some g)) (k : w1.grownBy w2 (some rb)) (hr : w.heap.size ≤ rb) : w.grownBy w2 (some g) :=
  ⟨k.os.trans h.os, k.tape.trans h.tape, k.output.trans h.output, Nat.le_trans h.size k.size, fun i hi hne => (k.block i (Nat.lt_of_lt_of_le hi h.size) (by intro e; cases e; omega)).trans (h.block i hi hne)⟩
theorem ext_grownByQ {w w' : World} (h : Ext w w') (row : Option Nat) : w.grownBy w' row := ⟨h.os, h.tape, h.output, h.size, fun k hk _ => h.block k hk⟩
theorem and_low (r m1 : Nat) (hr : r < 18446744073709551616) (hm : m1 < 18446744073709551616) : ∃ o : Nat, bits .and .u64 (r : Int) (m1 : Int) = (o : Int) ∧ o ≤ m1 :=
  ⟨r &&& m1, bits_and_u64_nat r m1 hr hm, Nat.and_le_right⟩
set_option maxRecDepth 100000 in
set_option maxHeartbeats 2000000 in
theorem pdBreak (g cap : Nat) (t : TypeId) (d : Array Int) (rest : List Value) (a b : Nat) (w : World) (hb : AB w g t d rest) (hab : a + 8 ≤ b) (hbd : b ≤ d.size) (hs : d.size ≤ 1000) :
    Calls Tryz.prog 126 #[.slice (some ⟨g, 0, none⟩) d.size cap, .int .i64 a, .int .i64 b] w
      fun e w' => (∃ v, e = .returned v) ∧ ∃ y, AB w' g t y rest ∧ y.size = d.size ∧ Go.Sort.PermIn a b d y ∧ w.grownBy w' (some g) := by
  obtain ⟨n, hn⟩ : ∃ n, d.size = n := ⟨_, rfl⟩
  have HN := hid hn
  have HB := hid hb
  rw [hn] at hbd hs ⊢
  obtain ⟨l, hl⟩ : ∃ l, b - a = l := ⟨_, rfl⟩
  have el : (b : Int) - (a : Int) = (l : Int) := by omega
  have hlb : 8 ≤ l ∧ l ≤ n ∧ a + l = b := by omega
  obtain ⟨q, hq⟩ : ∃ q, l / 4 = q := ⟨_, rfl⟩
  have eq4 : (l : Int).tdiv 4 = (q : Int) := by rw [Int.tdiv_eq_ediv_of_nonneg (by omega)]; omega
  have hqb : 2 ≤ q ∧ 4 * q ≤ l := by omega
  obtain ⟨c, hc⟩ : ∃ c, a + q * 2 = c := ⟨_, rfl⟩
  have ec : (a : Int) + (q : Int) * 2 = (c : Int) := by omega
  obtain ⟨i0, hi0⟩ : ∃ c', c - 1 = c' := ⟨_, rfl⟩
  have ei0 : (c : Int) - 1 = (i0 : Int) := by omega
  obtain ⟨c1, hc1⟩ : ∃ c', c + 1 = c' := ⟨_, rfl⟩
  have ec1 : (c : Int) + 1 = (c1 : Int) := by omega
  have wi0 : IntKind.i64.wrap (i0 : Int) = (i0 : Int) := IntWalk.i64_in _ (by omega)
  have wc1 : IntKind.i64.wrap (c1 : Int) = (c1 : Int) := IntWalk.i64_in _ (by omega)
  have hib : a ≤ i0 ∧ c1 = i0 + 2 ∧ c1 < b := by omega
  have hgb : g ≠ w.heap.size := by have := Blk.lt hb; omega
  clear hq hb hl hc hi0 hc1 hn
  go_enter Tryz.func126, Tryz.ntmps126
  go_wp2_with fail
  refine (pdPow2 l _ (by omega) (by omega)).mono ?_
  rintro _ w1 ⟨m, rfl, hm0, hm2, rfl⟩
  obtain ⟨m1, hm1⟩ : ∃ m1, m = m1 + 1 := ⟨m - 1, by omega⟩
  have em1 : (m : Int) - 1 = (m1 : Int) := by omega
  have wm1 : IntKind.u64.wrap (m1 : Int) = (m1 : Int) := by rw [u64_wrap]; omega
  have hm1b : m1 < 2 * l := by omega
  clear hm1
  have X1 := hid (ext_grownByQ (Ext.alloc (Ext.refl w) (.cells #[.int .u64 (l : Int)] 182)) (some g))
  have S1 := hid (Blk.new w 182 #[.int .u64 (l : Int)])
  have B1 := hid (HB.out.ext (Ext.alloc (Ext.refl w) (.cells #[.int .u64 (l : Int)] 182)))
  have P0 := hid (Go.Sort.permIn_refl d a b)
  go_wp2_with fail
  go_loopw [9] (fun iv wr => ∃ (k : Nat) (y : Array Int) (r : Nat), iv = .int .i64 k ∧ i0 ≤ k ∧ k ≤ c1 + 1 ∧ r < 18446744073709551616 ∧ Hid (AB wr g t y rest) ∧ Hid (y.size = n) ∧ Hid (Go.Sort.PermIn a b d y) ∧ Hid (Blk wr w.heap.size 182 #[.int .u64 (r : Int)]) ∧ Hid (w.grownBy wr (some g))) (fun iv _ => c1 + 1 - (intOf iv).toNat)
  case atStart => exact ⟨i0, d, l, rfl, Nat.le_refl _, by omega, by omega, B1, HN, P0, S1, X1⟩
  case round =>
    obtain ⟨k, y, r, rfl, hk1, hk2, hr, hy, hyn, hpe, hrb, hg⟩ := hrel
    rename World => wr
    clear B1 S1 X1 HB P0
    by_cases hlt : k ≤ c1
    · have d0 : decide ((k : Int) ≤ (c1 : Int)) = true := decide_eq_true (by omega)
      have d0' : decide (k ≤ c1) = true := decide_eq_true hlt
      have bk : (k : Int) < (n : Int) := by omega
      go_wp2_with fail
      refine (pdNext w.heap.size 182 r _ hrb.out).mono ?_
      rintro _ w2 ⟨y2, rfl, hy2lt, hb2, hg2⟩
      have hy2 := hid (hy.out.grown hg2 (by simpa using Ne.symm hgb))
      have hg2 := hid (grown_newQ hg.out hg2 (Nat.le_refl _))
      clear hrb hy hg
      have hrb := hid hb2
      clear hb2
      obtain ⟨o, ho, hole⟩ := and_low y2 m1 hy2lt (by omega)
      have wo : IntKind.i64.wrap (o : Int) = (o : Int) := IntWalk.i64_in _ (by omega)
      by_cases hol : l ≤ o
      · have d1 : decide ((l : Int) ≤ (o : Int)) = true := decide_eq_true (by omega)
        have d1' : decide (l ≤ o) = true := decide_eq_true hol
        obtain ⟨o2, ho2⟩ : ∃ o2, o - l = o2 := ⟨_, rfl⟩
        have eo2 : (o : Int) - (l : Int) = (o2 : Int) := by omega
        have wo2 : IntKind.i64.wrap (o2 : Int) = (o2 : Int) := IntWalk.i64_in _ (by omega)
        have ho2b : o2 < l := by omega
        clear ho2
        obtain ⟨p, hp⟩ : ∃ p, a + o2 = p := ⟨_, rfl⟩
        have ep : (a : Int) + (o2 : Int) = (p : Int) := by omega
        have wp_ : IntKind.i64.wrap (p : Int) = (p : Int) := IntWalk.i64_in _ (by omega)
        have bp : (p : Int) < (n : Int) := by omega
        have hpp : a ≤ p ∧ p < b := by omega
        have c1 := hy2.out.cell (k := k) (by rw [hyn.out]; omega)
        have c2 := hy2.out.cell (k := p) (by rw [hyn.out]; omega)
        have f1 := hy2.out.frozen k
        have f2 := hy2.out.frozen p
        have hst := hy2.out.set_ (k := k) (by rw [hyn.out]; omega) y[p]!
        have c3 := hst.cell (k := p) (by simp; rw [hyn.out]; omega)
        have f3 := hst.frozen p
        have hsw := hid ((hy2.out.drew).swp (i := k) (j := p) (by rw [hyn.out]; omega) (by rw [hyn.out]; omega))
        have hpe2 := hid (Go.Sort.permIn_trans d y (Go.Sort.swp y k p) a b hpe.out (Go.Sort.swp_permIn y a b k p (by omega) (by omega) (by omega) (by omega) (by rw [hyn.out]; omega)))
        have hrb2 := hid (show Blk (((w2.setCell ⟨g, k, none⟩ (.int .u64 y[p]!)).setCell ⟨g, p, none⟩ (.int .u64 y[k]!)).drew) w.heap.size 182 #[.int .u64 y2] from (hrb.out.two k _ (Ne.symm hgb)).two p _ (Ne.symm hgb))
        obtain ⟨y3, e1⟩ : ∃ x, y[p]! = x := ⟨_, rfl⟩
        obtain ⟨y4, e2⟩ : ∃ x, y[k]! = x := ⟨_, rfl⟩
        rw [e1] at c2 c3 hsw hrb2; rw [e2] at c1 hsw hrb2
        obtain ⟨y5, e3⟩ : ∃ x, (y.setIfInBounds k y3)[p]! = x := ⟨_, rfl⟩
        have c3' : (w2.setCell ⟨g, k, none⟩ (.int .u64 y3)).cell? ⟨g, p, none⟩ = some (.int .u64 y5) := by rw [← e3]; exact c3
        have hg3 := hid (drew_grown (hg2.out.trans (swp_grown w2 g k p (.int .u64 y3) (.int .u64 y4))))
        clear e1 e2 e3 hp hst c3
        go_wp2_with fail
        go_region
        go_wp2_with fail
        go_roundw
        case rel => exact ⟨k + 1, Go.Sort.swp y k p, y2, by go_num, by omega, by omega, hy2lt, hsw, hid (by rw [swp_size]; exact hyn.out), hpe2, hrb2, hg3⟩
        case measure => simp [intOf]; omega
      · have d1 : decide ((l : Int) ≤ (o : Int)) = false := decide_eq_false (by omega)
        have d1' : decide (l ≤ o) = false := decide_eq_false hol
        obtain ⟨p, hp⟩ : ∃ p, a + o = p := ⟨_, rfl⟩
        have ep : (a : Int) + (o : Int) = (p : Int) := by omega
        have wp_ : IntKind.i64.wrap (p : Int) = (p : Int) := IntWalk.i64_in _ (by omega)
        have bp : (p : Int) < (n : Int) := by omega
        have hpp : a ≤ p ∧ p < b := by omega
        have c1 := hy2.out.cell (k := k) (by rw [hyn.out]; omega)
        have c2 := hy2.out.cell (k := p) (by rw [hyn.out]; omega)
        have f1 := hy2.out.frozen k
        have f2 := hy2.out.frozen p
        have hst := hy2.out.set_ (k := k) (by rw [hyn.out]; omega) y[p]!
        have c3 := hst.cell (k := p) (by simp; rw [hyn.out]; omega)
        have f3 := hst.frozen p
        have hsw := hid ((hy2.out.drew).swp (i := k) (j := p) (by rw [hyn.out]; omega) (by rw [hyn.out]; omega))
        have hpe2 := hid (Go.Sort.permIn_trans d y (Go.Sort.swp y k p) a b hpe.out (Go.Sort.swp_permIn y a b k p (by omega) (by omega) (by omega) (by omega) (by rw [hyn.out]; omega)))
        have hrb2 := hid (show Blk (((w2.setCell ⟨g, k, none⟩ (.int .u64 y[p]!)).setCell ⟨g, p, none⟩ (.int .u64 y[k]!)).drew) w.heap.size 182 #[.int .u64 y2] from (hrb.out.two k _ (Ne.symm hgb)).two p _ (Ne.symm hgb))
        obtain ⟨y3, e1⟩ : ∃ x, y[p]! = x := ⟨_, rfl⟩
        obtain ⟨y4, e2⟩ : ∃ x, y[k]! = x := ⟨_, rfl⟩
        rw [e1] at c2 c3 hsw hrb2; rw [e2] at c1 hsw hrb2
        obtain ⟨y5, e3⟩ : ∃ x, (y.setIfInBounds k y3)[p]! = x := ⟨_, rfl⟩
        have c3' : (w2.setCell ⟨g, k, none⟩ (.int .u64 y3)).cell? ⟨g, p, none⟩ = some (.int .u64 y5) := by rw [← e3]; exact c3
        have hg3 := hid (drew_grown (hg2.out.trans (swp_grown w2 g k p (.int .u64 y3) (.int .u64 y4))))
        clear e1 e2 e3 hp hst c3
        go_wp2_with fail
        go_region
        go_wp2_with fail
        go_roundw
        case rel => exact ⟨k + 1, Go.Sort.swp y k p, y2, by go_num, by omega, by omega, hy2lt, hsw, hid (by rw [swp_size]; exact hyn.out), hpe2, hrb2, hg3⟩
        case measure => simp [intOf]; omega
    · have d0 : decide ((k : Int) ≤ (c1 : Int)) = false := decide_eq_false (by omega)
      have d0' : decide (k ≤ c1) = false := decide_eq_false hlt
      go_wp2_with fail
      go_end0
      exact ⟨⟨_, rfl⟩, y, hy.out, hyn.out, hpe.out, hg.out⟩
end Go.Proofs.YthomeenmcajmdaaGreatDoor
namespace Go.Proofs.YthomeenmcajmdaaGreatDoor
open Go.RowKit Go.Maps
def DistIn (a b : Nat) (d : Array Int) : Prop := ∀ i j, a ≤ i → i < j → j < b → d[i]! ≠ d[j]!
def Under (a b : Nat) (d : Array Int) : Prop := a = 0 ∨ ∀ i, a ≤ i → i < b → d[a - 1]! < d[i]!
theorem distIn_iff {a b : Nat} {d : Array Int} (hb : b ≤ d.size) : DistIn a b d ↔ (d.extract a b).toList.Nodup := by
  rw [Go.Sort.extract_toList d a b hb, List.Nodup, List.pairwise_iff_getElem]
  simp only [List.length_map, List.length_range', List.getElem_map, List.getElem_range']
  constructor
  · intro h i j hi hj hij
    exact h (a + 1 * i) (a + 1 * j) (by omega) (by omega) (by omega)
  · intro h i j h1 h2 h3
    have := h (i - a) (j - a) (by omega) (by omega) (by omega)
    rwa [show a + 1 * (i - a) = i by omega, show a + 1 * (j - a) = j by omega] at this
theorem DistIn.perm {a b : Nat} {d y : Array Int} (h : DistIn a b d) (hb : b ≤ d.size) (hp : Go.Sort.PermIn a b d y) : DistIn a b y :=
  (distIn_iff (by rw [hp.1]; exact hb)).2 (hp.2.2.symm.nodup ((distIn_iff hb).1 h))
theorem DistIn.part {a b a' b' : Nat} {d : Array Int} (h : DistIn a b d) (ha : a ≤ a') (hb : b' ≤ b) : DistIn a' b' d := fun i j h1 h2 h3 => h i j (by omega) h2 (by omega)
theorem Under.perm {a b : Nat} {d y : Array Int} (h : Under a b d) (hb : b ≤ d.size) (hp : Go.Sort.PermIn a b d y) : Under a b y := by
  rcases Nat.eq_zero_or_pos a with h0 | h0
  · exact .inl h0
  · rcases h with h | h
    · exact .inl h
    · refine .inr fun i h1 h2 => ?_
      rw [hp.2.1 (a - 1) (.inl (by omega))]
      exact Go.Sort.permIn_all d y a b (fun x => d[a - 1]! < x) hb hp h i h1 h2
theorem Under.part {a b b' : Nat} {d : Array Int} (h : Under a b d) (hb : b' ≤ b) : Under a b' d := h.imp id fun h i h1 h2 => h i h1 (by omega)
def Rest (a b a' b' : Nat) (y : Array Int) : Prop := ∀ z, Go.Sort.PermIn a' b' y z → Go.Sort.SortedIn Go.Sort.ltInt a' b' z → Go.Sort.SortedIn Go.Sort.ltInt a b z
theorem Rest.perm {a b a' b' : Nat} {y z : Array Int} (h : Rest a b a' b' y) (hp : Go.Sort.PermIn a' b' y z) : Rest a b a' b' z := fun x h1 h2 => h x (Go.Sort.permIn_trans _ _ _ _ _ hp h1) h2
theorem lt_int_iff {x y : Int} : Go.Sort.ltInt x y = true ↔ x < y := by simp [Go.Sort.ltInt]
theorem lt_int_not {x y : Int} : Go.Sort.ltInt x y = false ↔ y ≤ x := by simp [Go.Sort.ltInt]
theorem Rest.right {a b a' b' mid : Nat} {y p z : Array Int} (h : Rest a b a' b' y) (h1 : a' ≤ mid) (h2 : mid < b') (hb : b' ≤ y.size) (hp : Go.Sort.PermIn a' b' y p)
    (hl : ∀ i, a' ≤ i → i < mid → p[i]! < p[mid]!) (hr : ∀ i, mid < i → i < b' → p[mid]! < p[i]!) (hz : Go.Sort.PermIn a' mid p z) (hs : Go.Sort.SortedIn Go.Sort.ltInt a' mid z) :
    Rest a b (mid + 1) b' z ∧ Under (mid + 1) b' z ∧ Go.Sort.PermIn a' b' y z := by
  have hps : p.size = y.size := hp.1
  have hzs : z.size = y.size := hz.1.trans hps
  have hm : z[mid]! = p[mid]! := hz.2.1 mid (.inr (Nat.le_refl _))
  have hzl : ∀ i, a' ≤ i → i < mid → z[i]! < z[mid]! := by
    rw [hm]
    exact Go.Sort.permIn_all p z a' mid (fun x => x < p[mid]!) (by omega) hz hl
  have hzr : ∀ i, mid < i → i < b' → z[mid]! < z[i]! := by
    intro i h3 h4
    rw [hm, hz.2.1 i (.inr (by omega))]
    exact hr i h3 h4
  have hyz := Go.Sort.permIn_trans y p z a' b' hp (Go.Sort.permIn_mono p z a' mid a' b' (Nat.le_refl _) (by omega) (by omega) hz)
  refine ⟨fun x hx hsx => ?_, .inr fun i h3 h4 => ?_, hyz⟩
  · refine h x (Go.Sort.permIn_trans y z x a' b' hyz (Go.Sort.permIn_mono z x (mid + 1) b' a' b' (by omega) (Nat.le_refl _) (by omega) hx)) ?_
    intro i j h3 h4 h5
    rw [lt_int_not]
    have hxr := Go.Sort.permIn_all z x (mid + 1) b' (fun v => z[mid]! < v) (by omega) hx (fun i h3 h4 => hzr i (by omega) h4)
    have hxl : ∀ i, i ≤ mid → x[i]! = z[i]! := fun i hi => hx.2.1 i (.inl (by omega))
    rcases Nat.lt_trichotomy j mid with hj | hj | hj
    · rw [hxl i (by omega), hxl j (by omega)]
      exact lt_int_not.1 (hs i j h3 h4 hj)
    · subst hj
      rw [hxl i (by omega), hxl j (by omega)]
      exact Int.le_of_lt (hzl i h3 h4)
    · rcases Nat.lt_trichotomy i mid with hi | hi | hi
      · rw [hxl i (by omega)]
        exact Int.le_of_lt (Int.lt_trans (hzl i h3 hi) (hxr j (by omega) h5))
      · rw [hxl i (by omega), hi]
        exact Int.le_of_lt (hxr j (by omega) h5)
      · exact lt_int_not.1 (hsx i j (by omega) h4 h5)
  · exact hzr i (by omega) h4
theorem Rest.left {a b a' b' mid : Nat} {y p z : Array Int} (h : Rest a b a' b' y) (h1 : a' ≤ mid) (h2 : mid < b') (hb : b' ≤ y.size) (hp : Go.Sort.PermIn a' b' y p)
    (hl : ∀ i, a' ≤ i → i < mid → p[i]! < p[mid]!) (hr : ∀ i, mid < i → i < b' → p[mid]! < p[i]!) (hz : Go.Sort.PermIn (mid + 1) b' p z) (hs : Go.Sort.SortedIn Go.Sort.ltInt (mid + 1) b' z) :
    Rest a b a' mid z ∧ Go.Sort.PermIn a' b' y z := by
  have hps : p.size = y.size := hp.1
  have hzs : z.size = y.size := hz.1.trans hps
  have hm : ∀ i, i ≤ mid → z[i]! = p[i]! := fun i hi => hz.2.1 i (.inl (by omega))
  have hzr : ∀ i, mid < i → i < b' → z[mid]! < z[i]! := by
    have := Go.Sort.permIn_all p z (mid + 1) b' (fun x => p[mid]! < x) (by omega) hz (fun i h3 h4 => hr i (by omega) h4)
    intro i h3 h4
    rw [hm mid (Nat.le_refl _)]
    exact this i (by omega) h4
  have hzl : ∀ i, a' ≤ i → i < mid → z[i]! < z[mid]! := by
    intro i h3 h4
    rw [hm mid (Nat.le_refl _), hm i (by omega)]
    exact hl i h3 h4
  have hyz := Go.Sort.permIn_trans y p z a' b' hp (Go.Sort.permIn_mono p z (mid + 1) b' a' b' (by omega) (Nat.le_refl _) (by omega) hz)
  refine ⟨fun x hx hsx => ?_, hyz⟩
  refine h x (Go.Sort.permIn_trans y z x a' b' hyz (Go.Sort.permIn_mono z x a' mid a' b' (Nat.le_refl _) (by omega) (by omega) hx)) ?_
  intro i j h3 h4 h5
  rw [lt_int_not]
  have hxl := Go.Sort.permIn_all z x a' mid (fun v => v < z[mid]!) (by omega) hx (fun i h3 h4 => hzl i h3 h4)
  have hxr : ∀ i, mid ≤ i → x[i]! = z[i]! := fun i hi => hx.2.1 i (.inr hi)
  rcases Nat.lt_trichotomy j mid with hj | hj | hj
  · exact lt_int_not.1 (hsx i j h3 h4 hj)
  · subst hj
    rw [hxr j (Nat.le_refl _)]
    exact Int.le_of_lt (hxl i h3 h4)
  · rcases Nat.lt_trichotomy i mid with hi | hi | hi
    · rw [hxr j (by omega)]
      exact Int.le_of_lt (Int.lt_trans (hxl i h3 hi) (hzr j hj h5))
    · rw [hxr j (by omega), hxr i (by omega), hi]
      exact Int.le_of_lt (hzr j hj h5)
    · rw [hxr j (by omega), hxr i (by omega)]
      exact lt_int_not.1 (hs i j (by omega) h4 h5)
theorem part_dist {y : Array Int} {a b pivot : Nat} (hd : DistIn a b y) (h1 : a ≤ pivot) (h2 : pivot < b) (hb : b ≤ y.size) {mid : Nat} {p : Array Int} (hm : (Go.Sort.partition Go.Sort.ltInt y a b pivot).1 = mid) (hp : (Go.Sort.partition Go.Sort.ltInt y a b pivot).2.2 = p) :
    a ≤ mid ∧ mid < b ∧ Go.Sort.PermIn a b y p ∧ (∀ i, a ≤ i → i < mid → p[i]! < p[mid]!) ∧ (∀ i, mid < i → i < b → p[mid]! < p[i]!) := by
  have h := Go.Sort.partition_holds Go.Sort.ltInt Go.Sort.swo_ltInt y a b pivot h1 h2 hb
  rw [hm, hp] at h
  obtain ⟨m1, m2, m3, m4, m5⟩ := h
  refine ⟨m1, m2, m3, fun i h3 h4 => lt_int_iff.1 (m4 i h3 h4), fun i h3 h4 => ?_⟩
  have := lt_int_not.1 (m5 i h3 h4)
  have hne := (hd.perm hb m3) mid i m1 h3 h4
  omega
end Go.Proofs.YthomeenmcajmdaaGreatDoor
namespace Go.Proofs.YthomeenmcajmdaaGreatDoor
open Go.RowKit Go.Maps
def Sorts (g : Nat) (t : TypeId) (rest : List Value) (a b n : Nat) (d : Array Int) (w : World) (e : Ending) (w' : World) : Prop :=
  (∃ v, e = .returned v) ∧ ∃ y, AB w' g t y rest ∧ y.size = n ∧ Go.Sort.PermIn a b d y ∧ Go.Sort.SortedIn Go.Sort.ltInt a b y ∧ w.grownBy w' (some g)
theorem pdIns_n (g cap : Nat) (t : TypeId) (d : Array Int) (rest : List Value) (a b n : Nat) (w : World) (hb : AB w g t d rest) (hn : d.size = n) (hab : a ≤ b) (hbd : b ≤ n) (hs : n ≤ 1000) :
    Calls Tryz.prog 124 #[.slice (some ⟨g, 0, none⟩) n cap, .int .i64 a, .int .i64 b] w (Sorts g t rest a b n d w) := by
  subst hn
  refine (pdIns g cap t d rest a b w hb hab hbd hs).mono ?_
  rintro _ w' ⟨⟨v, rfl⟩, h1, h2, h3⟩
  have h := Go.Sort.insertionSort_holds Go.Sort.swo_ltInt d a b hab hbd
  exact ⟨⟨_, rfl⟩, _, h1, h2, h.1, h.2, h3⟩
theorem pdHeap_n (g cap : Nat) (t : TypeId) (d : Array Int) (rest : List Value) (a b n : Nat) (w : World) (hb : AB w g t d rest) (hn : d.size = n) (hab : a < b) (hbd : b ≤ n) (hs : n ≤ 1000) :
    Calls Tryz.prog 125 #[.slice (some ⟨g, 0, none⟩) n cap, .int .i64 a, .int .i64 b] w (Sorts g t rest a b n d w) := by
  subst hn
  refine (pdHeap g cap t d rest a b w hb hab hbd hs).mono ?_
  rintro _ w' ⟨⟨v, rfl⟩, h1, h2, h3⟩
  have h := Go.Sort.heapSort_holds Go.Sort.swo_ltInt d a b (Nat.le_of_lt hab) hbd
  exact ⟨⟨_, rfl⟩, _, h1, h2, h.1, h.2, h3⟩
theorem pdBreak_n (g cap : Nat) (t : TypeId) (d : Array Int) (rest : List Value) (a b n : Nat) (w : World) (hb : AB w g t d rest) (hn : d.size = n) (hab : a + 8 ≤ b) (hbd : b ≤ n) (hs : n ≤ 1000) :
    Calls Tryz.prog 126 #[.slice (some ⟨g, 0, none⟩) n cap, .int .i64 a, .int .i64 b] w
      fun e w' => (∃ v, e = .returned v) ∧ ∃ y, AB w' g t y rest ∧ y.size = n ∧ Go.Sort.PermIn a b d y ∧ w.grownBy w' (some g) := by
  subst hn
  exact pdBreak g cap t d rest a b w hb hab hbd hs
theorem pdPivot_n (g cap : Nat) (t : TypeId) (d : Array Int) (rest : List Value) (a b n : Nat) (w : World) (hb : AB w g t d rest) (hn : d.size = n) (hab : a + 8 ≤ b) (hab2 : b < a + 50) (hbd : b ≤ n) (hs : n ≤ 1000) :
    Calls Tryz.prog 127 #[.slice (some ⟨g, 0, none⟩) n cap, .int .i64 a, .int .i64 b] w
      fun e w' => ∃ (p : Nat) (h : Int), e = .returned (.tuple #[.int .i64 p, .int .i64 h]) ∧ a ≤ p ∧ p < b ∧ (h = 0 ∨ h = 1) ∧ AB w' g t d rest ∧ w.grownBy w' (some g) := by
  subst hn
  refine (pdPivot g cap t d rest a b w hb hab hab2 hbd hs).mono ?_
  rintro _ w' ⟨p, h, rfl, h1, h2, h3, x⟩
  exact ⟨p, h, rfl, h1, h2, h3, hb.ext x, ext_grownByQ x _⟩
theorem pdPartial_n (g cap : Nat) (t : TypeId) (d : Array Int) (rest : List Value) (a b n : Nat) (w : World) (hb : AB w g t d rest) (hn : d.size = n) (hab : a < b) (hab2 : b < a + 50) (hbd : b ≤ n) (hs : n ≤ 1000) :
    Calls Tryz.prog 129 #[.slice (some ⟨g, 0, none⟩) n cap, .int .i64 a, .int .i64 b] w
      fun e w' => ∃ r : Bool, e = .returned (.bool r) ∧ (r = true → Go.Sort.SortedIn Go.Sort.ltInt a b d) ∧ AB w' g t d rest ∧ w.grownBy w' (some g) := by
  subst hn
  refine (pdPartial g cap t d rest a b w hb hab hab2 hbd hs).mono ?_
  rintro _ w' ⟨r, rfl, h1, x⟩
  exact ⟨r, rfl, h1, hb.ext x, ext_grownByQ x _⟩
theorem pdPart_n (g cap : Nat) (t : TypeId) (d : Array Int) (rest : List Value) (a b pivot n : Nat) (w : World) (hb : AB w g t d rest) (hn : d.size = n) (hap : a ≤ pivot) (hpb : pivot < b) (hbd : b ≤ n) (hab : a + 1 < b) (hs : n ≤ 1000) (hd : DistIn a b d) :
    Calls Tryz.prog 132 #[.slice (some ⟨g, 0, none⟩) n cap, .int .i64 a, .int .i64 b, .int .i64 pivot] w
      fun e w' => ∃ (mid : Nat) (q : Bool) (y : Array Int), e = .returned (.tuple #[.int .i64 mid, .bool q]) ∧ a ≤ mid ∧ mid < b ∧ AB w' g t y rest ∧ y.size = n ∧ Go.Sort.PermIn a b d y ∧ (∀ i, a ≤ i → i < mid → y[i]! < y[mid]!) ∧ (∀ i, mid < i → i < b → y[mid]! < y[i]!) ∧ w.grownBy w' (some g) := by
  subst hn
  refine (pdPart g cap t d rest a b pivot w hb hap hpb hbd hab hs).mono ?_
  rintro _ w' ⟨rfl, h1, h2, h3⟩
  obtain ⟨m1, m2, m3, m4, m5⟩ := part_dist hd hap hpb hbd rfl rfl
  exact ⟨_, _, _, rfl, m1, m2, h1, h2, m3, m4, m5, h3⟩
set_option maxRecDepth 100000 in
set_option maxHeartbeats 8000000 in
theorem pdPdq (g cap n : Nat) (t : TypeId) (rest : List Value) : ∀ (M : Nat) (d : Array Int) (a b limit : Nat) (w : World), b - a < M → AB w g t d rest → d.size = n → a ≤ b → b ≤ n → n < 50 → limit ≤ 64 → DistIn a b d → Under a b d →
    Calls Tryz.prog 100 #[.slice (some ⟨g, 0, none⟩) n cap, .int .i64 a, .int .i64 b, .int .i64 limit] w (Sorts g t rest a b n d w) := by
  intro M
  induction M with
  | zero => intro d a b limit w hM; omega
  | succ M ih =>
  intro d a b limit w hM hb hn hab hbd hs hl hdist hund
  have IH := hid fun (d : Array Int) (a b limit : Nat) (w : World) (h1 : b - a < M) (h2 : AB w g t d rest) (h3 : d.size = n) (h4 : a ≤ b) (h5 : b ≤ n) (h6 : limit ≤ 64) (h7 : DistIn a b d) (h8 : Under a b d) => ih d a b limit w h1 h2 h3 h4 h5 hs h6 h7 h8
  have HN := hid hn
  have HB := hid hb
  have HD := hid hdist; have HU := hid hund
  have HR := hid (show Rest a b a b d from fun z _ h => h)
  have HP := hid (Go.Sort.permIn_refl d a b)
  clear ih hn hb hdist hund
  go_enter Tryz.func100, Tryz.ntmps100
  go_wp2_with fail
  go_loopw [1, 2, 3, 8, 9] (fun av bv lv wb wp wr => ∃ (a' b' l' : Nat) (B P : Bool) (y : Array Int), av = .int .i64 a' ∧ bv = .int .i64 b' ∧ lv = .int .i64 l' ∧ wb = .bool B ∧ wp = .bool P ∧ a ≤ a' ∧ a' ≤ b' ∧ b' ≤ b ∧ l' ≤ 64 ∧ Hid (AB wr g t y rest) ∧ Hid (y.size = n) ∧ Hid (Go.Sort.PermIn a b d y) ∧ Hid (DistIn a' b' y) ∧ Hid (Under a' b' y) ∧ Hid (Rest a b a' b' y) ∧ Hid (w.grownBy wr (some g))) (fun av bv _ _ _ _ => (intOf bv - intOf av).toNat)
  case atStart => exact ⟨a, b, limit, true, true, d, rfl, rfl, rfl, rfl, rfl, Nat.le_refl _, hab, Nat.le_refl _, hl, HB, HN, HP, HD, HU, HR, hid (World.grownBy.refl w _)⟩
  case round =>
    clear HB HN HP HD HU HR hl
    obtain ⟨a', b', l', B, P, y, rfl, rfl, rfl, rfl, rfl, ha1, ha2, hb1, hl, Hy, HN1, HP1, HD1, HU1, HR1, Hg⟩ := hrel
    rename World => wr
    obtain ⟨l, hll⟩ : ∃ x, b' - a' = x := ⟨_, rfl⟩
    have el : (b' : Int) - (a' : Int) = (l : Int) := by omega
    have hab' : b' ≤ a' + l ∧ a' + l ≤ b' := by omega
    clear hll
    by_cases hl12 : l ≤ 12
    · have d12 : decide ((l : Int) ≤ 12) = true := decide_eq_true (by omega)
      have d12' : decide (l ≤ 12) = true := decide_eq_true hl12
      go_wp2_with fail
      have hbn : b' ≤ n := by omega
      have hn1 : n ≤ 1000 := by omega
      have H := pdIns_n g cap t y rest a' b' n wr Hy.out HN1.out ha2 hbn hn1
      refine H.mono ?_
      rintro _ w5 ⟨⟨v5, rfl⟩, z, z1, z2, z3, z4, z5⟩
      have Z1 := hid z1; have Z2 := hid z2; have Z3 := hid z3; have Z4 := hid z4; have Z5 := hid z5
      clear z1 z2 z3 z4 z5
      go_wp2_with fail
      (try simp only [Exit.inBlock, Exit.then])
      refine bodyPost_ret (results_none rfl _ _ _) rfl ?_
      exact ⟨⟨_, rfl⟩, z, Z1.out, Z2.out, Go.Sort.permIn_trans d y z a b HP1.out (Go.Sort.permIn_mono y z a' b' a b (by omega) (by omega) (by rw [HN1.out]; omega) Z3.out), HR1.out z Z3.out Z4.out, Hg.out.trans Z5.out⟩
    · have d12 : decide ((l : Int) ≤ 12) = false := decide_eq_false (by omega)
      have d12' : decide (l ≤ 12) = false := decide_eq_false hl12
      by_cases hl0 : l' = 0
      · have dl0 : ((l' : Int) == 0) = true := by simp; omega
        have dl0' : (l' == 0) = true := by simp; omega
        go_wp2_with fail
        refine (pdHeap_n g cap t y rest a' b' n wr Hy.out HN1.out (by omega) (by omega) (by omega)).mono ?_
        rintro _ w5 ⟨⟨v5, rfl⟩, z, z1, z2, z3, z4, z5⟩
        have Z1 := hid z1; have Z2 := hid z2; have Z3 := hid z3; have Z4 := hid z4; have Z5 := hid z5
        clear z1 z2 z3 z4 z5
        go_wp2_with fail
        (try simp only [Exit.inBlock, Exit.then])
        refine bodyPost_ret (results_none rfl _ _ _) rfl ?_
        exact ⟨⟨_, rfl⟩, z, Z1.out, Z2.out, Go.Sort.permIn_trans d y z a b HP1.out (Go.Sort.permIn_mono y z a' b' a b (by omega) (by omega) (by rw [HN1.out]; omega) Z3.out), HR1.out z Z3.out Z4.out, Hg.out.trans Z5.out⟩
      · have dl0 : ((l' : Int) == 0) = false := by simp; omega
        have dl0' : (l' == 0) = false := by simp; omega
        obtain ⟨q8, hq8⟩ : ∃ x, l / 8 = x := ⟨_, rfl⟩
        have eq8 : (l : Int).tdiv 8 = (q8 : Int) := by rw [Int.tdiv_eq_ediv_of_nonneg (by omega)]; omega
        clear hq8
        cases B with
        | false =>
          go_wp2_with fail
          refine (pdBreak_n g cap t y rest a' b' n wr Hy.out HN1.out (by omega) (by omega) (by omega)).mono ?_
          rintro _ w2 ⟨⟨v2, rfl⟩, y1, z1, z2, z3, z5⟩
          have hbs : b' ≤ y.size := by rw [HN1.out]; omega
          have Y := hid z1; have YN := hid z2
          have YP := hid (Go.Sort.permIn_trans d y y1 a b HP1.out (Go.Sort.permIn_mono y y1 a' b' a b (by omega) (by omega) (by rw [HN1.out]; omega) z3))
          have YD := hid (HD1.out.perm hbs z3)
          have YU := hid (HU1.out.perm hbs z3)
          have YR := hid (HR1.out.perm z3)
          have YG := hid (Hg.out.trans z5)
          clear z1 z2 z3 z5 Hy HN1 HP1 HD1 HU1 HR1 Hg
          have Hy := Y; have HN1 := YN; have HP1 := YP; have HD1 := YD; have HU1 := YU; have HR1 := YR
          clear Y YN YP YD YU YR
          obtain ⟨l1, hl1⟩ : ∃ x, l' - 1 = x := ⟨_, rfl⟩
          have el1 : (l' : Int) - 1 = (l1 : Int) := by omega
          have wl1 : IntKind.i64.wrap (l1 : Int) = (l1 : Int) := IntWalk.i64_in _ (by omega)
          have hl1b : l1 ≤ 64 := by omega
          clear hl1
          go_wp2_with fail
          refine (pdPivot_n g cap t y1 rest a' b' n w2 Hy.out HN1.out (by omega) (by omega) (by omega) (by omega)).mono ?_
          rintro _ w3 ⟨p, h, rfl, hp1, hp2, hh, z1, z5⟩
          have Hg := hid (YG.out.trans z5)
          clear Hy YG z5
          have Hy := hid z1
          clear z1
          have dh2 : (h == 2) = false := by simp; omega
          by_cases ha0 : ¬ 0 < a'
          · have da : decide ((0 : Int) < (a' : Int)) = false := decide_eq_false (by omega)
            have da' : decide (0 < a') = false := decide_eq_false (by omega)
            go_wp2_with fail
            go_quiet (fail)
            go_wp2_with fail
            refine (pdPart_n g cap t y1 rest a' b' p n _ (Hy.out.drewN _) HN1.out hp1 hp2 (by omega) (by omega) (by omega) HD1.out).mono ?_
            rintro _ w4 ⟨mid, q, yp, rfl, m1, m2, m3, m4, m5, m6, m7, m8⟩
            have M3 := hid m3; have M4 := hid m4; have M5 := hid m5; have M6 := hid m6; have M7 := hid m7
            have M8 := hid ((drewN_grown Hg.out _).trans m8)
            have HD2 := hid (HD1.out.perm (by rw [HN1.out]; omega) m5)
            have HU2 := hid (HU1.out.perm (by rw [HN1.out]; omega) m5)
            clear m3 m4 m5 m6 m7 m8 Hy Hg
            obtain ⟨lL, hlL⟩ : ∃ x, mid - a' = x := ⟨_, rfl⟩
            have elL : (mid : Int) - (a' : Int) = (lL : Int) := by omega
            obtain ⟨lR, hlR⟩ : ∃ x, b' - mid = x := ⟨_, rfl⟩
            have elR : (b' : Int) - (mid : Int) = (lR : Int) := by omega
            obtain ⟨mm, hmm⟩ : ∃ x, mid + 1 = x := ⟨_, rfl⟩
            have emm : (mid : Int) + 1 = (mm : Int) := by omega
            have wmm : IntKind.i64.wrap (mm : Int) = (mm : Int) := IntWalk.i64_in _ (by omega)
            have HMM := hid hmm
            have hsum : (lL + lR ≤ l ∧ l ≤ lL + lR) ∧ (mid ≤ a' + lL ∧ a' + lL ≤ mid) ∧ (b' ≤ mid + lR ∧ mid + lR ≤ b') ∧ (mm ≤ mid + 1 ∧ mid + 1 ≤ mm) := by omega
            clear hlL hlR hmm
            by_cases hlr : lL < lR
            · have dlr : decide ((lL : Int) < (lR : Int)) = true := decide_eq_true (by omega)
              have dlr' : decide (lL < lR) = true := decide_eq_true hlr
              go_wp2_with fail
              refine (IH.out yp a' mid l1 w4 (by omega) M3.out M4.out (by omega) (by omega) (by omega) (HD2.out.part (Nat.le_refl _) (by omega)) (HU2.out.part (by omega))).mono ?_
              rintro _ w5 ⟨⟨v5, rfl⟩, z, z1, z2, z3, z4, z5⟩
              have Z := HR1.out.right m1 m2 (by rw [HN1.out]; omega) M5.out M6.out M7.out z3 z4
              rw [HMM.out] at Z
              have Z1 := hid z1; have Z2 := hid z2; have Z3 := hid Z.1; have Z4 := hid Z.2.1; have Z6 := hid Z.2.2
              have Z5 := hid (M8.out.trans z5)
              have Z7 := hid (Go.Sort.permIn_trans d y1 z a b HP1.out (Go.Sort.permIn_mono y1 z a' b' a b (by omega) (by omega) (by rw [HN1.out]; omega) Z.2.2))
              have Z8 := hid ((HD1.out.perm (by rw [HN1.out]; omega) Z.2.2).part (a' := mm) (b' := b') (by omega) (Nat.le_refl _))
              clear z1 z2 z3 z4 z5 Z M3 M4 M5 M6 M7 M8 HD2 HU2
              go_wp2_with fail
              go_roundw
              case rel => exact ⟨mm, b', l1, _, q, z, rfl, rfl, rfl, rfl, rfl, by omega, by omega, by omega, by omega, Z1, Z2, Z7, Z8, Z4, Z3, Z5⟩
              case measure => simp [intOf]; omega
            · have dlr : decide ((lL : Int) < (lR : Int)) = false := decide_eq_false (by omega)
              have dlr' : decide (lL < lR) = false := decide_eq_false hlr
              have HUr := hid (show Under mm b' yp from .inr fun i h3 h4 => by
                rw [show mm - 1 = mid by omega]
                exact M7.out i (by omega) h4)
              go_wp2_with fail
              refine (IH.out yp mm b' l1 w4 (by omega) M3.out M4.out (by omega) (by omega) (by omega) (HD2.out.part (by omega) (Nat.le_refl _)) HUr.out).mono ?_
              rintro _ w5 ⟨⟨v5, rfl⟩, z, z1, z2, z3, z4, z5⟩
              rw [← HMM.out] at z3 z4
              have Z := HR1.out.left m1 m2 (by rw [HN1.out]; omega) M5.out M6.out M7.out z3 z4
              have Z1 := hid z1; have Z2 := hid z2; have Z3 := hid Z.1
              have Z5 := hid (M8.out.trans z5)
              have Z7 := hid (Go.Sort.permIn_trans d y1 z a b HP1.out (Go.Sort.permIn_mono y1 z a' b' a b (by omega) (by omega) (by rw [HN1.out]; omega) Z.2))
              have Z8 := hid ((HD1.out.perm (by rw [HN1.out]; omega) Z.2).part (a' := a') (b' := mid) (Nat.le_refl _) (by omega))
              have Z4 := hid ((HU1.out.perm (by rw [HN1.out]; omega) Z.2).part (b' := mid) (by omega))
              clear z1 z2 z3 z4 z5 Z M3 M4 M5 M6 M7 M8 HD2 HU2 HUr
              go_wp2_with fail
              go_roundw
              case rel => exact ⟨a', mid, l1, _, q, z, rfl, rfl, rfl, rfl, rfl, by omega, by omega, by omega, by omega, Z1, Z2, Z7, Z8, Z4, Z3, Z5⟩
              case measure => simp [intOf]; omega
          · have da : decide ((0 : Int) < (a' : Int)) = true := decide_eq_true (by omega)
            have da' : decide (0 < a') = true := decide_eq_true (by omega)
            obtain ⟨m, hm⟩ : ∃ m, a' = m + 1 := ⟨a' - 1, by omega⟩
            have em : (a' : Int) - 1 = (m : Int) := by omega
            have wm : IntKind.i64.wrap (m : Int) = (m : Int) := IntWalk.i64_in _ (by omega)
            have bm : (m : Int) < (n : Int) := by omega
            have cm := Hy.out.cell (k := m) (by rw [HN1.out]; omega)
            have cp := Hy.out.cell (k := p) (by rw [HN1.out]; omega)
            obtain ⟨xm, exm⟩ : ∃ x, y1[m]! = x := ⟨_, rfl⟩
            obtain ⟨xp, exp⟩ : ∃ x, y1[p]! = x := ⟨_, rfl⟩
            have dx : decide (xm < xp) = true := decide_eq_true (by
              rcases HU1.out with h | h
              · omega
              · have := h p hp1 hp2
                rw [show a' - 1 = m by omega, exm, exp] at this
                exact this)
            rw [exm] at cm; rw [exp] at cp
            clear exm exp hm
            go_wp2_with fail
            go_quiet ((go_at_call 130; first | exact quiet_l (less64_any _ _ _) | exact quiet_add_l (less64_any _ _ _)))
            go_wp2_with fail
            clear cm cp
            refine (pdPart_n g cap t y1 rest a' b' p n _ (Hy.out.drewN _) HN1.out hp1 hp2 (by omega) (by omega) (by omega) HD1.out).mono ?_
            rintro _ w4 ⟨mid, q, yp, rfl, m1, m2, m3, m4, m5, m6, m7, m8⟩
            have M3 := hid m3; have M4 := hid m4; have M5 := hid m5; have M6 := hid m6; have M7 := hid m7
            have M8 := hid ((drewN_grown Hg.out _).trans m8)
            have HD2 := hid (HD1.out.perm (by rw [HN1.out]; omega) m5)
            have HU2 := hid (HU1.out.perm (by rw [HN1.out]; omega) m5)
            clear m3 m4 m5 m6 m7 m8 Hy Hg
            obtain ⟨lL, hlL⟩ : ∃ x, mid - a' = x := ⟨_, rfl⟩
            have elL : (mid : Int) - (a' : Int) = (lL : Int) := by omega
            obtain ⟨lR, hlR⟩ : ∃ x, b' - mid = x := ⟨_, rfl⟩
            have elR : (b' : Int) - (mid : Int) = (lR : Int) := by omega
            obtain ⟨mm, hmm⟩ : ∃ x, mid + 1 = x := ⟨_, rfl⟩
            have emm : (mid : Int) + 1 = (mm : Int) := by omega
            have wmm : IntKind.i64.wrap (mm : Int) = (mm : Int) := IntWalk.i64_in _ (by omega)
            have HMM := hid hmm
            have hsum : (lL + lR ≤ l ∧ l ≤ lL + lR) ∧ (mid ≤ a' + lL ∧ a' + lL ≤ mid) ∧ (b' ≤ mid + lR ∧ mid + lR ≤ b') ∧ (mm ≤ mid + 1 ∧ mid + 1 ≤ mm) := by omega
            clear hlL hlR hmm
            by_cases hlr : lL < lR
            · have dlr : decide ((lL : Int) < (lR : Int)) = true := decide_eq_true (by omega)
              have dlr' : decide (lL < lR) = true := decide_eq_true hlr
              go_wp2_with fail
              refine (IH.out yp a' mid l1 w4 (by omega) M3.out M4.out (by omega) (by omega) (by omega) (HD2.out.part (Nat.le_refl _) (by omega)) (HU2.out.part (by omega))).mono ?_
              rintro _ w5 ⟨⟨v5, rfl⟩, z, z1, z2, z3, z4, z5⟩
              have Z := HR1.out.right m1 m2 (by rw [HN1.out]; omega) M5.out M6.out M7.out z3 z4
              rw [HMM.out] at Z
              have Z1 := hid z1; have Z2 := hid z2; have Z3 := hid Z.1; have Z4 := hid Z.2.1; have Z6 := hid Z.2.2
              have Z5 := hid (M8.out.trans z5)
              have Z7 := hid (Go.Sort.permIn_trans d y1 z a b HP1.out (Go.Sort.permIn_mono y1 z a' b' a b (by omega) (by omega) (by rw [HN1.out]; omega) Z.2.2))
              have Z8 := hid ((HD1.out.perm (by rw [HN1.out]; omega) Z.2.2).part (a' := mm) (b' := b') (by omega) (Nat.le_refl _))
              clear z1 z2 z3 z4 z5 Z M3 M4 M5 M6 M7 M8 HD2 HU2
              go_wp2_with fail
              go_roundw
              case rel => exact ⟨mm, b', l1, _, q, z, rfl, rfl, rfl, rfl, rfl, by omega, by omega, by omega, by omega, Z1, Z2, Z7, Z8, Z4, Z3, Z5⟩
              case measure => simp [intOf]; omega
            · have dlr : decide ((lL : Int) < (lR : Int)) = false := decide_eq_false (by omega)
              have dlr' : decide (lL < lR) = false := decide_eq_false hlr
              have HUr := hid (show Under mm b' yp from .inr fun i h3 h4 => by
                rw [show mm - 1 = mid by omega]
                exact M7.out i (by omega) h4)
              go_wp2_with fail
              refine (IH.out yp mm b' l1 w4 (by omega) M3.out M4.out (by omega) (by omega) (by omega) (HD2.out.part (by omega) (Nat.le_refl _)) HUr.out).mono ?_
              rintro _ w5 ⟨⟨v5, rfl⟩, z, z1, z2, z3, z4, z5⟩
              rw [← HMM.out] at z3 z4
              have Z := HR1.out.left m1 m2 (by rw [HN1.out]; omega) M5.out M6.out M7.out z3 z4
              have Z1 := hid z1; have Z2 := hid z2; have Z3 := hid Z.1
              have Z5 := hid (M8.out.trans z5)
              have Z7 := hid (Go.Sort.permIn_trans d y1 z a b HP1.out (Go.Sort.permIn_mono y1 z a' b' a b (by omega) (by omega) (by rw [HN1.out]; omega) Z.2))
              have Z8 := hid ((HD1.out.perm (by rw [HN1.out]; omega) Z.2).part (a' := a') (b' := mid) (Nat.le_refl _) (by omega))
              have Z4 := hid ((HU1.out.perm (by rw [HN1.out]; omega) Z.2).part (b' := mid) (by omega))
              clear z1 z2 z3 z4 z5 Z M3 M4 M5 M6 M7 M8 HD2 HU2 HUr
              go_wp2_with fail
              go_roundw
              case rel => exact ⟨a', mid, l1, _, q, z, rfl, rfl, rfl, rfl, rfl, by omega, by omega, by omega, by omega, Z1, Z2, Z7, Z8, Z4, Z3, Z5⟩
              case measure => simp [intOf]; omega
        | true =>
          obtain ⟨y1, rfl⟩ : ∃ y1, y1 = y := ⟨_, rfl⟩
          go_wp2_with fail
          refine (pdPivot_n g cap t y1 rest a' b' n wr Hy.out HN1.out (by omega) (by omega) (by omega) (by omega)).mono ?_
          rintro _ w3 ⟨p, h, rfl, hp1, hp2, hh, z1, z5⟩
          have YG := hid (Hg.out.trans z5)
          clear Hy Hg z5
          have Hy := hid z1
          have Hg := hid YG.out
          clear z1 YG
          cases P with
          | false =>
            have dh2 : (h == 2) = false := by simp; omega
            by_cases ha0 : ¬ 0 < a'
            · have da : decide ((0 : Int) < (a' : Int)) = false := decide_eq_false (by omega)
              have da' : decide (0 < a') = false := decide_eq_false (by omega)
              go_wp2_with fail
              go_quiet (fail)
              go_wp2_with fail
              refine (pdPart_n g cap t y1 rest a' b' p n _ (Hy.out.drewN _) HN1.out hp1 hp2 (by omega) (by omega) (by omega) HD1.out).mono ?_
              rintro _ w4 ⟨mid, q, yp, rfl, m1, m2, m3, m4, m5, m6, m7, m8⟩
              have M3 := hid m3; have M4 := hid m4; have M5 := hid m5; have M6 := hid m6; have M7 := hid m7
              have M8 := hid ((drewN_grown Hg.out _).trans m8)
              have HD2 := hid (HD1.out.perm (by rw [HN1.out]; omega) m5)
              have HU2 := hid (HU1.out.perm (by rw [HN1.out]; omega) m5)
              clear m3 m4 m5 m6 m7 m8 Hy Hg
              obtain ⟨lL, hlL⟩ : ∃ x, mid - a' = x := ⟨_, rfl⟩
              have elL : (mid : Int) - (a' : Int) = (lL : Int) := by omega
              obtain ⟨lR, hlR⟩ : ∃ x, b' - mid = x := ⟨_, rfl⟩
              have elR : (b' : Int) - (mid : Int) = (lR : Int) := by omega
              obtain ⟨mm, hmm⟩ : ∃ x, mid + 1 = x := ⟨_, rfl⟩
              have emm : (mid : Int) + 1 = (mm : Int) := by omega
              have wmm : IntKind.i64.wrap (mm : Int) = (mm : Int) := IntWalk.i64_in _ (by omega)
              have HMM := hid hmm
              have hsum : (lL + lR ≤ l ∧ l ≤ lL + lR) ∧ (mid ≤ a' + lL ∧ a' + lL ≤ mid) ∧ (b' ≤ mid + lR ∧ mid + lR ≤ b') ∧ (mm ≤ mid + 1 ∧ mid + 1 ≤ mm) := by omega
              clear hlL hlR hmm
              by_cases hlr : lL < lR
              · have dlr : decide ((lL : Int) < (lR : Int)) = true := decide_eq_true (by omega)
                have dlr' : decide (lL < lR) = true := decide_eq_true hlr
                go_wp2_with fail
                refine (IH.out yp a' mid l' w4 (by omega) M3.out M4.out (by omega) (by omega) (by omega) (HD2.out.part (Nat.le_refl _) (by omega)) (HU2.out.part (by omega))).mono ?_
                rintro _ w5 ⟨⟨v5, rfl⟩, z, z1, z2, z3, z4, z5⟩
                have Z := HR1.out.right m1 m2 (by rw [HN1.out]; omega) M5.out M6.out M7.out z3 z4
                rw [HMM.out] at Z
                have Z1 := hid z1; have Z2 := hid z2; have Z3 := hid Z.1; have Z4 := hid Z.2.1; have Z6 := hid Z.2.2
                have Z5 := hid (M8.out.trans z5)
                have Z7 := hid (Go.Sort.permIn_trans d y1 z a b HP1.out (Go.Sort.permIn_mono y1 z a' b' a b (by omega) (by omega) (by rw [HN1.out]; omega) Z.2.2))
                have Z8 := hid ((HD1.out.perm (by rw [HN1.out]; omega) Z.2.2).part (a' := mm) (b' := b') (by omega) (Nat.le_refl _))
                clear z1 z2 z3 z4 z5 Z M3 M4 M5 M6 M7 M8 HD2 HU2
                go_wp2_with fail
                go_roundw
                case rel => exact ⟨mm, b', l', _, q, z, rfl, rfl, rfl, rfl, rfl, by omega, by omega, by omega, by omega, Z1, Z2, Z7, Z8, Z4, Z3, Z5⟩
                case measure => simp [intOf]; omega
              · have dlr : decide ((lL : Int) < (lR : Int)) = false := decide_eq_false (by omega)
                have dlr' : decide (lL < lR) = false := decide_eq_false hlr
                have HUr := hid (show Under mm b' yp from .inr fun i h3 h4 => by
                  rw [show mm - 1 = mid by omega]
                  exact M7.out i (by omega) h4)
                go_wp2_with fail
                refine (IH.out yp mm b' l' w4 (by omega) M3.out M4.out (by omega) (by omega) (by omega) (HD2.out.part (by omega) (Nat.le_refl _)) HUr.out).mono ?_
                rintro _ w5 ⟨⟨v5, rfl⟩, z, z1, z2, z3, z4, z5⟩
                rw [← HMM.out] at z3 z4
                have Z := HR1.out.left m1 m2 (by rw [HN1.out]; omega) M5.out M6.out M7.out z3 z4
                have Z1 := hid z1; have Z2 := hid z2; have Z3 := hid Z.1
                have Z5 := hid (M8.out.trans z5)
                have Z7 := hid (Go.Sort.permIn_trans d y1 z a b HP1.out (Go.Sort.permIn_mono y1 z a' b' a b (by omega) (by omega) (by rw [HN1.out]; omega) Z.2))
                have Z8 := hid ((HD1.out.perm (by rw [HN1.out]; omega) Z.2).part (a' := a') (b' := mid) (Nat.le_refl _) (by omega))
                have Z4 := hid ((HU1.out.perm (by rw [HN1.out]; omega) Z.2).part (b' := mid) (by omega))
                clear z1 z2 z3 z4 z5 Z M3 M4 M5 M6 M7 M8 HD2 HU2 HUr
                go_wp2_with fail
                go_roundw
                case rel => exact ⟨a', mid, l', _, q, z, rfl, rfl, rfl, rfl, rfl, by omega, by omega, by omega, by omega, Z1, Z2, Z7, Z8, Z4, Z3, Z5⟩
                case measure => simp [intOf]; omega
            · have da : decide ((0 : Int) < (a' : Int)) = true := decide_eq_true (by omega)
              have da' : decide (0 < a') = true := decide_eq_true (by omega)
              obtain ⟨m, hm⟩ : ∃ m, a' = m + 1 := ⟨a' - 1, by omega⟩
              have em : (a' : Int) - 1 = (m : Int) := by omega
              have wm : IntKind.i64.wrap (m : Int) = (m : Int) := IntWalk.i64_in _ (by omega)
              have bm : (m : Int) < (n : Int) := by omega
              have cm := Hy.out.cell (k := m) (by rw [HN1.out]; omega)
              have cp := Hy.out.cell (k := p) (by rw [HN1.out]; omega)
              obtain ⟨xm, exm⟩ : ∃ x, y1[m]! = x := ⟨_, rfl⟩
              obtain ⟨xp, exp⟩ : ∃ x, y1[p]! = x := ⟨_, rfl⟩
              have dx : decide (xm < xp) = true := decide_eq_true (by
                rcases HU1.out with h | h
                · omega
                · have := h p hp1 hp2
                  rw [show a' - 1 = m by omega, exm, exp] at this
                  exact this)
              rw [exm] at cm; rw [exp] at cp
              clear exm exp hm
              go_wp2_with fail
              go_quiet ((go_at_call 130; first | exact quiet_l (less64_any _ _ _) | exact quiet_add_l (less64_any _ _ _)))
              go_wp2_with fail
              clear cm cp
              refine (pdPart_n g cap t y1 rest a' b' p n _ (Hy.out.drewN _) HN1.out hp1 hp2 (by omega) (by omega) (by omega) HD1.out).mono ?_
              rintro _ w4 ⟨mid, q, yp, rfl, m1, m2, m3, m4, m5, m6, m7, m8⟩
              have M3 := hid m3; have M4 := hid m4; have M5 := hid m5; have M6 := hid m6; have M7 := hid m7
              have M8 := hid ((drewN_grown Hg.out _).trans m8)
              have HD2 := hid (HD1.out.perm (by rw [HN1.out]; omega) m5)
              have HU2 := hid (HU1.out.perm (by rw [HN1.out]; omega) m5)
              clear m3 m4 m5 m6 m7 m8 Hy Hg
              obtain ⟨lL, hlL⟩ : ∃ x, mid - a' = x := ⟨_, rfl⟩
              have elL : (mid : Int) - (a' : Int) = (lL : Int) := by omega
              obtain ⟨lR, hlR⟩ : ∃ x, b' - mid = x := ⟨_, rfl⟩
              have elR : (b' : Int) - (mid : Int) = (lR : Int) := by omega
              obtain ⟨mm, hmm⟩ : ∃ x, mid + 1 = x := ⟨_, rfl⟩
              have emm : (mid : Int) + 1 = (mm : Int) := by omega
              have wmm : IntKind.i64.wrap (mm : Int) = (mm : Int) := IntWalk.i64_in _ (by omega)
              have HMM := hid hmm
              have hsum : (lL + lR ≤ l ∧ l ≤ lL + lR) ∧ (mid ≤ a' + lL ∧ a' + lL ≤ mid) ∧ (b' ≤ mid + lR ∧ mid + lR ≤ b') ∧ (mm ≤ mid + 1 ∧ mid + 1 ≤ mm) := by omega
              clear hlL hlR hmm
              by_cases hlr : lL < lR
              · have dlr : decide ((lL : Int) < (lR : Int)) = true := decide_eq_true (by omega)
                have dlr' : decide (lL < lR) = true := decide_eq_true hlr
                go_wp2_with fail
                refine (IH.out yp a' mid l' w4 (by omega) M3.out M4.out (by omega) (by omega) (by omega) (HD2.out.part (Nat.le_refl _) (by omega)) (HU2.out.part (by omega))).mono ?_
                rintro _ w5 ⟨⟨v5, rfl⟩, z, z1, z2, z3, z4, z5⟩
                have Z := HR1.out.right m1 m2 (by rw [HN1.out]; omega) M5.out M6.out M7.out z3 z4
                rw [HMM.out] at Z
                have Z1 := hid z1; have Z2 := hid z2; have Z3 := hid Z.1; have Z4 := hid Z.2.1; have Z6 := hid Z.2.2
                have Z5 := hid (M8.out.trans z5)
                have Z7 := hid (Go.Sort.permIn_trans d y1 z a b HP1.out (Go.Sort.permIn_mono y1 z a' b' a b (by omega) (by omega) (by rw [HN1.out]; omega) Z.2.2))
                have Z8 := hid ((HD1.out.perm (by rw [HN1.out]; omega) Z.2.2).part (a' := mm) (b' := b') (by omega) (Nat.le_refl _))
                clear z1 z2 z3 z4 z5 Z M3 M4 M5 M6 M7 M8 HD2 HU2
                go_wp2_with fail
                go_roundw
                case rel => exact ⟨mm, b', l', _, q, z, rfl, rfl, rfl, rfl, rfl, by omega, by omega, by omega, by omega, Z1, Z2, Z7, Z8, Z4, Z3, Z5⟩
                case measure => simp [intOf]; omega
              · have dlr : decide ((lL : Int) < (lR : Int)) = false := decide_eq_false (by omega)
                have dlr' : decide (lL < lR) = false := decide_eq_false hlr
                have HUr := hid (show Under mm b' yp from .inr fun i h3 h4 => by
                  rw [show mm - 1 = mid by omega]
                  exact M7.out i (by omega) h4)
                go_wp2_with fail
                refine (IH.out yp mm b' l' w4 (by omega) M3.out M4.out (by omega) (by omega) (by omega) (HD2.out.part (by omega) (Nat.le_refl _)) HUr.out).mono ?_
                rintro _ w5 ⟨⟨v5, rfl⟩, z, z1, z2, z3, z4, z5⟩
                rw [← HMM.out] at z3 z4
                have Z := HR1.out.left m1 m2 (by rw [HN1.out]; omega) M5.out M6.out M7.out z3 z4
                have Z1 := hid z1; have Z2 := hid z2; have Z3 := hid Z.1
                have Z5 := hid (M8.out.trans z5)
                have Z7 := hid (Go.Sort.permIn_trans d y1 z a b HP1.out (Go.Sort.permIn_mono y1 z a' b' a b (by omega) (by omega) (by rw [HN1.out]; omega) Z.2))
                have Z8 := hid ((HD1.out.perm (by rw [HN1.out]; omega) Z.2).part (a' := a') (b' := mid) (Nat.le_refl _) (by omega))
                have Z4 := hid ((HU1.out.perm (by rw [HN1.out]; omega) Z.2).part (b' := mid) (by omega))
                clear z1 z2 z3 z4 z5 Z M3 M4 M5 M6 M7 M8 HD2 HU2 HUr
                go_wp2_with fail
                go_roundw
                case rel => exact ⟨a', mid, l', _, q, z, rfl, rfl, rfl, rfl, rfl, by omega, by omega, by omega, by omega, Z1, Z2, Z7, Z8, Z4, Z3, Z5⟩
                case measure => simp [intOf]; omega
          | true =>
            rcases hh with rfl | rfl
            · skip
              by_cases ha0 : ¬ 0 < a'
              · have da : decide ((0 : Int) < (a' : Int)) = false := decide_eq_false (by omega)
                have da' : decide (0 < a') = false := decide_eq_false (by omega)
                go_wp2_with fail
                go_quiet (fail)
                go_wp2_with fail
                refine (pdPart_n g cap t y1 rest a' b' p n _ (Hy.out.drewN _) HN1.out hp1 hp2 (by omega) (by omega) (by omega) HD1.out).mono ?_
                rintro _ w4 ⟨mid, q, yp, rfl, m1, m2, m3, m4, m5, m6, m7, m8⟩
                have M3 := hid m3; have M4 := hid m4; have M5 := hid m5; have M6 := hid m6; have M7 := hid m7
                have M8 := hid ((drewN_grown Hg.out _).trans m8)
                have HD2 := hid (HD1.out.perm (by rw [HN1.out]; omega) m5)
                have HU2 := hid (HU1.out.perm (by rw [HN1.out]; omega) m5)
                clear m3 m4 m5 m6 m7 m8 Hy Hg
                obtain ⟨lL, hlL⟩ : ∃ x, mid - a' = x := ⟨_, rfl⟩
                have elL : (mid : Int) - (a' : Int) = (lL : Int) := by omega
                obtain ⟨lR, hlR⟩ : ∃ x, b' - mid = x := ⟨_, rfl⟩
                have elR : (b' : Int) - (mid : Int) = (lR : Int) := by omega
                obtain ⟨mm, hmm⟩ : ∃ x, mid + 1 = x := ⟨_, rfl⟩
                have emm : (mid : Int) + 1 = (mm : Int) := by omega
                have wmm : IntKind.i64.wrap (mm : Int) = (mm : Int) := IntWalk.i64_in _ (by omega)
                have HMM := hid hmm
                have hsum : (lL + lR ≤ l ∧ l ≤ lL + lR) ∧ (mid ≤ a' + lL ∧ a' + lL ≤ mid) ∧ (b' ≤ mid + lR ∧ mid + lR ≤ b') ∧ (mm ≤ mid + 1 ∧ mid + 1 ≤ mm) := by omega
                clear hlL hlR hmm
                by_cases hlr : lL < lR
                · have dlr : decide ((lL : Int) < (lR : Int)) = true := decide_eq_true (by omega)
                  have dlr' : decide (lL < lR) = true := decide_eq_true hlr
                  go_wp2_with fail
                  refine (IH.out yp a' mid l' w4 (by omega) M3.out M4.out (by omega) (by omega) (by omega) (HD2.out.part (Nat.le_refl _) (by omega)) (HU2.out.part (by omega))).mono ?_
                  rintro _ w5 ⟨⟨v5, rfl⟩, z, z1, z2, z3, z4, z5⟩
                  have Z := HR1.out.right m1 m2 (by rw [HN1.out]; omega) M5.out M6.out M7.out z3 z4
                  rw [HMM.out] at Z
                  have Z1 := hid z1; have Z2 := hid z2; have Z3 := hid Z.1; have Z4 := hid Z.2.1; have Z6 := hid Z.2.2
                  have Z5 := hid (M8.out.trans z5)
                  have Z7 := hid (Go.Sort.permIn_trans d y1 z a b HP1.out (Go.Sort.permIn_mono y1 z a' b' a b (by omega) (by omega) (by rw [HN1.out]; omega) Z.2.2))
                  have Z8 := hid ((HD1.out.perm (by rw [HN1.out]; omega) Z.2.2).part (a' := mm) (b' := b') (by omega) (Nat.le_refl _))
                  clear z1 z2 z3 z4 z5 Z M3 M4 M5 M6 M7 M8 HD2 HU2
                  go_wp2_with fail
                  go_roundw
                  case rel => exact ⟨mm, b', l', _, q, z, rfl, rfl, rfl, rfl, rfl, by omega, by omega, by omega, by omega, Z1, Z2, Z7, Z8, Z4, Z3, Z5⟩
                  case measure => simp [intOf]; omega
                · have dlr : decide ((lL : Int) < (lR : Int)) = false := decide_eq_false (by omega)
                  have dlr' : decide (lL < lR) = false := decide_eq_false hlr
                  have HUr := hid (show Under mm b' yp from .inr fun i h3 h4 => by
                    rw [show mm - 1 = mid by omega]
                    exact M7.out i (by omega) h4)
                  go_wp2_with fail
                  refine (IH.out yp mm b' l' w4 (by omega) M3.out M4.out (by omega) (by omega) (by omega) (HD2.out.part (by omega) (Nat.le_refl _)) HUr.out).mono ?_
                  rintro _ w5 ⟨⟨v5, rfl⟩, z, z1, z2, z3, z4, z5⟩
                  rw [← HMM.out] at z3 z4
                  have Z := HR1.out.left m1 m2 (by rw [HN1.out]; omega) M5.out M6.out M7.out z3 z4
                  have Z1 := hid z1; have Z2 := hid z2; have Z3 := hid Z.1
                  have Z5 := hid (M8.out.trans z5)
                  have Z7 := hid (Go.Sort.permIn_trans d y1 z a b HP1.out (Go.Sort.permIn_mono y1 z a' b' a b (by omega) (by omega) (by rw [HN1.out]; omega) Z.2))
                  have Z8 := hid ((HD1.out.perm (by rw [HN1.out]; omega) Z.2).part (a' := a') (b' := mid) (Nat.le_refl _) (by omega))
                  have Z4 := hid ((HU1.out.perm (by rw [HN1.out]; omega) Z.2).part (b' := mid) (by omega))
                  clear z1 z2 z3 z4 z5 Z M3 M4 M5 M6 M7 M8 HD2 HU2 HUr
                  go_wp2_with fail
                  go_roundw
                  case rel => exact ⟨a', mid, l', _, q, z, rfl, rfl, rfl, rfl, rfl, by omega, by omega, by omega, by omega, Z1, Z2, Z7, Z8, Z4, Z3, Z5⟩
                  case measure => simp [intOf]; omega
              · have da : decide ((0 : Int) < (a' : Int)) = true := decide_eq_true (by omega)
                have da' : decide (0 < a') = true := decide_eq_true (by omega)
                obtain ⟨m, hm⟩ : ∃ m, a' = m + 1 := ⟨a' - 1, by omega⟩
                have em : (a' : Int) - 1 = (m : Int) := by omega
                have wm : IntKind.i64.wrap (m : Int) = (m : Int) := IntWalk.i64_in _ (by omega)
                have bm : (m : Int) < (n : Int) := by omega
                have cm := Hy.out.cell (k := m) (by rw [HN1.out]; omega)
                have cp := Hy.out.cell (k := p) (by rw [HN1.out]; omega)
                obtain ⟨xm, exm⟩ : ∃ x, y1[m]! = x := ⟨_, rfl⟩
                obtain ⟨xp, exp⟩ : ∃ x, y1[p]! = x := ⟨_, rfl⟩
                have dx : decide (xm < xp) = true := decide_eq_true (by
                  rcases HU1.out with h | h
                  · omega
                  · have := h p hp1 hp2
                    rw [show a' - 1 = m by omega, exm, exp] at this
                    exact this)
                rw [exm] at cm; rw [exp] at cp
                clear exm exp hm
                go_wp2_with fail
                go_quiet ((go_at_call 130; first | exact quiet_l (less64_any _ _ _) | exact quiet_add_l (less64_any _ _ _)))
                go_wp2_with fail
                clear cm cp
                refine (pdPart_n g cap t y1 rest a' b' p n _ (Hy.out.drewN _) HN1.out hp1 hp2 (by omega) (by omega) (by omega) HD1.out).mono ?_
                rintro _ w4 ⟨mid, q, yp, rfl, m1, m2, m3, m4, m5, m6, m7, m8⟩
                have M3 := hid m3; have M4 := hid m4; have M5 := hid m5; have M6 := hid m6; have M7 := hid m7
                have M8 := hid ((drewN_grown Hg.out _).trans m8)
                have HD2 := hid (HD1.out.perm (by rw [HN1.out]; omega) m5)
                have HU2 := hid (HU1.out.perm (by rw [HN1.out]; omega) m5)
                clear m3 m4 m5 m6 m7 m8 Hy Hg
                obtain ⟨lL, hlL⟩ : ∃ x, mid - a' = x := ⟨_, rfl⟩
                have elL : (mid : Int) - (a' : Int) = (lL : Int) := by omega
                obtain ⟨lR, hlR⟩ : ∃ x, b' - mid = x := ⟨_, rfl⟩
                have elR : (b' : Int) - (mid : Int) = (lR : Int) := by omega
                obtain ⟨mm, hmm⟩ : ∃ x, mid + 1 = x := ⟨_, rfl⟩
                have emm : (mid : Int) + 1 = (mm : Int) := by omega
                have wmm : IntKind.i64.wrap (mm : Int) = (mm : Int) := IntWalk.i64_in _ (by omega)
                have HMM := hid hmm
                have hsum : (lL + lR ≤ l ∧ l ≤ lL + lR) ∧ (mid ≤ a' + lL ∧ a' + lL ≤ mid) ∧ (b' ≤ mid + lR ∧ mid + lR ≤ b') ∧ (mm ≤ mid + 1 ∧ mid + 1 ≤ mm) := by omega
                clear hlL hlR hmm
                by_cases hlr : lL < lR
                · have dlr : decide ((lL : Int) < (lR : Int)) = true := decide_eq_true (by omega)
                  have dlr' : decide (lL < lR) = true := decide_eq_true hlr
                  go_wp2_with fail
                  refine (IH.out yp a' mid l' w4 (by omega) M3.out M4.out (by omega) (by omega) (by omega) (HD2.out.part (Nat.le_refl _) (by omega)) (HU2.out.part (by omega))).mono ?_
                  rintro _ w5 ⟨⟨v5, rfl⟩, z, z1, z2, z3, z4, z5⟩
                  have Z := HR1.out.right m1 m2 (by rw [HN1.out]; omega) M5.out M6.out M7.out z3 z4
                  rw [HMM.out] at Z
                  have Z1 := hid z1; have Z2 := hid z2; have Z3 := hid Z.1; have Z4 := hid Z.2.1; have Z6 := hid Z.2.2
                  have Z5 := hid (M8.out.trans z5)
                  have Z7 := hid (Go.Sort.permIn_trans d y1 z a b HP1.out (Go.Sort.permIn_mono y1 z a' b' a b (by omega) (by omega) (by rw [HN1.out]; omega) Z.2.2))
                  have Z8 := hid ((HD1.out.perm (by rw [HN1.out]; omega) Z.2.2).part (a' := mm) (b' := b') (by omega) (Nat.le_refl _))
                  clear z1 z2 z3 z4 z5 Z M3 M4 M5 M6 M7 M8 HD2 HU2
                  go_wp2_with fail
                  go_roundw
                  case rel => exact ⟨mm, b', l', _, q, z, rfl, rfl, rfl, rfl, rfl, by omega, by omega, by omega, by omega, Z1, Z2, Z7, Z8, Z4, Z3, Z5⟩
                  case measure => simp [intOf]; omega
                · have dlr : decide ((lL : Int) < (lR : Int)) = false := decide_eq_false (by omega)
                  have dlr' : decide (lL < lR) = false := decide_eq_false hlr
                  have HUr := hid (show Under mm b' yp from .inr fun i h3 h4 => by
                    rw [show mm - 1 = mid by omega]
                    exact M7.out i (by omega) h4)
                  go_wp2_with fail
                  refine (IH.out yp mm b' l' w4 (by omega) M3.out M4.out (by omega) (by omega) (by omega) (HD2.out.part (by omega) (Nat.le_refl _)) HUr.out).mono ?_
                  rintro _ w5 ⟨⟨v5, rfl⟩, z, z1, z2, z3, z4, z5⟩
                  rw [← HMM.out] at z3 z4
                  have Z := HR1.out.left m1 m2 (by rw [HN1.out]; omega) M5.out M6.out M7.out z3 z4
                  have Z1 := hid z1; have Z2 := hid z2; have Z3 := hid Z.1
                  have Z5 := hid (M8.out.trans z5)
                  have Z7 := hid (Go.Sort.permIn_trans d y1 z a b HP1.out (Go.Sort.permIn_mono y1 z a' b' a b (by omega) (by omega) (by rw [HN1.out]; omega) Z.2))
                  have Z8 := hid ((HD1.out.perm (by rw [HN1.out]; omega) Z.2).part (a' := a') (b' := mid) (Nat.le_refl _) (by omega))
                  have Z4 := hid ((HU1.out.perm (by rw [HN1.out]; omega) Z.2).part (b' := mid) (by omega))
                  clear z1 z2 z3 z4 z5 Z M3 M4 M5 M6 M7 M8 HD2 HU2 HUr
                  go_wp2_with fail
                  go_roundw
                  case rel => exact ⟨a', mid, l', _, q, z, rfl, rfl, rfl, rfl, rfl, by omega, by omega, by omega, by omega, Z1, Z2, Z7, Z8, Z4, Z3, Z5⟩
                  case measure => simp [intOf]; omega
            · go_wp2_with fail
              refine (pdPartial_n g cap t y1 rest a' b' n _ Hy.out HN1.out (by omega) (by omega) (by omega) (by omega)).mono ?_
              rintro _ w6 ⟨r, rfl, hr, z1, z5⟩
              have YG := hid (Hg.out.trans z5)
              clear Hy Hg z5
              have Hy := hid z1
              have Hg := hid YG.out
              clear z1 YG
              cases r with
              | true =>
                have Z4 := hid (hr rfl)
                clear hr
                go_wp2_with fail
                (try simp only [Exit.inBlock, Exit.then])
                refine bodyPost_ret (results_none rfl _ _ _) rfl ?_
                exact ⟨⟨_, rfl⟩, y1, Hy.out, HN1.out, HP1.out, HR1.out y1 (Go.Sort.permIn_refl _ _ _) Z4.out, Hg.out⟩
              | false =>
                clear hr
                by_cases ha0 : ¬ 0 < a'
                · have da : decide ((0 : Int) < (a' : Int)) = false := decide_eq_false (by omega)
                  have da' : decide (0 < a') = false := decide_eq_false (by omega)
                  go_wp2_with fail
                  go_quiet (fail)
                  go_wp2_with fail
                  refine (pdPart_n g cap t y1 rest a' b' p n _ (Hy.out.drewN _) HN1.out hp1 hp2 (by omega) (by omega) (by omega) HD1.out).mono ?_
                  rintro _ w4 ⟨mid, q, yp, rfl, m1, m2, m3, m4, m5, m6, m7, m8⟩
                  have M3 := hid m3; have M4 := hid m4; have M5 := hid m5; have M6 := hid m6; have M7 := hid m7
                  have M8 := hid ((drewN_grown Hg.out _).trans m8)
                  have HD2 := hid (HD1.out.perm (by rw [HN1.out]; omega) m5)
                  have HU2 := hid (HU1.out.perm (by rw [HN1.out]; omega) m5)
                  clear m3 m4 m5 m6 m7 m8 Hy Hg
                  obtain ⟨lL, hlL⟩ : ∃ x, mid - a' = x := ⟨_, rfl⟩
                  have elL : (mid : Int) - (a' : Int) = (lL : Int) := by omega
                  obtain ⟨lR, hlR⟩ : ∃ x, b' - mid = x := ⟨_, rfl⟩
                  have elR : (b' : Int) - (mid : Int) = (lR : Int) := by omega
                  obtain ⟨mm, hmm⟩ : ∃ x, mid + 1 = x := ⟨_, rfl⟩
                  have emm : (mid : Int) + 1 = (mm : Int) := by omega
                  have wmm : IntKind.i64.wrap (mm : Int) = (mm : Int) := IntWalk.i64_in _ (by omega)
                  have HMM := hid hmm
                  have hsum : (lL + lR ≤ l ∧ l ≤ lL + lR) ∧ (mid ≤ a' + lL ∧ a' + lL ≤ mid) ∧ (b' ≤ mid + lR ∧ mid + lR ≤ b') ∧ (mm ≤ mid + 1 ∧ mid + 1 ≤ mm) := by omega
                  clear hlL hlR hmm
                  by_cases hlr : lL < lR
                  · have dlr : decide ((lL : Int) < (lR : Int)) = true := decide_eq_true (by omega)
                    have dlr' : decide (lL < lR) = true := decide_eq_true hlr
                    go_wp2_with fail
                    refine (IH.out yp a' mid l' w4 (by omega) M3.out M4.out (by omega) (by omega) (by omega) (HD2.out.part (Nat.le_refl _) (by omega)) (HU2.out.part (by omega))).mono ?_
                    rintro _ w5 ⟨⟨v5, rfl⟩, z, z1, z2, z3, z4, z5⟩
                    have Z := HR1.out.right m1 m2 (by rw [HN1.out]; omega) M5.out M6.out M7.out z3 z4
                    rw [HMM.out] at Z
                    have Z1 := hid z1; have Z2 := hid z2; have Z3 := hid Z.1; have Z4 := hid Z.2.1; have Z6 := hid Z.2.2
                    have Z5 := hid (M8.out.trans z5)
                    have Z7 := hid (Go.Sort.permIn_trans d y1 z a b HP1.out (Go.Sort.permIn_mono y1 z a' b' a b (by omega) (by omega) (by rw [HN1.out]; omega) Z.2.2))
                    have Z8 := hid ((HD1.out.perm (by rw [HN1.out]; omega) Z.2.2).part (a' := mm) (b' := b') (by omega) (Nat.le_refl _))
                    clear z1 z2 z3 z4 z5 Z M3 M4 M5 M6 M7 M8 HD2 HU2
                    go_wp2_with fail
                    go_roundw
                    case rel => exact ⟨mm, b', l', _, q, z, rfl, rfl, rfl, rfl, rfl, by omega, by omega, by omega, by omega, Z1, Z2, Z7, Z8, Z4, Z3, Z5⟩
                    case measure => simp [intOf]; omega
                  · have dlr : decide ((lL : Int) < (lR : Int)) = false := decide_eq_false (by omega)
                    have dlr' : decide (lL < lR) = false := decide_eq_false hlr
                    have HUr := hid (show Under mm b' yp from .inr fun i h3 h4 => by
                      rw [show mm - 1 = mid by omega]
                      exact M7.out i (by omega) h4)
                    go_wp2_with fail
                    refine (IH.out yp mm b' l' w4 (by omega) M3.out M4.out (by omega) (by omega) (by omega) (HD2.out.part (by omega) (Nat.le_refl _)) HUr.out).mono ?_
                    rintro _ w5 ⟨⟨v5, rfl⟩, z, z1, z2, z3, z4, z5⟩
                    rw [← HMM.out] at z3 z4
                    have Z := HR1.out.left m1 m2 (by rw [HN1.out]; omega) M5.out M6.out M7.out z3 z4
                    have Z1 := hid z1; have Z2 := hid z2; have Z3 := hid Z.1
                    have Z5 := hid (M8.out.trans z5)
                    have Z7 := hid (Go.Sort.permIn_trans d y1 z a b HP1.out (Go.Sort.permIn_mono y1 z a' b' a b (by omega) (by omega) (by rw [HN1.out]; omega) Z.2))
                    have Z8 := hid ((HD1.out.perm (by rw [HN1.out]; omega) Z.2).part (a' := a') (b' := mid) (Nat.le_refl _) (by omega))
                    have Z4 := hid ((HU1.out.perm (by rw [HN1.out]; omega) Z.2).part (b' := mid) (by omega))
                    clear z1 z2 z3 z4 z5 Z M3 M4 M5 M6 M7 M8 HD2 HU2 HUr
                    go_wp2_with fail
                    go_roundw
                    case rel => exact ⟨a', mid, l', _, q, z, rfl, rfl, rfl, rfl, rfl, by omega, by omega, by omega, by omega, Z1, Z2, Z7, Z8, Z4, Z3, Z5⟩
                    case measure => simp [intOf]; omega
                · have da : decide ((0 : Int) < (a' : Int)) = true := decide_eq_true (by omega)
                  have da' : decide (0 < a') = true := decide_eq_true (by omega)
                  obtain ⟨m, hm⟩ : ∃ m, a' = m + 1 := ⟨a' - 1, by omega⟩
                  have em : (a' : Int) - 1 = (m : Int) := by omega
                  have wm : IntKind.i64.wrap (m : Int) = (m : Int) := IntWalk.i64_in _ (by omega)
                  have bm : (m : Int) < (n : Int) := by omega
                  have cm := Hy.out.cell (k := m) (by rw [HN1.out]; omega)
                  have cp := Hy.out.cell (k := p) (by rw [HN1.out]; omega)
                  obtain ⟨xm, exm⟩ : ∃ x, y1[m]! = x := ⟨_, rfl⟩
                  obtain ⟨xp, exp⟩ : ∃ x, y1[p]! = x := ⟨_, rfl⟩
                  have dx : decide (xm < xp) = true := decide_eq_true (by
                    rcases HU1.out with h | h
                    · omega
                    · have := h p hp1 hp2
                      rw [show a' - 1 = m by omega, exm, exp] at this
                      exact this)
                  rw [exm] at cm; rw [exp] at cp
                  clear exm exp hm
                  go_wp2_with fail
                  go_quiet ((go_at_call 130; first | exact quiet_l (less64_any _ _ _) | exact quiet_add_l (less64_any _ _ _)))
                  go_wp2_with fail
                  clear cm cp
                  refine (pdPart_n g cap t y1 rest a' b' p n _ (Hy.out.drewN _) HN1.out hp1 hp2 (by omega) (by omega) (by omega) HD1.out).mono ?_
                  rintro _ w4 ⟨mid, q, yp, rfl, m1, m2, m3, m4, m5, m6, m7, m8⟩
                  have M3 := hid m3; have M4 := hid m4; have M5 := hid m5; have M6 := hid m6; have M7 := hid m7
                  have M8 := hid ((drewN_grown Hg.out _).trans m8)
                  have HD2 := hid (HD1.out.perm (by rw [HN1.out]; omega) m5)
                  have HU2 := hid (HU1.out.perm (by rw [HN1.out]; omega) m5)
                  clear m3 m4 m5 m6 m7 m8 Hy Hg
                  obtain ⟨lL, hlL⟩ : ∃ x, mid - a' = x := ⟨_, rfl⟩
                  have elL : (mid : Int) - (a' : Int) = (lL : Int) := by omega
                  obtain ⟨lR, hlR⟩ : ∃ x, b' - mid = x := ⟨_, rfl⟩
                  have elR : (b' : Int) - (mid : Int) = (lR : Int) := by omega
                  obtain ⟨mm, hmm⟩ : ∃ x, mid + 1 = x := ⟨_, rfl⟩
                  have emm : (mid : Int) + 1 = (mm : Int) := by omega
                  have wmm : IntKind.i64.wrap (mm : Int) = (mm : Int) := IntWalk.i64_in _ (by omega)
                  have HMM := hid hmm
                  have hsum : (lL + lR ≤ l ∧ l ≤ lL + lR) ∧ (mid ≤ a' + lL ∧ a' + lL ≤ mid) ∧ (b' ≤ mid + lR ∧ mid + lR ≤ b') ∧ (mm ≤ mid + 1 ∧ mid + 1 ≤ mm) := by omega
                  clear hlL hlR hmm
                  by_cases hlr : lL < lR
                  · have dlr : decide ((lL : Int) < (lR : Int)) = true := decide_eq_true (by omega)
                    have dlr' : decide (lL < lR) = true := decide_eq_true hlr
                    go_wp2_with fail
                    refine (IH.out yp a' mid l' w4 (by omega) M3.out M4.out (by omega) (by omega) (by omega) (HD2.out.part (Nat.le_refl _) (by omega)) (HU2.out.part (by omega))).mono ?_
                    rintro _ w5 ⟨⟨v5, rfl⟩, z, z1, z2, z3, z4, z5⟩
                    have Z := HR1.out.right m1 m2 (by rw [HN1.out]; omega) M5.out M6.out M7.out z3 z4
                    rw [HMM.out] at Z
                    have Z1 := hid z1; have Z2 := hid z2; have Z3 := hid Z.1; have Z4 := hid Z.2.1; have Z6 := hid Z.2.2
                    have Z5 := hid (M8.out.trans z5)
                    have Z7 := hid (Go.Sort.permIn_trans d y1 z a b HP1.out (Go.Sort.permIn_mono y1 z a' b' a b (by omega) (by omega) (by rw [HN1.out]; omega) Z.2.2))
                    have Z8 := hid ((HD1.out.perm (by rw [HN1.out]; omega) Z.2.2).part (a' := mm) (b' := b') (by omega) (Nat.le_refl _))
                    clear z1 z2 z3 z4 z5 Z M3 M4 M5 M6 M7 M8 HD2 HU2
                    go_wp2_with fail
                    go_roundw
                    case rel => exact ⟨mm, b', l', _, q, z, rfl, rfl, rfl, rfl, rfl, by omega, by omega, by omega, by omega, Z1, Z2, Z7, Z8, Z4, Z3, Z5⟩
                    case measure => simp [intOf]; omega
                  · have dlr : decide ((lL : Int) < (lR : Int)) = false := decide_eq_false (by omega)
                    have dlr' : decide (lL < lR) = false := decide_eq_false hlr
                    have HUr := hid (show Under mm b' yp from .inr fun i h3 h4 => by
                      rw [show mm - 1 = mid by omega]
                      exact M7.out i (by omega) h4)
                    go_wp2_with fail
                    refine (IH.out yp mm b' l' w4 (by omega) M3.out M4.out (by omega) (by omega) (by omega) (HD2.out.part (by omega) (Nat.le_refl _)) HUr.out).mono ?_
                    rintro _ w5 ⟨⟨v5, rfl⟩, z, z1, z2, z3, z4, z5⟩
                    rw [← HMM.out] at z3 z4
                    have Z := HR1.out.left m1 m2 (by rw [HN1.out]; omega) M5.out M6.out M7.out z3 z4
                    have Z1 := hid z1; have Z2 := hid z2; have Z3 := hid Z.1
                    have Z5 := hid (M8.out.trans z5)
                    have Z7 := hid (Go.Sort.permIn_trans d y1 z a b HP1.out (Go.Sort.permIn_mono y1 z a' b' a b (by omega) (by omega) (by rw [HN1.out]; omega) Z.2))
                    have Z8 := hid ((HD1.out.perm (by rw [HN1.out]; omega) Z.2).part (a' := a') (b' := mid) (Nat.le_refl _) (by omega))
                    have Z4 := hid ((HU1.out.perm (by rw [HN1.out]; omega) Z.2).part (b' := mid) (by omega))
                    clear z1 z2 z3 z4 z5 Z M3 M4 M5 M6 M7 M8 HD2 HU2 HUr
                    go_wp2_with fail
                    go_roundw
                    case rel => exact ⟨a', mid, l', _, q, z, rfl, rfl, rfl, rfl, rfl, by omega, by omega, by omega, by omega, Z1, Z2, Z7, Z8, Z4, Z3, Z5⟩
                    case measure => simp [intOf]; omega
end Go.Proofs.YthomeenmcajmdaaGreatDoor
namespace Go.Proofs.YthomeenmcajmdaaGreatDoor
open Go.RowKit
theorem NumBlk.ab {w : World} {g : Nat} {t : TypeId} {zs : List Int} {rest : List Value} (h : NumBlk w g t zs rest) : AB w g t zs.toArray rest := h
theorem AB.num {w : World} {g : Nat} {t : TypeId} {d : Array Int} {rest : List Value} (h : AB w g t d rest) : NumBlk w g t d.toList rest := h
set_option maxHeartbeats 400000 in
theorem sort_big (g cap : Nat) (t : TypeId) (xs : List Int) (rest : List Value) (w : World) (hb : NumBlk w g t xs rest) (hl : xs.length < 50) (hd : xs.Nodup) :
    Calls Tryz.prog 76 #[.slice (some ⟨g, 0, none⟩) xs.length cap] w
      fun e w' => (∃ v, e = .returned v) ∧ ∃ zs, NumBlk w' g t zs rest ∧ zs.Perm xs ∧ zs.Pairwise (· ≤ ·) ∧ w.grownBy w' (some g) := by
  have HB := hid hb.ab; clear hb
  obtain ⟨n, hn⟩ : ∃ n, xs.length = n := ⟨_, rfl⟩
  have hsz : xs.toArray.size = n := by simpa using hn
  have hdi : DistIn 0 n xs.toArray := (distIn_iff (by omega)).2 (by
    rw [← hsz]
    simpa using hd)
  have hbl : bitLen n ≤ 64 := by
    have := bitLen_le64 (n : Int) (by omega) (by omega)
    simpa using this
  have HN := hid hn
  rw [hn] at hl ⊢
  have H := hid (fun w' (h : AB w' g t xs.toArray rest) => pdPdq g cap n t rest (n + 1) xs.toArray 0 n (bitLen n) w' (by omega) h hsz (by omega) (Nat.le_refl _) hl hbl hdi (.inl rfl))
  clear hn hsz hdi
  go_enter Tryz.func76, Tryz.ntmps76
  go_wp2_with fail
  refine (bitsLen_any _ _ (by omega) (by omega)).mono ?_; rintro _ w1 ⟨rfl, rfl⟩
  go_wp2_with fail
  refine (H.out _ HB.out).mono ?_; rintro _ w1 ⟨⟨v, rfl⟩, y, h1, h2, h3, h4, h5⟩
  have H1 := hid h1; have H2 := hid h2; have H3 := hid h3; have H4 := hid h4; have H5 := hid h5
  clear h1 h2 h3 h4 h5
  go_wp2_with fail
  go_end0
  have hsx : xs.toArray.size = n := by simpa using HN.out
  refine ⟨⟨_, rfl⟩, y.toList, H1.out.num, ?_, ?_, H5.out⟩
  · have := H3.out.2.2
    rw [← hsx, show (xs.toArray.extract 0 xs.toArray.size) = xs.toArray by simp, show (y.extract 0 xs.toArray.size) = y by rw [hsx, ← H2.out]; simp] at this
    simpa using this
  · rw [List.pairwise_iff_getElem]
    intro i j hi hj hij
    have hj' : j < y.size := by simpa using hj
    have := lt_int_not.1 (H4.out i j (Nat.zero_le _) hij (by rw [← H2.out]; exact hj'))
    simpa [hj', show i < y.size by omega] using this
end Go.Proofs.YthomeenmcajmdaaGreatDoor
