/- What prime.Small answers, and Build of a number that is none. -/
import Derived.Test.YtncidpckokclbaaDoorBuilds
import Derived.Test.YtncidpckokclbaaDoorShows
namespace Go.Proofs.YtncidpckokclbaaDoor
open Go.RowKit Go.Maps

def smallB (n : Int) : Bool := if 4294967296 ≤ n then false else decide ((partsD n).2 = 0) && decide ((partsD n).1.length = 1) && decide (((partsD n).1.getD 0 (0, 0)).2 = 1)

set_option maxHeartbeats 1000000 in
theorem Small_any (n : Int) (w : World) (h0 : 0 ≤ n) (h1 : n ≤ 18446744073709551615) :
    Calls Tryd.prog 19 #[.int .u64 n] w (Ret (.bool (smallB n)) w) := by
  by_cases hb : 4294967296 ≤ n
  · have e : smallB n = false := by rw [smallB, if_pos hb]
    rw [e]
    clear e
    go_enter Tryd.func19, Tryd.ntmps19
    go_wp2_with fail
    go_ret
    exact ⟨rfl, (by repeat (first | exact Ext.refl _ | assumption | refine Ext.drew ?_ | refine Ext.drewN ?_ _ | refine Ext.alloc ?_ _ | refine Ext.trans ?_ (by assumption)))⟩
  · have e : smallB n = (decide ((partsD n).2 = 0) && decide ((partsD n).1.length = 1) && decide (((partsD n).1.getD 0 (0, 0)).2 = 1)) := by rw [smallB, if_neg hb]
    have hP := Parts_any n
    obtain ⟨⟨ps, er⟩, ed⟩ : ∃ x, partsD n = x := ⟨_, rfl⟩
    have hO := partsD_Ok n
    rw [ed] at e hP hO
    simp only at e hO
    have E := hid e; have HP := hid @hP; have HO := hid hO
    clear e hP ed hO
    by_cases h0e : er = 0
    · have b0 : (er == 0) = true := by simpa using h0e
      by_cases hl : ps.length = 1
      · have b1 : ((ps.length : Int) == 1) = true := by simp; omega
        have hE := E.out
        rw [decide_eq_true h0e, decide_eq_true hl, Bool.true_and, Bool.true_and] at hE
        have HE := hid hE
        have hg := HO.out.get (k := 0) (by omega)
        obtain ⟨⟨q1, q2⟩, eq⟩ : ∃ q, ps.getD 0 (0, 0) = q := ⟨_, rfl⟩
        have EQ := hid eq
        have HL := hid hl
        clear hE h0e hl hg eq
        go_enter Tryd.func19, Tryd.ntmps19
        go_wp2_with fail
        refine (HP.out _ h0 h1).mono ?_; rintro _ w1 ⟨v, rfl, hrow, x1⟩
        have hv := Parts.own hrow
        obtain ⟨a, cap, rfl, p1, p2, p3⟩ := hv
        obtain ⟨b, off, rfl, hbl, hc⟩ := p3 (by have := HL.out; omega)
        obtain ⟨c1, c2⟩ := hc 0 (by have := HL.out; omega)
        simp only [Nat.zero_mul, Nat.add_zero] at c1 c2
        rw [EQ.out] at c1 c2
        simp only at c1 c2
        clear hrow p3 hc
        have hl1 := HL.out
        go_wp2_with fail
        go_ret
        refine ⟨ret_bool ?_, (by repeat (first | exact Ext.refl _ | assumption | refine Ext.drew ?_ | refine Ext.drewN ?_ _ | refine Ext.alloc ?_ _ | refine Ext.trans ?_ (by assumption)))⟩
        rw [HE.out, EQ.out]
        rw [Bool.eq_iff_iff]; simp
      · have b1 : ((ps.length : Int) == 1) = false := by simp; omega
        have e2 : smallB n = false := by rw [E.out, decide_eq_false hl]; simp
        rw [e2]
        clear e2 E hl h0e
        go_enter Tryd.func19, Tryd.ntmps19
        go_wp2_with fail
        refine (HP.out _ h0 h1).mono ?_; rintro _ w1 ⟨v, rfl, hrow, x1⟩
        obtain ⟨a, cap, rfl⟩ := ownsRow_slice hrow
        clear hrow
        go_wp2_with fail
        go_ret
        exact ⟨rfl, (by repeat (first | exact Ext.refl _ | assumption | refine Ext.drew ?_ | refine Ext.drewN ?_ _ | refine Ext.alloc ?_ _ | refine Ext.trans ?_ (by assumption)))⟩
    · have b0 : (er == 0) = false := by simpa using h0e
      have e2 : smallB n = false := by rw [E.out, decide_eq_false h0e]; simp
      rw [e2]
      clear e2 E h0e
      go_enter Tryd.func19, Tryd.ntmps19
      go_wp2_with fail
      refine (HP.out _ h0 h1).mono ?_; rintro _ w1 ⟨v, rfl, hrow, x1⟩
      obtain ⟨a, cap, rfl⟩ := ownsRow_slice hrow
      clear hrow
      go_wp2_with fail
      go_ret
      exact ⟨rfl, (by repeat (first | exact Ext.refl _ | assumption | refine Ext.drew ?_ | refine Ext.drewN ?_ _ | refine Ext.alloc ?_ _ | refine Ext.trans ?_ (by assumption)))⟩

set_option maxRecDepth 100000 in
set_option maxHeartbeats 1000000 in
theorem Build_none (p : Int) (ps : List (Int × Int)) (w : World) (hp0 : 3 ≤ p) (hp1 : p ≤ 9223372036854775807) (hd : partsD (p - 1) = (ps, 0)) (hq : primeB p = false) (hT : Tab w) :
    Calls Tryd.prog 21 #[.int .u64 p] w (Ret (.tuple #[.slice none 0 0, .int .i64 6]) w) := by
  have hmm := @run_makeMap Tryd.prog
  have hpr : rightB p = true := rightB_mk ⟨by omega, hp1⟩
  have HPN := hid (fun w0 (ht : Tab w0) => proof_none p ps w0 hp0 hp1 hd hq ht)
  have HT := hid hT; have HR := hid hpr
  have b2 : (p == 2) = false := by simp; omega
  have hkey := hid (u64_keyOf (n := p) (by omega) (by omega))
  have hown := hid ((World.ownsMap_made w Tryd.prog 23 rawElem).alloc (.cells #[.int .u64 p] 23))
  clear hT hpr hd hq
  go_enter Tryd.func21, Tryd.ntmps21
  go_wp2_with fail
  refine (right_any _ _ (by omega) (by omega)).mono ?_; rintro _ w1 ⟨rfl, h1⟩
  rw [HR.out]
  subst h1
  go_wp2_with fail
  refine wp_loop_rounds 1 ?_
  rw [rounds_succ]
  go_wp2_with (first | (at_lookup; refine wpList_lookup_raw _ rfl _ _ 56 rfl 23 42 u64_key Tryd.underlying56 (proof_zero _) w.heap.size _ _ rfl hown.out _ _ rfl hkey.out _ rfl ?_) | fail)
  refine (HPN.out _ (HT.out.ext (by repeat (first | exact Ext.refl _ | assumption | refine Ext.drew ?_ | refine Ext.drewN ?_ _ | refine Ext.alloc ?_ _ | refine Ext.trans ?_ (by assumption))))).mono ?_; rintro _ w2 ⟨rfl, x2⟩
  go_wp2_with fail
  (try simp only [Exit.inBlock, Exit.then])
  refine bodyPost_ret (results_tmp2 rfl _ _ _) rfl ?_
  exact ⟨rfl, (by repeat (first | exact Ext.refl _ | assumption | refine Ext.drew ?_ | refine Ext.drewN ?_ _ | refine Ext.alloc ?_ _ | refine Ext.trans ?_ (by assumption)))⟩
end Go.Proofs.YtncidpckokclbaaDoor
