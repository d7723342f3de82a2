/- PrimePowers: whatever the number, the law answers true, and nothing that was there has turned. No condition. -/
import Derived.Test.YtncidpckokclbaaDoorPowMath
import Derived.Test.YtncidpckokclbaaDoorDoor
namespace Go.Proofs.YtncidpckokclbaaDoor.primePowers
open Go.ChangeShapes Go.WideShapes Go.ChangeAt Go.RowKit Go.Maps

theorem partsD_small {n : Int} (h1 : 1 ≤ n) (h2 : n < 4294967296) : (partsD n).2 = 0 := by
  unfold partsD
  rw [if_neg (by omega)]
  have := partsF_ok 65535 2 n (by omega) (by omega) h1
  simp only
  rw [if_neg (by omega)]
  split <;> rfl
set_option maxHeartbeats 400000 in
theorem Build_low (p : Int) (w : World) (hp0 : 0 ≤ p) (hp1 : p < 2) : Calls Tryd.prog 21 #[.int .u64 p] w (Ret (.tuple #[.slice none 0 0, .int .i64 1]) w) := by
  have hr : rightB p = false := by
    cases e : rightB p with
    | false => rfl
    | true => have := rightB_true e; omega
  have HR := hid hr
  clear hr
  go_enter Tryd.func21, Tryd.ntmps21
  go_wp2_with fail
  refine (right_any _ _ (by omega) (by omega)).mono ?_; rintro _ w1 ⟨rfl, h1⟩
  rw [HR.out]
  subst h1
  go_wp2_with fail
  go_ret2
  exact ⟨rfl, (by repeat (first | exact Ext.refl _ | assumption | refine Ext.drew ?_ | refine Ext.drewN ?_ _ | refine Ext.alloc ?_ _ | refine Ext.trans ?_ (by assumption)))⟩
theorem good_nil : Good [] genZ := by refine ⟨?_, ?_, ?_, ?_, ?_, ?_, ?_, ?_⟩ <;> (intro n hn; simp at hn)
theorem last_of {ss : List Int} {p : Int} (hs : ss.Pairwise (· < ·)) (hp : p ∈ ss) (hle : ∀ n ∈ ss, n ≤ p) : ∃ m, ss.length = m + 1 ∧ ss.getD m 0 = p := by
  obtain ⟨i, hi, e⟩ := List.mem_iff_getElem.1 hp
  refine ⟨ss.length - 1, by omega, ?_⟩
  by_cases h : i = ss.length - 1
  · rw [← h]; simp [List.getD, List.getElem?_eq_getElem hi, e]
  · have h1 := List.pairwise_iff_getElem.1 hs i (ss.length - 1) hi (by omega) (by omega)
    have h2 := hle _ (List.getElem_mem (show ss.length - 1 < ss.length by omega))
    omega
theorem zeros : Tryd.zeroCells48 = Array.replicate 3000 (.bool false) := by kernel_rfl
/-- which numbers have come -/
def seenB (P g i k : Nat) : Bool := (List.range i).any fun j => Nat.beq (g ^ j % P) k
theorem seenB_succ (P g i k : Nat) : seenB P g (i + 1) k = (seenB P g i k || Nat.beq (g ^ i % P) k) := by
  simp [seenB, List.range_succ]
theorem seenB_new {P g i : Nat} (h : Root P g) (hi : i < P - 1) : seenB P g i (g ^ i % P) = false := by
  rw [seenB, List.any_eq_false]
  intro j hj he
  exact h.inj j i (List.mem_range.1 hj) hi (by simpa [Nat.beq_eq] using he)

set_option maxRecDepth 100000 in
set_option maxHeartbeats 2000000 in
theorem walk (p0 : Int) (w : World) (hw0 : (Lit.int .u64 p0).wf = true) (hT : Tab w) :
    Calls Tryd.prog 7 #[.int .u64 p0] w (Ret (.bool true) w) := by
  have hp0 := u64_wf hw0
  have HT := hid hT
  clear hT hw0
  obtain ⟨P, ep⟩ : ∃ P : Nat, p0 % 3000 = P := ⟨(p0 % 3000).toNat, by omega⟩
  have hP : P < 3000 := by omega
  by_cases h2 : P < 2
  · have HB := hid (fun w0 => Build_low P w0 (by omega) (by omega))
    go_enter Tryd.func7, Tryd.ntmps7
    go_wp2_with fail
    refine (awake02 _ HT.out).mono ?_; rintro _ w1 ⟨rfl, x1⟩
    go_wp2_with fail
    refine (HB.out _).mono ?_; rintro _ w2 ⟨rfl, x2⟩
    go_wp2_with fail
    go_ret
    exact ⟨rfl, (by repeat (first | exact Ext.refl _ | assumption | refine Ext.drew ?_ | refine Ext.drewN ?_ _ | refine Ext.alloc ?_ _ | refine Ext.trans ?_ (by assumption)))⟩
  by_cases h3 : P = 2
  · have HB := hid (fun w0 (ht : Tab w0) => Build_ok [] genZ good_nil (by simp) P w0 (by omega) (by omega) (.inl (by omega)) ht)
    have b2 : ((P : Int) == 2) = true := beq_iff_eq.2 (by omega)
    have H3 := hid h3
    clear h3
    go_enter Tryd.func7, Tryd.ntmps7
    go_wp2_with fail
    refine (awake02 _ HT.out).mono ?_; rintro _ w1 ⟨rfl, x1⟩
    go_wp2_with fail
    refine (HB.out _ (HT.out.ext x1)).mono ?_; rintro _ w2 ⟨v, ss, ⟨rfl, x2⟩, -⟩
    go_wp2_with fail
    go_ret
    exact ⟨rfl, (by repeat (first | exact Ext.refl _ | assumption | refine Ext.drew ?_ | refine Ext.drewN ?_ _ | refine Ext.alloc ?_ _ | refine Ext.trans ?_ (by assumption)))⟩
  have b2 : ((P : Int) == 2) = false := beq_eq_false_iff_ne.2 (by omega)
  cases hpc : primeC P with
  | false =>
    have hpd : partsD ((P : Int) - 1) = ((partsD ((P : Int) - 1)).1, 0) := by rw [← partsD_small (n := (P : Int) - 1) (by omega) (by omega)]
    have HB := hid (fun w0 (ht : Tab w0) => Build_none P _ w0 (by omega) (by omega) hpd (by rw [primeB_C P (by omega) (by omega)]; exact hpc) ht)
    clear hpd hpc
    go_enter Tryd.func7, Tryd.ntmps7
    go_wp2_with fail
    refine (awake02 _ HT.out).mono ?_; rintro _ w1 ⟨rfl, x1⟩
    go_wp2_with fail
    refine (HB.out _ (HT.out.ext x1)).mono ?_; rintro _ w2 ⟨rfl, x2⟩
    go_wp2_with fail
    go_ret
    exact ⟨rfl, (by repeat (first | exact Ext.refl _ | assumption | refine Ext.drew ?_ | refine Ext.drewN ?_ _ | refine Ext.alloc ?_ _ | refine Ext.trans ?_ (by assumption)))⟩
  | true =>
    have hgc : goodC P = true := by
      have := check_all P hP
      simp only [checkP, hpc, decide_eq_false (show ¬ P < 3 by omega), Bool.not_true, Bool.false_or] at this
      exact this
    have hg2 := hgc
    simp only [goodC, Bool.and_eq_true, List.all_eq_true, decide_eq_true_eq] at hg2
    obtain ⟨⟨⟨g1, g2⟩, g3⟩, -⟩ := hg2
    obtain ⟨hr1, hr2, hroot⟩ := good_root (g1 P (dom_head 11 P))
    have HB := hid (fun w0 (ht : Tab w0) => Build_ok (domC 12 P) genZ (good_dom hgc) g2 P w0 (by omega) (by omega) (.inr (dom_head 11 P)) ht)
    have G3 := hid g3
    have hgz : genZ (P : Int) = (genN P : Nat) := by simp [genZ]
    generalize genN P = g at *
    have Hgz := hid hgz; have HR := hid hroot
    have hrt : rightB P = true := rightB_mk ⟨by omega, by omega⟩
    have HRT := hid hrt
    clear hpc hgc g1 g2 g3 hgz hroot hrt
    go_enter Tryd.func7, Tryd.ntmps7
    go_wp2_with fail
    refine (awake02 _ HT.out).mono ?_; rintro _ w1 ⟨rfl, x1⟩
    go_wp2_with fail
    refine (HB.out _ (HT.out.ext x1)).mono ?_; rintro _ w2 ⟨v, ss, ⟨rfl, x2⟩, hps, hss, hin, hpin, -⟩
    obtain ⟨m, hm, hlast⟩ := last_of hss (hpin.resolve_left (by omega)) (fun n hn => G3.out n (hin n hn).1)
    have hw2 : Ext w w2 := (by repeat (first | exact Ext.refl _ | assumption | refine Ext.drew ?_ | refine Ext.drewN ?_ _ | refine Ext.alloc ?_ _ | refine Ext.trans ?_ (by assumption)))
    obtain ⟨a, cap, rfl, c1, c2, c3⟩ := hps
    have hLl : (ss.map (mkPrf genZ)).length = ss.length := by simp
    rw [hLl] at c1 c3 ⊢
    obtain ⟨b, off, rfl, hb, hc⟩ := c3 (by omega)
    have hcr := (hc m (by omega)).2.1
    have e1 : ((ss.map (mkPrf genZ)).getD m .zero).root = (g : Int) := by
      have : (ss.map (mkPrf genZ)).getD m .zero = mkPrf genZ (ss.getD m 0) := by simp [List.getD, List.getElem?_eq_getElem (show m < ss.length by omega)]
      rw [this, hlast]; exact Hgz.out
    rw [e1] at hcr
    generalize ss.length = n at *
    have hnm : (n : Int) - 1 = (m : Int) := by omega
    have hmn : m < n := by omega
    have b3 : ((n : Int) == 0) = false := beq_eq_false_iff_ne.2 (by omega)
    have Hm := hid hm
    clear hm hc c3 e1 hLl hss hin hpin hlast
    go_wp2_with fail
    go_loopw [7, 6] (fun i x wr => ∃ (k : Nat) (cs : Array Value), i = .int .u64 k ∧ x = .int .u64 ((g ^ k % P : Nat) : Int) ∧ k + 1 ≤ P ∧ Blk wr w2.heap.size 48 cs ∧ Hid (∀ y, y < 3000 → cs[y]? = some (.bool (seenB P g k y))) ∧ Ext w2 wr) (fun i _ _ => P - (intOf i).toNat)
    case atStart =>
      refine ⟨0, _, rfl, ?_, by omega, Blk.new _ _ _, hid (fun y hy => ?_), (Ext.refl _).alloc _⟩
      · rw [Nat.pow_zero, Nat.mod_eq_of_lt (by omega)]; rfl
      · rw [zeros]; simp [seenB, hy]
    case round =>
      obtain ⟨k, cs, rfl, rfl, hk, hbl, hcs, hwr⟩ := hrel
      have hX0 := HR.out.pos k
      have hX1 := Nat.mod_lt (g ^ k) (show 0 < P by omega)
      have hY := Nat.mod_lt (g ^ (k + 1)) (show 0 < P by omega)
      have hsn := hid (fun h => seenB_new (i := k) HR.out h)
      have hst := hid (fun y => seenB_succ P g k y)
      have hmul : (g ^ k % P) * g % P = g ^ (k + 1) % P := by rw [Nat.pow_succ, Nat.mul_mod (g ^ k) g P, Nat.mul_mod (g ^ k % P) g P, Nat.mod_mod]
      have h1k := hid (fun (h : k = P - 1) => (show g ^ k % P = 1 by rw [h]; exact HR.out.one))
      obtain ⟨Y, eY⟩ : ∃ Y, g ^ (k + 1) % P = Y := ⟨_, rfl⟩
      rw [eY] at hY hmul
      have EY := hid eY
      clear eY
      generalize g ^ k % P = X at *
      have gX := (hbl.cell X).trans (hcs.out X (by omega))
      have hsz : X < cs.size := (Array.getElem?_eq_some_iff.1 (hcs.out X (by omega))).1
      have hww : Ext w wr := hw2.trans hwr
      by_cases hlt : k + 1 < P
      · have d1 : decide ((k : Int) + 1 < (P : Int)) = true := by simp; omega
        have d2 : ((X : Int) == 0) = false := beq_eq_false_iff_ne.2 (by omega)
        have d3 : decide ((P : Int) ≤ (X : Int)) = false := by simp; omega
        have d4 : (X : Int) < 3000 := by omega
        have d5 : X < 3000 := by omega
        rw [hsn.out (by omega)] at gX
        have gF := hbl.frozen X
        have hne : b ≠ w2.heap.size := by omega
        have gR : (wr.setCell ⟨w2.heap.size, X, none⟩ (.bool true)).cell? ⟨b, off + m * 3 + 1, none⟩ = some (.int .u64 g) :=
          (World.cell?_of_block (Below.heap_setCell wr ⟨w2.heap.size, X, none⟩ (.bool true) b hne)).trans ((hwr.cells _ _ hb).trans hcr)
        have HMul := hid (fun w0 => mul_as P X g Y w0 HRT.out (by omega) (by omega) (by omega) (by omega) (by rw [← Int.natCast_mul, ← Int.natCast_emod, hmul]))
        have hbs := hid (hbl.set_ X (.bool true))
        have hes := hwr.setCell (p := ⟨w2.heap.size, X, none⟩) (Nat.le_refl _) (.bool true)
        clear hmul
        go_wp2_with fail
        refine (HMul.out _).mono ?_; rintro _ w5 ⟨rfl, x5⟩
        go_wp2_with fail
        go_roundw
        case rel =>
          refine ⟨k + 1, cs.setIfInBounds X (.bool true), by go_num, by rw [EY.out], by omega, hbs.out.ext x5, hid (fun y hy => ?_), hes.trans x5⟩
          rw [hst.out y, Array.getElem?_setIfInBounds]
          by_cases e : X = y
          · subst e
            rw [if_pos rfl, if_pos hsz, show Nat.beq X X = true by rw [Nat.beq_eq], Bool.or_true]
          · rw [if_neg e, hcs.out y hy, show Nat.beq X y = false by rw [← Bool.not_eq_true, Nat.beq_eq]; exact e, Bool.or_false]
        case measure => simp [intOf]; omega
      · have d1 : decide ((k : Int) + 1 < (P : Int)) = false := by simp; omega
        have hX := h1k.out (by omega)
        have d2 : ((X : Int) == 1) = true := beq_iff_eq.2 (by omega)
        clear hmul gX
        have HX := hid hX
        clear hX
        go_wp2_with fail
        go_ret
        exact ⟨rfl, (by repeat (first | exact Ext.refl _ | assumption | refine Ext.drew ?_ | refine Ext.drewN ?_ _ | refine Ext.alloc ?_ _ | refine Ext.trans ?_ (by assumption)))⟩
theorem contract (H : Type) (enc : TypeId × Value → H) (W : World) (base : Nat) (args : Array Value) (ds gs : List (DataW H)) (before : List MemPlace)
    (hval : ∀ (j : Nat) t v, Tryd.f7.params[j]? = some t → args[j]? = some v → Value.okWide Tryd.prog W .any base t v)
    (hW : DataW.Whole enc Tryd.prog Tryd.f7.params.toList Rows.primePowersSpec.vars false W args.toList ds gs before) (hL : laidMetH Tryd.prog Rows.primePowersRow.laid W) :
    Calls Tryd.prog 7 args W fun e W' => ∃ v, e = .returned v ∧ Rows.primePowersSpec.post enc Tryd.prog Tryd.f7 false true false false W args v W' := by
  have hW' := hW
  obtain ⟨p, q, hA0, hV, rfl, _, _⟩ := hW
  have hA : DataW.TrodAll enc Tryd.prog W 0 (fun _ => true) true Tryd.f7.params.toList args.toList ds p := hA0
  rw [Tryd.params7] at hA hval
  obtain ⟨v0, vs0, d0, ds0, p0, q0, hargs, rfl, rfl, h0, r0⟩ := trodAll_cons hA
  obtain ⟨rfl, rfl, rfl⟩ := trodAll_nil r0
  obtain rfl : args = #[v0] := by cases args; simp_all
  obtain ⟨rfl, rfl⟩ := trodVars_none hV
  obtain ⟨a0, rfl, rfl, rfl, w0⟩ := open_int Tryd.underlying23 (hval 0 23 v0 rfl rfl) h0
  refine (walk a0 W w0 (tab_of hL)).mono fun e W' ⟨he, hg⟩ => ⟨_, he, ?_⟩
  exact law_post (by kernel_rfl) (by kernel_rfl) rfl Tryd.underlying4 rfl rfl hW' hg
theorem laid_met (os : Os) : laidMet Tryd.prog Rows.primePowersRow.laid ((laidWorld os).forCall (fun _ _ => 0) ⟨#[], #[.int .u64 0], []⟩).memory :=
  laidMet_of_run' 70 (by kernel_rfl) (by kernel_rfl)
theorem reads (os : Os) {H : Type} (enc : TypeId × Value → H) : ∃ places, DataW.whole enc Tryd.prog ((laidWorld os).forCall (fun _ _ => 0) ⟨#[], #[.int .u64 0], []⟩).memory Tryd.f7.params.toList Rows.primePowersSpec.vars false #[(Value.int .u64 0)].toList 8 = some ([.lit (.int .u64 0)], [], places) :=
  ⟨[], by kernel_rfl⟩
set_option maxRecDepth 100000 in
theorem lifted (os : Os) (started : os.Started) (H : Type) (enc : TypeId × Value → H) (F : Stop.Interp) :
    ReturnsInHanded {} Tryd.checked os 7 .any ((OpenSpec.ofChange Rows.primePowersSpec).preRow enc Tryd.prog Tryd.f7 Rows.primePowersRow.domain false Rows.primePowersRow.laid) (((OpenSpec.ofChange Rows.primePowersSpec).at F).post enc Tryd.prog Tryd.f7 false true false false) := by
  obtain ⟨places, hx⟩ := reads os enc
  refine returnsInHanded_of_row (C := Tryd.checked) (s := OpenSpec.ofChange Rows.primePowersSpec) own started (by kernel_rfl) Tryd.func7
    (witness_row_at (enc := enc) (C := Tryd.checked) false (laidWorld os) #[.int .u64 0] rfl (by kernel_rfl) (by kernel_rfl) (by kernel_rfl)
      (OpenSpec.preRow_of_cond 8 hx (by kernel_rfl) (fun k hk => by cases hk) (by kernel_rfl) (laid_met os))) ?_
  intro W base args ds gs before hval hW _ _ _ hL _ _
  exact contract H enc W base args ds gs before hval hW hL
theorem said : Rows.PrimePowersSaid :=
  OpenClaim.holds_of_cond 7 Tryd.f7 rfl rfl rfl rfl rfl rfl rfl ⟨rfl, rfl, rfl, rfl, rfl⟩ rfl rfl rfl rfl rfl (by kernel_rfl) Tryd.func7 (by kernel_rfl)
    (of_decide_eq_true (by kernel_rfl)) (by unfold Func.isWrapper; first | (rw [if_pos (by decide +kernel)]; kernel_rfl) | (rw [if_neg (by decide +kernel)]; exact ⟨rfl, rfl⟩))
    (fun os started H enc _ F => by rw [OpenClaim.pre_eq_preRow]; exact lifted os started H enc F)
theorem plain (f : FuncId) (fn : Func) (hf : Tryd.pinned.checked.prog.funcNamed "affidavit/affidavitlaw02.PrimePowers" = some f) (hfn : Tryd.pinned.checked.prog.funcs[f]? = some fn) :
    false = Tryd.pinned.checked.prog.looks [] ∧ ∀ (j : Nat) t, fn.params[j]? = some t → Tryd.pinned.checked.prog.wantsStandIn t = false := by
  obtain rfl : f = 7 := Option.some.inj ((show Tryd.prog.funcNamed "affidavit/affidavitlaw02.PrimePowers" = some 7 by kernel_rfl).symm.trans hf) |>.symm
  obtain rfl : fn = Tryd.f7 := (Option.some.inj (Tryd.func7.symm.trans hfn)).symm
  refine ⟨by kernel_rfl, fun j t ht => ?_⟩
  rw [Tryd.params7] at ht
  have hm : t ∈ ([23] : List Nat) := by simpa using Array.mem_of_getElem? ht
  have hall : ∀ t ∈ ([23] : List Nat), Tryd.prog.wantsStandIn t = false := List.all_eq_true.1 (show ([23] : List Nat).all (fun t => Tryd.prog.wantsStandIn t == false) = true by kernel_rfl) |> fun h t ht => by simpa using h t ht
  exact hall t hm

/-- the statement -/
theorem card : Rows.PrimePowersCardSaid :=
  Claim7.holds_tied_plain_at .later [] _ _ _ _ said (fun _ h => by cases h) (by kernel_rfl) (fun _ h => by cases h) primePowers_row_tie rfl ⟨rfl, rfl⟩ (by kernel_rfl) rfl plain (by kernel_rfl)
end Go.Proofs.YtncidpckokclbaaDoor.primePowers
